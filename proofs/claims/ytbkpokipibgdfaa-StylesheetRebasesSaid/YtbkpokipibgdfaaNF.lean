/- Layer 8: the texts JJ Kg. -/
import Derived.Test.YtbkpokipibgdfaaNE
import Derived.Deep.RegionHeld3

/- Layer 7: the reference's Check, walked. -/
namespace Go.Proofs.Ytbkpokipibgdfaa
open Go.RowKit Go.Lib

set_option maxRecDepth 100000 in
set_option maxHeartbeats 16000000 in
theorem rcheck_in (x : Int) (A : Option Addr) (len c : Nat) (l : List Pr) (hl : l.length = len) (hc : len ≤ c ∧ c ≤ maxLen) (hx : 1 ≤ x ∧ x ≤ 10) (w : World) (hA : PrAt w A l) :
    Calls Try.prog 57 #[.int .i64 x, .slice A len c] w fun e w' => e = .returned (.int .i64 (chkP x l)) ∧ Below w.heap.size w w' := by
  have HA := Go.Lib.hid hA
  have HL := Go.Lib.hid hl
  have HX := Go.Lib.hid hx
  obtain ⟨hc1, hc2⟩ := hc
  unfold maxLen at hc2
  obtain ⟨hx1, hx2⟩ := hx
  clear hA hl
  go_enter Try.func57, Try.ntmps57
  go_wp2_with fail
  clear hx1 hx2
  go_loopw [5] (fun i wr => ∃ k : Nat, k ≤ len ∧ i = .int .i64 k ∧ Hid (Below w.heap.size w wr) ∧ Hid (∀ j, j < k → errK x l j = 0)) (fun i _ => len - (intOf i).toNat)
  case atStart => exact ⟨0, Nat.zero_le _, rfl, Go.Lib.hid (Below.refl _ _), Go.Lib.hid (fun j h => by omega)⟩
  case round =>
    obtain ⟨k, hk, rfl, HB, HN⟩ := hrel
    by_cases hlt : k < len
    · have hkl : k < l.length := by rw [HL.out]; exact hlt
      rcases HA.out with hA0 | ⟨g, o', rfl, hg, hcl⟩
      · rw [hA0] at hkl; exact absurd hkl (Nat.not_lt_zero _)
      obtain ⟨h0, h1⟩ := hcl k hkl
      have c0 := (HB.out.cell (p := ⟨g, o' + k * 2, none⟩) hg).trans h0
      have c1 := (HB.out.cell (p := ⟨g, o' + k * 2 + 1, none⟩) hg).trans h1
      have hgr := Nat.lt_of_lt_of_le hg HB.out.size
      have hgy : l.getD k (0, 0) = l[k] := by rw [List.getD_eq_getElem?_getD, List.getElem?_eq_getElem hkl]; rfl
      clear h0 h1
      generalize l[k] = y at c0 c1 hgy
      have HY := Go.Lib.hid hgy
      clear hgy
      obtain ⟨ya, yb⟩ := y
      dsimp only at c0 c1
      have cF := fun w' => rfits_anyB x ya w'
      have cO := fun w' => of_anyB ya w'
      have hval := fun h => valOf_row (x := x) (p := ya) (v := yb) h
      generalize rowZ ya = zr at cO hval
      obtain ⟨z0, z1, z2, lo, hi, z5⟩ := zr
      dsimp only at cO hval
      cases hf : fitsB x ya with
      | false =>
        rw [hf] at cF
        have HE := Go.Lib.hid (errK_4 HY.out hf)
        clear hf hcl hval
        cases k with
        | zero =>
          simp only [Nat.zero_mul, Nat.add_zero] at c0 c1
          go_wp2_with fail
          refine (cO _).mono ?_
          rintro e w2 ⟨⟨is, rfl⟩, hb2⟩
          have B1 := hb2.alloc hb2.size (.cells #[.int .i64 z0, .int .i64 z2, .int .i64 lo, .int .i64 hi, .int .i64 z5, .string z1] 57)
          have ob := ObjAt.new w2 #[.int .i64 z0, .int .i64 z2, .int .i64 lo, .int .i64 hi, .int .i64 z5, .string z1] 57
          have e0 := (B1.cell (p := ⟨g, o', none⟩) hgr).trans c0
          have e1 := (B1.cell (p := ⟨g, o' + 1, none⟩) hgr).trans c1
          go_wp2_with fail
          generalize w2.heap.size = bx at ob ⊢
          generalize w2.alloc (.cells #[.int .i64 z0, .int .i64 z2, .int .i64 lo, .int .i64 hi, .int .i64 z5, .string z1] 57) = w2' at ob B1 ⊢
          refine (cF _).mono ?_
          rintro e w3 ⟨rfl, hb3⟩
          have ob3 := ob.below hb3
          have s2 := ob3.s2
          have s3 := ob3.s3
          have B2 := B1.trans (hb3.mono B1.size)
          clear ob ob3 B1 hb2 e0 e1
          go_wp2
          go_ret
          exact ⟨ret_int' (chk_at HX.out hkl HN.out _ HE.out (by decide)).symm, HB.out.trans (B2.mono HB.out.size)⟩
        | succ j =>
          go_wp2_with fail
          refine (cO _).mono ?_
          rintro e w2 ⟨⟨is, rfl⟩, hb2⟩
          have B1 := hb2.alloc hb2.size (.cells #[.int .i64 z0, .int .i64 z2, .int .i64 lo, .int .i64 hi, .int .i64 z5, .string z1] 57)
          have ob := ObjAt.new w2 #[.int .i64 z0, .int .i64 z2, .int .i64 lo, .int .i64 hi, .int .i64 z5, .string z1] 57
          have e0 := (B1.cell (p := ⟨g, o' + (j + 1) * 2, none⟩) hgr).trans c0
          have e1 := (B1.cell (p := ⟨g, o' + (j + 1) * 2 + 1, none⟩) hgr).trans c1
          go_wp2_with fail
          generalize w2.heap.size = bx at ob ⊢
          generalize w2.alloc (.cells #[.int .i64 z0, .int .i64 z2, .int .i64 lo, .int .i64 hi, .int .i64 z5, .string z1] 57) = w2' at ob B1 ⊢
          refine (cF _).mono ?_
          rintro e w3 ⟨rfl, hb3⟩
          have ob3 := ob.below hb3
          have s2 := ob3.s2
          have s3 := ob3.s3
          have B2 := B1.trans (hb3.mono B1.size)
          clear ob ob3 B1 hb2 e0 e1
          go_wp2
          go_ret
          exact ⟨ret_int' (chk_at HX.out hkl HN.out _ HE.out (by decide)).symm, HB.out.trans (B2.mono HB.out.size)⟩
      | true =>
        rw [hf] at cF
        have HVV := Go.Lib.hid (hval hf)
        clear hval
        cases k with
        | zero =>
          have HE0 := Go.Lib.hid (errK_0 HY.out hf)
          dsimp only at HE0
          have HV := Go.Lib.hid (HE0.out.trans HVV.out)
          clear HE0 HVV
          simp only [Nat.zero_mul, Nat.add_zero] at c0 c1
          clear hf hcl
          go_wp2_with fail
          refine (cO _).mono ?_
          rintro e w2 ⟨⟨is, rfl⟩, hb2⟩
          have B1 := hb2.alloc hb2.size (.cells #[.int .i64 z0, .int .i64 z2, .int .i64 lo, .int .i64 hi, .int .i64 z5, .string z1] 57)
          have ob := ObjAt.new w2 #[.int .i64 z0, .int .i64 z2, .int .i64 lo, .int .i64 hi, .int .i64 z5, .string z1] 57
          have e0 := (B1.cell (p := ⟨g, o', none⟩) hgr).trans c0
          have e1 := (B1.cell (p := ⟨g, o' + 1, none⟩) hgr).trans c1
          go_wp2_with fail
          generalize w2.heap.size = bx at ob ⊢
          generalize w2.alloc (.cells #[.int .i64 z0, .int .i64 z2, .int .i64 lo, .int .i64 hi, .int .i64 z5, .string z1] 57) = w2' at ob B1 ⊢
          refine (cF _).mono ?_
          rintro e w3 ⟨rfl, hb3⟩
          have ob3 := ob.below hb3
          have s2 := ob3.s2
          have s3 := ob3.s3
          have B2 := B1.trans (hb3.mono B1.size)
          have c0' := (B2.cell (p := ⟨g, o', none⟩) hgr).trans c0
          have c1' := (B2.cell (p := ⟨g, o' + 1, none⟩) hgr).trans c1
          clear c0 c1 e0 e1 ob ob3 B1 hb2 hb3 cO cF
          have c0 := c0'
          have c1 := c1'
          clear c0' c1'
          go_wp2_with fail
          go_quiet (fail)
          have c0q : (w3.drewN nq).cell? ⟨g, o', none⟩ = some (.int .i64 ya) := c0
          have c1q : (w3.drewN nq).cell? ⟨g, o' + 1, none⟩ = some (.int .i64 yb) := c1
          have s2q : (w3.drewN nq).cell? ⟨bx, 2, none⟩ = some (.int .i64 lo) := s2
          have s3q : (w3.drewN nq).cell? ⟨bx, 3, none⟩ = some (.int .i64 hi) := s3
          have B2q : Below wr.heap.size wr (w3.drewN nq) := bdrew B2 nq
          clear c0 c1 s2 s3 B2
          generalize w3.drewN nq = w6 at c0q c1q s2q s3q B2q ⊢
          have c0 := c0q
          have c1 := c1q
          have s2 := s2q
          have s3 := s3q
          have B2 := B2q
          clear c0q c1q s2q s3q B2q
          go_wp2_with fail
          go_quiet (fail)
          have c0q : (w6.drewN nq).cell? ⟨g, o', none⟩ = some (.int .i64 ya) := c0
          have c1q : (w6.drewN nq).cell? ⟨g, o' + 1, none⟩ = some (.int .i64 yb) := c1
          have s2q : (w6.drewN nq).cell? ⟨bx, 2, none⟩ = some (.int .i64 lo) := s2
          have s3q : (w6.drewN nq).cell? ⟨bx, 3, none⟩ = some (.int .i64 hi) := s3
          have B2q : Below wr.heap.size wr (w6.drewN nq) := bdrew B2 nq
          clear c0 c1 s2 s3 B2
          generalize w6.drewN nq = w7 at c0q c1q s2q s3q B2q ⊢
          have c0 := c0q
          have c1 := c1q
          have s2 := s2q
          have s3 := s3q
          have B2 := B2q
          clear c0q c1q s2q s3q B2q
          go_wp2_with fail
          by_cases h1 : yb < lo
          · have HE := Go.Lib.hid (HV.out.trans (if_pos (.inl h1)))
            clear HV
            go_quiet (fail)
            have c0q : (w7.drewN nq).cell? ⟨g, o', none⟩ = some (.int .i64 ya) := c0
            have c1q : (w7.drewN nq).cell? ⟨g, o' + 1, none⟩ = some (.int .i64 yb) := c1
            have s2q : (w7.drewN nq).cell? ⟨bx, 2, none⟩ = some (.int .i64 lo) := s2
            have s3q : (w7.drewN nq).cell? ⟨bx, 3, none⟩ = some (.int .i64 hi) := s3
            have B2q : Below wr.heap.size wr (w7.drewN nq) := bdrew B2 nq
            clear c0 c1 s2 s3 B2
            generalize w7.drewN nq = w8 at c0q c1q s2q s3q B2q ⊢
            have c0 := c0q
            have c1 := c1q
            have s2 := s2q
            have s3 := s3q
            have B2 := B2q
            clear c0q c1q s2q s3q B2q
            go_wp2
            go_ret
            exact ⟨ret_int' (chk_at HX.out hkl HN.out _ HE.out (by decide)).symm, HB.out.trans (B2.mono HB.out.size)⟩
          · have h1' : decide (yb < lo) = false := decide_eq_false h1
            by_cases h2 : hi < yb
            · have HE := Go.Lib.hid (HV.out.trans (if_pos (.inr h2)))
              clear HV
              go_quiet (fail)
              have c0q : (w7.drewN nq).cell? ⟨g, o', none⟩ = some (.int .i64 ya) := c0
              have c1q : (w7.drewN nq).cell? ⟨g, o' + 1, none⟩ = some (.int .i64 yb) := c1
              have s2q : (w7.drewN nq).cell? ⟨bx, 2, none⟩ = some (.int .i64 lo) := s2
              have s3q : (w7.drewN nq).cell? ⟨bx, 3, none⟩ = some (.int .i64 hi) := s3
              have B2q : Below wr.heap.size wr (w7.drewN nq) := bdrew B2 nq
              clear c0 c1 s2 s3 B2
              generalize w7.drewN nq = w8 at c0q c1q s2q s3q B2q ⊢
              have c0 := c0q
              have c1 := c1q
              have s2 := s2q
              have s3 := s3q
              have B2 := B2q
              clear c0q c1q s2q s3q B2q
              go_wp2
              go_ret
              exact ⟨ret_int' (chk_at HX.out hkl HN.out _ HE.out (by decide)).symm, HB.out.trans (B2.mono HB.out.size)⟩
            · have HE := Go.Lib.hid (HV.out.trans (if_neg (fun h => h.elim h1 h2)))
              have h2' : decide (hi < yb) = false := decide_eq_false h2
              clear HV
              go_quiet (fail)
              have c0q : (w7.drewN nq).cell? ⟨g, o', none⟩ = some (.int .i64 ya) := c0
              have c1q : (w7.drewN nq).cell? ⟨g, o' + 1, none⟩ = some (.int .i64 yb) := c1
              have s2q : (w7.drewN nq).cell? ⟨bx, 2, none⟩ = some (.int .i64 lo) := s2
              have s3q : (w7.drewN nq).cell? ⟨bx, 3, none⟩ = some (.int .i64 hi) := s3
              have B2q : Below wr.heap.size wr (w7.drewN nq) := bdrew B2 nq
              clear c0 c1 s2 s3 B2
              generalize w7.drewN nq = w8 at c0q c1q s2q s3q B2q ⊢
              have c0 := c0q
              have c1 := c1q
              have s2 := s2q
              have s3 := s3q
              have B2 := B2q
              clear c0q c1q s2q s3q B2q
              go_wp2
              go_roundw
              case rel => exact ⟨0 + 1, by omega, by go_num, Go.Lib.hid (HB.out.trans (B2.mono HB.out.size)), Go.Lib.hid fun i hi => if e : i = 0 then by subst e; exact HE.out else HN.out i (by omega)⟩
              case measure => simp [intOf]; omega
        | succ j =>
          have hjl : j < l.length := by omega
          obtain ⟨h0, _⟩ := hcl j hjl
          have dd := (HB.out.cell (p := ⟨g, o' + j * 2, none⟩) hg).trans h0
          have hgz : l.getD j (0, 0) = l[j] := by rw [List.getD_eq_getElem?_getD, List.getElem?_eq_getElem hjl]; rfl
          clear h0 hcl
          generalize l[j] = z at dd hgz
          have HZ := Go.Lib.hid hgz
          clear hgz
          obtain ⟨za, zb⟩ := z
          dsimp only at dd
          have HF := Go.Lib.hid hf
          clear hf
          go_wp2_with fail
          refine (cO _).mono ?_
          rintro e w2 ⟨⟨is, rfl⟩, hb2⟩
          have B1 := hb2.alloc hb2.size (.cells #[.int .i64 z0, .int .i64 z2, .int .i64 lo, .int .i64 hi, .int .i64 z5, .string z1] 57)
          have ob := ObjAt.new w2 #[.int .i64 z0, .int .i64 z2, .int .i64 lo, .int .i64 hi, .int .i64 z5, .string z1] 57
          have e0 := (B1.cell (p := ⟨g, o' + (j + 1) * 2, none⟩) hgr).trans c0
          have e1 := (B1.cell (p := ⟨g, o' + (j + 1) * 2 + 1, none⟩) hgr).trans c1
          go_wp2_with fail
          generalize w2.heap.size = bx at ob ⊢
          generalize w2.alloc (.cells #[.int .i64 z0, .int .i64 z2, .int .i64 lo, .int .i64 hi, .int .i64 z5, .string z1] 57) = w2' at ob B1 ⊢
          refine (cF _).mono ?_
          rintro e w3 ⟨rfl, hb3⟩
          have ob3 := ob.below hb3
          have s2 := ob3.s2
          have s3 := ob3.s3
          have B2 := B1.trans (hb3.mono B1.size)
          have c0' := (B2.cell (p := ⟨g, o' + (j + 1) * 2, none⟩) hgr).trans c0
          have c1' := (B2.cell (p := ⟨g, o' + (j + 1) * 2 + 1, none⟩) hgr).trans c1
          have d0 := (B2.cell (p := ⟨g, o' + j * 2, none⟩) hgr).trans dd
          clear dd
          clear c0 c1 e0 e1 ob ob3 B1 hb2 hb3 cO cF
          have c0 := c0'
          have c1 := c1'
          clear c0' c1'
          by_cases he : ya = za
          · have HE := Go.Lib.hid (errK_7 HY.out HZ.out HF.out he)
            have e1 : (ya == za) = true := by simpa using he
            clear he
            go_wp2_with fail
            have q1 : (0 : Int) ≤ (j : Int) := by omega
            have q2 : (j : Int) < (len : Int) := by omega
            have q2' : (0 : Int) < (j : Int) + 1 := by omega
            have q4 : IntKind.i64.wrap (j : Int) = j := IntWalk.i64_in _ (by omega)
            go_quiet (fail)
            clear q1 q2 q2' q4
            have c0q : (w3.drewN nq).cell? ⟨g, o' + (j + 1) * 2, none⟩ = some (.int .i64 ya) := c0
            have c1q : (w3.drewN nq).cell? ⟨g, o' + (j + 1) * 2 + 1, none⟩ = some (.int .i64 yb) := c1
            have s2q : (w3.drewN nq).cell? ⟨bx, 2, none⟩ = some (.int .i64 lo) := s2
            have s3q : (w3.drewN nq).cell? ⟨bx, 3, none⟩ = some (.int .i64 hi) := s3
            have B2q : Below wr.heap.size wr (w3.drewN nq) := bdrew B2 nq
            have d0q : (w3.drewN nq).cell? ⟨g, o' + j * 2, none⟩ = some (.int .i64 za) := d0
            clear c0 c1 s2 s3 B2 d0
            generalize w3.drewN nq = w6 at c0q c1q s2q s3q B2q d0q ⊢
            have c0 := c0q
            have c1 := c1q
            have s2 := s2q
            have s3 := s3q
            have B2 := B2q
            have d0 := d0q
            clear c0q c1q s2q s3q B2q d0q
            go_wp2
            go_ret
            exact ⟨ret_int' (chk_at HX.out hkl HN.out _ HE.out (by decide)).symm, HB.out.trans (B2.mono HB.out.size)⟩
          · have e1 : (ya == za) = false := by simpa using he
            by_cases he2 : ya < za
            · have HE := Go.Lib.hid (errK_6 HY.out HZ.out HF.out he2)
              clear he
              go_wp2_with fail
              have q1 : (0 : Int) ≤ (j : Int) := by omega
              have q2 : (j : Int) < (len : Int) := by omega
              have q2' : (0 : Int) < (j : Int) + 1 := by omega
              have q4 : IntKind.i64.wrap (j : Int) = j := IntWalk.i64_in _ (by omega)
              go_quiet (fail)
              clear q1 q2 q2' q4
              have c0q : (w3.drewN nq).cell? ⟨g, o' + (j + 1) * 2, none⟩ = some (.int .i64 ya) := c0
              have c1q : (w3.drewN nq).cell? ⟨g, o' + (j + 1) * 2 + 1, none⟩ = some (.int .i64 yb) := c1
              have s2q : (w3.drewN nq).cell? ⟨bx, 2, none⟩ = some (.int .i64 lo) := s2
              have s3q : (w3.drewN nq).cell? ⟨bx, 3, none⟩ = some (.int .i64 hi) := s3
              have B2q : Below wr.heap.size wr (w3.drewN nq) := bdrew B2 nq
              have d0q : (w3.drewN nq).cell? ⟨g, o' + j * 2, none⟩ = some (.int .i64 za) := d0
              clear c0 c1 s2 s3 B2 d0
              generalize w3.drewN nq = w6 at c0q c1q s2q s3q B2q d0q ⊢
              have c0 := c0q
              have c1 := c1q
              have s2 := s2q
              have s3 := s3q
              have B2 := B2q
              have d0 := d0q
              clear c0q c1q s2q s3q B2q d0q
              go_wp2_with fail
              have q1 : (0 : Int) ≤ (j : Int) := by omega
              have q2 : (j : Int) < (len : Int) := by omega
              have q2' : (0 : Int) < (j : Int) + 1 := by omega
              have q4 : IntKind.i64.wrap (j : Int) = j := IntWalk.i64_in _ (by omega)
              go_quiet (fail)
              clear q1 q2 q2' q4
              have c0q : (w6.drewN nq).cell? ⟨g, o' + (j + 1) * 2, none⟩ = some (.int .i64 ya) := c0
              have c1q : (w6.drewN nq).cell? ⟨g, o' + (j + 1) * 2 + 1, none⟩ = some (.int .i64 yb) := c1
              have s2q : (w6.drewN nq).cell? ⟨bx, 2, none⟩ = some (.int .i64 lo) := s2
              have s3q : (w6.drewN nq).cell? ⟨bx, 3, none⟩ = some (.int .i64 hi) := s3
              have B2q : Below wr.heap.size wr (w6.drewN nq) := bdrew B2 nq
              have d0q : (w6.drewN nq).cell? ⟨g, o' + j * 2, none⟩ = some (.int .i64 za) := d0
              clear c0 c1 s2 s3 B2 d0
              generalize w6.drewN nq = w7 at c0q c1q s2q s3q B2q d0q ⊢
              have c0 := c0q
              have c1 := c1q
              have s2 := s2q
              have s3 := s3q
              have B2 := B2q
              have d0 := d0q
              clear c0q c1q s2q s3q B2q d0q
              go_wp2
              go_ret
              exact ⟨ret_int' (chk_at HX.out hkl HN.out _ HE.out (by decide)).symm, HB.out.trans (B2.mono HB.out.size)⟩
            · have HE0 := Go.Lib.hid (errK_v HY.out HZ.out HF.out (show za < ya by omega))
              dsimp only at HE0
              have HV := Go.Lib.hid (HE0.out.trans HVV.out)
              clear he HE0 HVV
              go_wp2_with fail
              have q1 : (0 : Int) ≤ (j : Int) := by omega
              have q2 : (j : Int) < (len : Int) := by omega
              have q2' : (0 : Int) < (j : Int) + 1 := by omega
              have q4 : IntKind.i64.wrap (j : Int) = j := IntWalk.i64_in _ (by omega)
              go_quiet (fail)
              clear q1 q2 q2' q4
              have c0q : (w3.drewN nq).cell? ⟨g, o' + (j + 1) * 2, none⟩ = some (.int .i64 ya) := c0
              have c1q : (w3.drewN nq).cell? ⟨g, o' + (j + 1) * 2 + 1, none⟩ = some (.int .i64 yb) := c1
              have s2q : (w3.drewN nq).cell? ⟨bx, 2, none⟩ = some (.int .i64 lo) := s2
              have s3q : (w3.drewN nq).cell? ⟨bx, 3, none⟩ = some (.int .i64 hi) := s3
              have B2q : Below wr.heap.size wr (w3.drewN nq) := bdrew B2 nq
              have d0q : (w3.drewN nq).cell? ⟨g, o' + j * 2, none⟩ = some (.int .i64 za) := d0
              clear c0 c1 s2 s3 B2 d0
              generalize w3.drewN nq = w6 at c0q c1q s2q s3q B2q d0q ⊢
              have c0 := c0q
              have c1 := c1q
              have s2 := s2q
              have s3 := s3q
              have B2 := B2q
              have d0 := d0q
              clear c0q c1q s2q s3q B2q d0q
              go_wp2_with fail
              have q1 : (0 : Int) ≤ (j : Int) := by omega
              have q2 : (j : Int) < (len : Int) := by omega
              have q2' : (0 : Int) < (j : Int) + 1 := by omega
              have q4 : IntKind.i64.wrap (j : Int) = j := IntWalk.i64_in _ (by omega)
              go_quiet (fail)
              clear q1 q2 q2' q4
              have c0q : (w6.drewN nq).cell? ⟨g, o' + (j + 1) * 2, none⟩ = some (.int .i64 ya) := c0
              have c1q : (w6.drewN nq).cell? ⟨g, o' + (j + 1) * 2 + 1, none⟩ = some (.int .i64 yb) := c1
              have s2q : (w6.drewN nq).cell? ⟨bx, 2, none⟩ = some (.int .i64 lo) := s2
              have s3q : (w6.drewN nq).cell? ⟨bx, 3, none⟩ = some (.int .i64 hi) := s3
              have B2q : Below wr.heap.size wr (w6.drewN nq) := bdrew B2 nq
              have d0q : (w6.drewN nq).cell? ⟨g, o' + j * 2, none⟩ = some (.int .i64 za) := d0
              clear c0 c1 s2 s3 B2 d0
              generalize w6.drewN nq = w7 at c0q c1q s2q s3q B2q d0q ⊢
              have c0 := c0q
              have c1 := c1q
              have s2 := s2q
              have s3 := s3q
              have B2 := B2q
              have d0 := d0q
              clear c0q c1q s2q s3q B2q d0q
              go_wp2_with fail
              by_cases h1 : yb < lo
              · have HE := Go.Lib.hid (HV.out.trans (if_pos (.inl h1)))
                clear HV
                go_quiet (fail)
                have c0q : (w7.drewN nq).cell? ⟨g, o' + (j + 1) * 2, none⟩ = some (.int .i64 ya) := c0
                have c1q : (w7.drewN nq).cell? ⟨g, o' + (j + 1) * 2 + 1, none⟩ = some (.int .i64 yb) := c1
                have s2q : (w7.drewN nq).cell? ⟨bx, 2, none⟩ = some (.int .i64 lo) := s2
                have s3q : (w7.drewN nq).cell? ⟨bx, 3, none⟩ = some (.int .i64 hi) := s3
                have B2q : Below wr.heap.size wr (w7.drewN nq) := bdrew B2 nq
                have d0q : (w7.drewN nq).cell? ⟨g, o' + j * 2, none⟩ = some (.int .i64 za) := d0
                clear c0 c1 s2 s3 B2 d0
                generalize w7.drewN nq = w8 at c0q c1q s2q s3q B2q d0q ⊢
                have c0 := c0q
                have c1 := c1q
                have s2 := s2q
                have s3 := s3q
                have B2 := B2q
                have d0 := d0q
                clear c0q c1q s2q s3q B2q d0q
                go_wp2
                go_ret
                exact ⟨ret_int' (chk_at HX.out hkl HN.out _ HE.out (by decide)).symm, HB.out.trans (B2.mono HB.out.size)⟩
              · have h1' : decide (yb < lo) = false := decide_eq_false h1
                by_cases h2 : hi < yb
                · have HE := Go.Lib.hid (HV.out.trans (if_pos (.inr h2)))
                  clear HV
                  go_quiet (fail)
                  have c0q : (w7.drewN nq).cell? ⟨g, o' + (j + 1) * 2, none⟩ = some (.int .i64 ya) := c0
                  have c1q : (w7.drewN nq).cell? ⟨g, o' + (j + 1) * 2 + 1, none⟩ = some (.int .i64 yb) := c1
                  have s2q : (w7.drewN nq).cell? ⟨bx, 2, none⟩ = some (.int .i64 lo) := s2
                  have s3q : (w7.drewN nq).cell? ⟨bx, 3, none⟩ = some (.int .i64 hi) := s3
                  have B2q : Below wr.heap.size wr (w7.drewN nq) := bdrew B2 nq
                  have d0q : (w7.drewN nq).cell? ⟨g, o' + j * 2, none⟩ = some (.int .i64 za) := d0
                  clear c0 c1 s2 s3 B2 d0
                  generalize w7.drewN nq = w8 at c0q c1q s2q s3q B2q d0q ⊢
                  have c0 := c0q
                  have c1 := c1q
                  have s2 := s2q
                  have s3 := s3q
                  have B2 := B2q
                  have d0 := d0q
                  clear c0q c1q s2q s3q B2q d0q
                  go_wp2
                  go_ret
                  exact ⟨ret_int' (chk_at HX.out hkl HN.out _ HE.out (by decide)).symm, HB.out.trans (B2.mono HB.out.size)⟩
                · have HE := Go.Lib.hid (HV.out.trans (if_neg (fun h => h.elim h1 h2)))
                  have h2' : decide (hi < yb) = false := decide_eq_false h2
                  clear HV
                  go_quiet (fail)
                  have c0q : (w7.drewN nq).cell? ⟨g, o' + (j + 1) * 2, none⟩ = some (.int .i64 ya) := c0
                  have c1q : (w7.drewN nq).cell? ⟨g, o' + (j + 1) * 2 + 1, none⟩ = some (.int .i64 yb) := c1
                  have s2q : (w7.drewN nq).cell? ⟨bx, 2, none⟩ = some (.int .i64 lo) := s2
                  have s3q : (w7.drewN nq).cell? ⟨bx, 3, none⟩ = some (.int .i64 hi) := s3
                  have B2q : Below wr.heap.size wr (w7.drewN nq) := bdrew B2 nq
                  have d0q : (w7.drewN nq).cell? ⟨g, o' + j * 2, none⟩ = some (.int .i64 za) := d0
                  clear c0 c1 s2 s3 B2 d0
                  generalize w7.drewN nq = w8 at c0q c1q s2q s3q B2q d0q ⊢
                  have c0 := c0q
                  have c1 := c1q
                  have s2 := s2q
                  have s3 := s3q
                  have B2 := B2q
                  have d0 := d0q
                  clear c0q c1q s2q s3q B2q d0q
                  go_wp2
                  go_roundw
                  case rel => exact ⟨j + 1 + 1, by omega, by go_num, Go.Lib.hid (HB.out.trans (B2.mono HB.out.size)), Go.Lib.hid fun i hi => if e : i = j + 1 then by subst e; exact HE.out else HN.out i (by omega)⟩
                  case measure => simp [intOf]; omega
    · obtain rfl : k = len := by omega
      go_wp2
      go_ret
      exact ⟨ret_int' (chk_end HX.out fun j h => HN.out j (by rw [← HL.out]; exact h)).symm, HB.out⟩
end Go.Proofs.Ytbkpokipibgdfaa

/- Layer 7: Value; the law of Get. -/
namespace Go.Proofs.Ytbkpokipibgdfaa
open Go.RowKit Go.Lib

/-- What hands back a list of n properties. -/
def OutP (o : List Pr) (n : Nat) (w : World) (e : Ending) (w' : World) : Prop := ∃ B cb, e = .returned (.slice B n cb) ∧ n ≤ cb ∧ cb ≤ maxLen ∧ PrAt w' B o ∧ Below w.heap.size w w'
theorem PRet.out {o : List Pr} {n : Nat} {w w' : World} {e : Ending} (h : PRet o w e w') (hn : o.length = n) : OutP o n w e w' := by
  obtain ⟨v, rfl, ⟨A, c, rfl, h1, h2, h3⟩, h4⟩ := h
  subst hn
  exact ⟨A, c, rfl, h1, h2, h3, h4⟩
section
variable (o : List Pr) (hs : SortP o) (B : Option Addr) (n cb : Nat) (ho : o.length = n) (hn : n ≤ 1000) (hc : n ≤ cb ∧ cb ≤ maxLen) (p : Int)
include hs ho hn hc
set_option maxRecDepth 100000 in
set_option maxHeartbeats 4000000 in
theorem value_yes (hb : getB o p = true) (w : World) (hB : PrAt w B o) : Calls Try.prog 73 #[.slice B n cb, .int .i64 p] w fun e w' => e = .returned (.int .i64 (getV o p)) ∧ Below w.heap.size w w' := by
  have cG := fun w' hB => get_any o hs B n cb ho hn hc p w' hB
  rw [hb] at cG
  clear hb ho
  go_enter Try.func73, Try.ntmps73
  go_wp2_with (go_at_call 90; (with_reducible refine (cG _ hB).mono ?_); rintro e w1 ⟨rfl, hb1⟩)
  go_ret
  exact ⟨rfl, hb1⟩
set_option maxRecDepth 100000 in
set_option maxHeartbeats 4000000 in
theorem value_no (hb : getB o p = false) (d e0 : Int) (cD : ∀ w', Calls Try.prog 82 #[.int .i64 p] w' fun e w'' => e = .returned (.tuple #[.int .i64 d, .int .i64 e0]) ∧ Below w'.heap.size w' w'') (w : World) (hB : PrAt w B o) :
    Calls Try.prog 73 #[.slice B n cb, .int .i64 p] w fun e w' => e = .returned (.int .i64 d) ∧ Below w.heap.size w w' := by
  have cG := fun w' hB => get_any o hs B n cb ho hn hc p w' hB
  rw [hb] at cG
  clear hb ho
  go_enter Try.func73, Try.ntmps73
  go_wp2_with (first
    | (go_at_call 90; (with_reducible refine (cG _ hB).mono ?_); rintro e w1 ⟨rfl, hb1⟩)
    | (go_at_call 82; (with_reducible refine (cD _).mono ?_); rintro e w2 ⟨rfl, hb2⟩))
  go_ret
  exact ⟨rfl, hb1.trans (hb2.mono hb1.size)⟩
end

end Go.Proofs.Ytbkpokipibgdfaa
