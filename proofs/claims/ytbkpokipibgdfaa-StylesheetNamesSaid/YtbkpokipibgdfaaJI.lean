/- Layer 7: Check, walked. -/
import Derived.Test.YtbkpokipibgdfaaJH
namespace Go.Proofs.Ytbkpokipibgdfaa
open Go.RowKit Go.Lib

theorem ret_int' {a b : Int} (h : a = b) : Ending.returned (.int .i64 a) = .returned (.int .i64 b) := by rw [h]
set_option maxRecDepth 100000 in
set_option maxHeartbeats 16000000 in
theorem check_in (x : Int) (A : Option Addr) (len c : Nat) (l : List Pr) (hl : l.length = len) (hc : len ≤ c ∧ c ≤ maxLen) (hx : 1 ≤ x ∧ x ≤ 10) (w : World) (hA : PrAt w A l) :
    Calls Try.prog 53 #[.int .i64 x, .slice A len c] w fun e w' => e = .returned (.int .i64 (chkP x l)) ∧ Below w.heap.size w w' := by
  have HA := Go.Lib.hid hA
  have HL := Go.Lib.hid hl
  have HX := Go.Lib.hid hx
  obtain ⟨hc1, hc2⟩ := hc
  unfold maxLen at hc2
  have cE := fun w' => elem_any x w'
  rw [decide_eq_true hx.1, decide_eq_true hx.2] at cE
  clear hA hl hx
  go_enter Try.func53, Try.ntmps53
  go_wp2_with (go_at_call 70; (with_reducible refine (cE _).mono ?_); rintro e w1 ⟨rfl, rfl⟩)
  go_loopw [13] (fun i wr => ∃ k : Nat, k ≤ len ∧ i = .int .i64 k ∧ Hid (Below w.heap.size w wr) ∧ Hid (∀ j, j < k → errK x l j = 0)) (fun i _ => len - (intOf i).toNat)
  case atStart => exact ⟨0, Nat.zero_le _, rfl, Go.Lib.hid (Below.refl _ _), Go.Lib.hid (fun j h => by omega)⟩
  case round =>
    obtain ⟨k, hk, rfl, HB, HN⟩ := hrel
    by_cases hlt : k < len
    · have hkl : k < l.length := by rw [HL.out]; exact hlt
      rcases HA.out with hA0 | ⟨g, o', rfl, hg, hcl⟩
      · rw [hA0] at hkl; exact absurd hkl (Nat.not_lt_zero _)
      obtain ⟨h0, h1⟩ := hcl k hkl
      have c0 := (HB.out.cell (p := ⟨g, o' + k * 2, none⟩) hg).trans h0
      have c1 := (HB.out.cell (p := ⟨g, o' + k * 2 + 1, none⟩) hg).trans h1
      have hgr := Nat.lt_of_lt_of_le hg HB.out.size
      have hgy : l.getD k (0, 0) = l[k] := by rw [List.getD_eq_getElem?_getD, List.getElem?_eq_getElem hkl]; rfl
      clear h0 h1
      generalize l[k] = y at c0 c1 hgy
      have HY := Go.Lib.hid hgy
      clear hgy
      obtain ⟨ya, yb⟩ := y
      dsimp only at c0 c1
      have cF := fun w' => fits_anyB x ya w'
      cases hf : fitsB x ya with
      | false =>
        rw [hf] at cF
        have HE := Go.Lib.hid (errK_4 HY.out hf)
        clear hf hcl
        go_wp2_with (go_at_call 71; (with_reducible refine (cF _).mono ?_); rintro e w2 ⟨rfl, hb2⟩; have B2 := ((Below.refl _ wr).alloc (Nat.le_refl _) (.cells #[.int .i64 ya, .int .i64 yb] 55)).trans (hb2.mono (by rw [World.size_alloc]; omega)); have ob := (ObjAt.new wr #[.int .i64 ya, .int .i64 yb] 55).below hb2; have s0 := ob.a0; have s1 := ob.a1; clear ob)
        go_ret
        exact ⟨ret_int' (chk_at HX.out hkl HN.out _ HE.out (by decide)).symm, HB.out.trans (B2.mono HB.out.size)⟩
      | true =>
        rw [hf] at cF
        cases k with
        | zero =>
          have HE := Go.Lib.hid (errK_0 HY.out hf)
          dsimp only at HE
          simp only [Nat.zero_mul, Nat.add_zero] at c0 c1
          clear hf hcl
          go_wp2_with (go_at_call 71; (with_reducible refine (cF _).mono ?_); rintro e w2 ⟨rfl, hb2⟩; have B2 := ((Below.refl _ wr).alloc (Nat.le_refl _) (.cells #[.int .i64 ya, .int .i64 yb] 55)).trans (hb2.mono (by rw [World.size_alloc]; omega)); have ob := (ObjAt.new wr #[.int .i64 ya, .int .i64 yb] 55).below hb2; have s0 := ob.a0; have s1 := ob.a1; clear ob hb2)
          go_quiet (fail)
          have s0q : (w2.drewN nq).cell? ⟨wr.heap.size, 0, none⟩ = some (.int .i64 ya) := s0
          have s1q : (w2.drewN nq).cell? ⟨wr.heap.size, 1, none⟩ = some (.int .i64 yb) := s1
          have B2q : Below wr.heap.size wr (w2.drewN nq) := bdrew B2 nq
          clear s0 s1 B2
          generalize w2.drewN nq = w3 at s0q s1q B2q ⊢
          have s0 := s0q
          have s1 := s1q
          have B2 := B2q
          clear s0q s1q B2q
          go_wp2_with fail
          go_quiet (fail)
          have s0q : (w3.drewN nq).cell? ⟨wr.heap.size, 0, none⟩ = some (.int .i64 ya) := s0
          have s1q : (w3.drewN nq).cell? ⟨wr.heap.size, 1, none⟩ = some (.int .i64 yb) := s1
          have B2q : Below wr.heap.size wr (w3.drewN nq) := bdrew B2 nq
          clear s0 s1 B2
          generalize w3.drewN nq = w3b at s0q s1q B2q ⊢
          have s0 := s0q
          have s1 := s1q
          have B2 := B2q
          clear s0q s1q B2q
          go_wp2_with fail
          by_cases hv : valOf ya yb = 0
          · have hvb : (valOf ya yb != 0) = false := by rw [hv]; rfl
            have HV := Go.Lib.hid hv
            have cV := fun w' => checkv_anyB ya yb w'
            rw [hv] at cV
            clear hv hvb
            go_wp2_with (go_at_call 72; (with_reducible refine (cV _).mono ?_); rintro e w4 ⟨rfl, hb4⟩)
            go_roundw
            case rel => exact ⟨0 + 1, by omega, by go_num, Go.Lib.hid (HB.out.trans ((B2.trans (hb4.mono B2.size)).mono HB.out.size)), Go.Lib.hid fun i hi => if e : i = 0 then by subst e; exact HE.out.trans HV.out else HN.out i (by omega)⟩
            case measure => simp [intOf]; omega
          · have cV := fun w' => checkv_anyB ya yb w'
            have hvb : (valOf ya yb != 0) = true := by simpa using hv
            have HV := Go.Lib.hid hv
            generalize valOf ya yb = ve at cV hvb HE HV
            clear hv
            go_wp2_with (go_at_call 72; (with_reducible refine (cV _).mono ?_); rintro e w4 ⟨rfl, hb4⟩)
            go_ret
            exact ⟨ret_int' (chk_at HX.out hkl HN.out _ HE.out HV.out).symm, HB.out.trans ((B2.trans (hb4.mono B2.size)).mono HB.out.size)⟩
        | succ j =>
          have hjl : j < l.length := by omega
          obtain ⟨h0, _⟩ := hcl j hjl
          have dd := (HB.out.cell (p := ⟨g, o' + j * 2, none⟩) hg).trans h0
          have hgz : l.getD j (0, 0) = l[j] := by rw [List.getD_eq_getElem?_getD, List.getElem?_eq_getElem hjl]; rfl
          clear h0 hcl
          generalize l[j] = z at dd hgz
          have HZ := Go.Lib.hid hgz
          clear hgz
          obtain ⟨za, zb⟩ := z
          dsimp only at dd
          have HF := Go.Lib.hid hf
          clear hf
          go_wp2_with (go_at_call 71; (with_reducible refine (cF _).mono ?_); rintro e w2 ⟨rfl, hb2⟩; have B2 := ((Below.refl _ wr).alloc (Nat.le_refl _) (.cells #[.int .i64 ya, .int .i64 yb] 55)).trans (hb2.mono (by rw [World.size_alloc]; omega)); have ob := (ObjAt.new wr #[.int .i64 ya, .int .i64 yb] 55).below hb2; have s0 := ob.a0; have s1 := ob.a1; have d0 := (B2.cell (p := ⟨g, o' + j * 2, none⟩) hgr).trans dd; clear ob hb2 dd)
          by_cases he : ya = za
          · have HE := Go.Lib.hid (errK_7 HY.out HZ.out HF.out he)
            have e1 : (ya == za) = true := by simpa using he
            clear he
            have q1 : (0 : Int) ≤ (j : Int) := by omega
            have q2 : (j : Int) < (len : Int) := by omega
            have q2' : (0 : Int) < (j : Int) + 1 := by omega
            have q4 : IntKind.i64.wrap (j : Int) = j := IntWalk.i64_in _ (by omega)
            go_quiet (fail)
            clear q1 q2 q2' q4
            have s0q : (w2.drewN nq).cell? ⟨wr.heap.size, 0, none⟩ = some (.int .i64 ya) := s0
            have s1q : (w2.drewN nq).cell? ⟨wr.heap.size, 1, none⟩ = some (.int .i64 yb) := s1
            have d0q : (w2.drewN nq).cell? ⟨g, o' + j * 2, none⟩ = some (.int .i64 za) := d0
            have B2q : Below wr.heap.size wr (w2.drewN nq) := bdrew B2 nq
            clear s0 s1 d0 B2
            generalize w2.drewN nq = w3 at s0q s1q d0q B2q ⊢
            have s0 := s0q
            have s1 := s1q
            have d0 := d0q
            have B2 := B2q
            clear s0q s1q d0q B2q
            go_wp2
            go_ret
            exact ⟨ret_int' (chk_at HX.out hkl HN.out _ HE.out (by decide)).symm, HB.out.trans (B2.mono HB.out.size)⟩
          · have e1 : (ya == za) = false := by simpa using he
            by_cases he2 : ya < za
            · have HE := Go.Lib.hid (errK_6 HY.out HZ.out HF.out he2)
              clear he
              have q1 : (0 : Int) ≤ (j : Int) := by omega
              have q2 : (j : Int) < (len : Int) := by omega
              have q2' : (0 : Int) < (j : Int) + 1 := by omega
              have q4 : IntKind.i64.wrap (j : Int) = j := IntWalk.i64_in _ (by omega)
              go_quiet (fail)
              clear q1 q2 q2' q4
              have s0q : (w2.drewN nq).cell? ⟨wr.heap.size, 0, none⟩ = some (.int .i64 ya) := s0
              have s1q : (w2.drewN nq).cell? ⟨wr.heap.size, 1, none⟩ = some (.int .i64 yb) := s1
              have d0q : (w2.drewN nq).cell? ⟨g, o' + j * 2, none⟩ = some (.int .i64 za) := d0
              have B2q : Below wr.heap.size wr (w2.drewN nq) := bdrew B2 nq
              clear s0 s1 d0 B2
              generalize w2.drewN nq = w3 at s0q s1q d0q B2q ⊢
              have s0 := s0q
              have s1 := s1q
              have d0 := d0q
              have B2 := B2q
              clear s0q s1q d0q B2q
              go_wp2_with fail
              have q1 : (0 : Int) ≤ (j : Int) := by omega
              have q2 : (j : Int) < (len : Int) := by omega
              have q2' : (0 : Int) < (j : Int) + 1 := by omega
              have q4 : IntKind.i64.wrap (j : Int) = j := IntWalk.i64_in _ (by omega)
              go_quiet (fail)
              clear q1 q2 q2' q4
              have s0q : (w3.drewN nq).cell? ⟨wr.heap.size, 0, none⟩ = some (.int .i64 ya) := s0
              have s1q : (w3.drewN nq).cell? ⟨wr.heap.size, 1, none⟩ = some (.int .i64 yb) := s1
              have d0q : (w3.drewN nq).cell? ⟨g, o' + j * 2, none⟩ = some (.int .i64 za) := d0
              have B2q : Below wr.heap.size wr (w3.drewN nq) := bdrew B2 nq
              clear s0 s1 d0 B2
              generalize w3.drewN nq = w3b at s0q s1q d0q B2q ⊢
              have s0 := s0q
              have s1 := s1q
              have d0 := d0q
              have B2 := B2q
              clear s0q s1q d0q B2q
              go_wp2
              go_ret
              exact ⟨ret_int' (chk_at HX.out hkl HN.out _ HE.out (by decide)).symm, HB.out.trans (B2.mono HB.out.size)⟩
            · have HE := Go.Lib.hid (errK_v HY.out HZ.out HF.out (show za < ya by omega))
              dsimp only at HE
              clear he
              have q1 : (0 : Int) ≤ (j : Int) := by omega
              have q2 : (j : Int) < (len : Int) := by omega
              have q2' : (0 : Int) < (j : Int) + 1 := by omega
              have q4 : IntKind.i64.wrap (j : Int) = j := IntWalk.i64_in _ (by omega)
              go_quiet (fail)
              clear q1 q2 q2' q4
              have s0q : (w2.drewN nq).cell? ⟨wr.heap.size, 0, none⟩ = some (.int .i64 ya) := s0
              have s1q : (w2.drewN nq).cell? ⟨wr.heap.size, 1, none⟩ = some (.int .i64 yb) := s1
              have d0q : (w2.drewN nq).cell? ⟨g, o' + j * 2, none⟩ = some (.int .i64 za) := d0
              have B2q : Below wr.heap.size wr (w2.drewN nq) := bdrew B2 nq
              clear s0 s1 d0 B2
              generalize w2.drewN nq = w3 at s0q s1q d0q B2q ⊢
              have s0 := s0q
              have s1 := s1q
              have d0 := d0q
              have B2 := B2q
              clear s0q s1q d0q B2q
              go_wp2_with fail
              have q1 : (0 : Int) ≤ (j : Int) := by omega
              have q2 : (j : Int) < (len : Int) := by omega
              have q2' : (0 : Int) < (j : Int) + 1 := by omega
              have q4 : IntKind.i64.wrap (j : Int) = j := IntWalk.i64_in _ (by omega)
              go_quiet (fail)
              clear q1 q2 q2' q4
              have s0q : (w3.drewN nq).cell? ⟨wr.heap.size, 0, none⟩ = some (.int .i64 ya) := s0
              have s1q : (w3.drewN nq).cell? ⟨wr.heap.size, 1, none⟩ = some (.int .i64 yb) := s1
              have d0q : (w3.drewN nq).cell? ⟨g, o' + j * 2, none⟩ = some (.int .i64 za) := d0
              have B2q : Below wr.heap.size wr (w3.drewN nq) := bdrew B2 nq
              clear s0 s1 d0 B2
              generalize w3.drewN nq = w3b at s0q s1q d0q B2q ⊢
              have s0 := s0q
              have s1 := s1q
              have d0 := d0q
              have B2 := B2q
              clear s0q s1q d0q B2q
              go_wp2_with fail
              by_cases hv : valOf ya yb = 0
              · have hvb : (valOf ya yb != 0) = false := by rw [hv]; rfl
                have HV := Go.Lib.hid hv
                have cV := fun w' => checkv_anyB ya yb w'
                rw [hv] at cV
                clear hv hvb
                go_wp2_with (go_at_call 72; (with_reducible refine (cV _).mono ?_); rintro e w4 ⟨rfl, hb4⟩)
                go_roundw
                case rel => exact ⟨j + 1 + 1, by omega, by go_num, Go.Lib.hid (HB.out.trans ((B2.trans (hb4.mono B2.size)).mono HB.out.size)), Go.Lib.hid fun i hi => if e : i = j + 1 then by subst e; exact HE.out.trans HV.out else HN.out i (by omega)⟩
                case measure => simp [intOf]; omega
              · have cV := fun w' => checkv_anyB ya yb w'
                have hvb : (valOf ya yb != 0) = true := by simpa using hv
                have HV := Go.Lib.hid hv
                generalize valOf ya yb = ve at cV hvb HE HV
                clear hv
                go_wp2_with (go_at_call 72; (with_reducible refine (cV _).mono ?_); rintro e w4 ⟨rfl, hb4⟩)
                go_ret
                exact ⟨ret_int' (chk_at HX.out hkl HN.out _ HE.out HV.out).symm, HB.out.trans ((B2.trans (hb4.mono B2.size)).mono HB.out.size)⟩
    · obtain rfl : k = len := by omega
      go_wp2
      go_ret
      exact ⟨ret_int' (chk_end HX.out fun j h => HN.out j (by rw [← HL.out]; exact h)).symm, HB.out⟩
end Go.Proofs.Ytbkpokipibgdfaa
