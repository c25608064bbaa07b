/- Layer 8: the reference's Equal (38). -/
import Derived.Test.YtbkpokipibgdfaaNL
import Derived.Test.YtbkpokipibgdfaaNM
import Derived.Test.YtbkpokipibgdfaaNJ
namespace Go.Proofs.Ytbkpokipibgdfaa
open Go.RowKit Go.Lib
set_option linter.unusedVariables false

theorem cell_al {w : World} {g o : Nat} {v : Value} (h : w.cell? ⟨g, o, none⟩ = some v) (o1 : Obj) : (w.alloc o1).cell? ⟨g, o, none⟩ = some v :=
  (((Below.refl w.heap.size w).alloc (Nat.le_refl _) o1).cell (p := ⟨g, o, none⟩) (World.block_lt_of_cell? w ⟨g, o, none⟩ h)).trans h
set_option maxRecDepth 100000 in
set_option maxHeartbeats 8000000 in
theorem requal_any (l l' : List St) (n m : Nat) (hn : l.length = n) (hm : l'.length = m) (h1000 : n ≤ 1000) (h1000' : m ≤ 1000) (A A' : Option Addr) (c c' : Nat) (w : World) (hA : LsAt w A l) (hA' : LsAt w A' l') :
    Calls Try.prog 38 #[.slice A n c, .slice A' m c'] w fun e w' => e = .returned (.bool (eqL l l')) ∧ Below w.heap.size w w' := by
  by_cases hnm : n = m
  case neg =>
    have HE := Lib.hid (eqL_len (l := l) (l' := l') (by omega))
    have e3 : ((n : Int) != (m : Int)) = true := by rw [bne_iff_ne]; omega
    go_enter Try.func38, Try.ntmps38
    go_wp2
    go_ret
    exact ⟨ret_bool' HE.out.symm, Below.refl _ _⟩
  subst hnm
  have e3 : ((n : Int) != (n : Int)) = false := by simp
  have HN := Lib.hid hn
  have HM := Lib.hid hm
  have HA := Lib.hid hA
  have HA' := Lib.hid hA'
  clear hn hm hA hA'
  go_enter Try.func38, Try.ntmps38
  go_wp2_with fail
  go_loopw [5, 6, 7] (fun s5 _ _ wr => ∃ k : Nat, k ≤ n ∧ s5 = .int .i64 (k : Nat) ∧ Hid (∀ j (h : j < l.length) (h' : j < l'.length), j < k → eqS l[j] l'[j] = true) ∧ Hid (Below w.heap.size w wr)) (fun s5 _ _ _ => n - (intOf s5).toNat)
  case atStart => exact ⟨0, Nat.zero_le _, rfl, Lib.hid (fun j _ _ h => absurd h (Nat.not_lt_zero _)), Lib.hid (Below.refl _ _)⟩
  case round =>
    obtain ⟨k, hk, rfl, HQ, HB⟩ := hrel
    by_cases hlt : k < n
    · have hkl : k < l.length := by rw [HN.out]; exact hlt
      have hkl' : k < l'.length := by rw [HM.out]; exact hlt
      obtain ⟨g, o, rfl, hg, hcl⟩ := HA.out.pos (by omega)
      obtain ⟨g', o', rfl, hg', hcl'⟩ := HA'.out.pos (by omega)
      obtain ⟨B, cc, z0, z1, z2, z3, z4, z5, zc1, zc2, zp⟩ := (hcl k hkl)
      obtain ⟨B', cc', y0, y1, y2, y3, y4, y5, yc1, yc2, yp⟩ := (hcl' k hkl')
      replace z0 := (HB.out.cell (p := ⟨g, o + k * 6, none⟩) hg).trans z0
      replace z1 := (HB.out.cell (p := ⟨g, o + k * 6 + 1, none⟩) hg).trans z1
      replace z2 := (HB.out.cell (p := ⟨g, o + k * 6 + 2, none⟩) hg).trans z2
      replace z3 := (HB.out.cell (p := ⟨g, o + k * 6 + 3, none⟩) hg).trans z3
      replace z4 := (HB.out.cell (p := ⟨g, o + k * 6 + 4, none⟩) hg).trans z4
      replace z5 := (HB.out.cell (p := ⟨g, o + k * 6 + 5, none⟩) hg).trans z5
      replace y0 := (HB.out.cell (p := ⟨g', o' + k * 6, none⟩) hg').trans y0
      replace y1 := (HB.out.cell (p := ⟨g', o' + k * 6 + 1, none⟩) hg').trans y1
      replace y2 := (HB.out.cell (p := ⟨g', o' + k * 6 + 2, none⟩) hg').trans y2
      replace y3 := (HB.out.cell (p := ⟨g', o' + k * 6 + 3, none⟩) hg').trans y3
      replace y4 := (HB.out.cell (p := ⟨g', o' + k * 6 + 4, none⟩) hg').trans y4
      replace y5 := (HB.out.cell (p := ⟨g', o' + k * 6 + 5, none⟩) hg').trans y5
      have f0 : (0 : Int) ≤ (k : Int) := by omega
      have f1 : (k : Int) < (n : Int) := by omega
      have hs := HB.out.size
      have HY := Lib.hid (fun (h : eqS l[k] l'[k] = false) => eqL_no hkl hkl' h)
      have HX := Lib.hid (fun (h : eqS l[k] l'[k] = true) => show ∀ j (h : j < l.length) (h' : j < l'.length), j < k + 1 → eqS l[j] l'[j] = true from fun j hj hj' hl => if e : j = k then by subst e; exact h else HQ.out j hj hj' (by omega))
      have CE := Lib.hid (fun w' (hb : Below w.heap.size w w') => eqprops_any B B' l[k].props.length l'[k].props.length cc cc' l[k].props l'[k].props rfl rfl ⟨zc1, zc2⟩ ⟨yc1, yc2⟩ w' (zp.below hb (Nat.le_refl _)) (yp.below hb (Nat.le_refl _)))
      clear hcl hcl' zc1 zc2 zp yc1 yc2 yp
      generalize l[k] = x at z0 z1 z2 z3 z4 z5 HY HX CE
      generalize l'[k] = y at y0 y1 y2 y3 y4 y5 HY HX CE
      obtain ⟨a1, a2, a3, a4, a5, ps⟩ := x
      obtain ⟨b1, b2, b3, b4, b5, qs⟩ := y
      dsimp only at z0 z1 z2 z3 z4 z5 y0 y1 y2 y3 y4 y5 HY HX CE
      have za0 := fun o1 => cell_al z0 o1
      have zb0 := fun o1 o2 => cell_al (za0 o1) o2
      have za1 := fun o1 => cell_al z1 o1
      have zb1 := fun o1 o2 => cell_al (za1 o1) o2
      have za2 := fun o1 => cell_al z2 o1
      have zb2 := fun o1 o2 => cell_al (za2 o1) o2
      have za3 := fun o1 => cell_al z3 o1
      have zb3 := fun o1 o2 => cell_al (za3 o1) o2
      have za4 := fun o1 => cell_al z4 o1
      have zb4 := fun o1 o2 => cell_al (za4 o1) o2
      have za5 := fun o1 => cell_al z5 o1
      have zb5 := fun o1 o2 => cell_al (za5 o1) o2
      have ya0 := fun o1 => cell_al y0 o1
      have yb0 := fun o1 o2 => cell_al (ya0 o1) o2
      have ya1 := fun o1 => cell_al y1 o1
      have yb1 := fun o1 o2 => cell_al (ya1 o1) o2
      have ya2 := fun o1 => cell_al y2 o1
      have yb2 := fun o1 o2 => cell_al (ya2 o1) o2
      have ya3 := fun o1 => cell_al y3 o1
      have yb3 := fun o1 o2 => cell_al (ya3 o1) o2
      have ya4 := fun o1 => cell_al y4 o1
      have yb4 := fun o1 o2 => cell_al (ya4 o1) o2
      have ya5 := fun o1 => cell_al y5 o1
      have yb5 := fun o1 o2 => cell_al (ya5 o1) o2
      go_wp2_with fail
      go_region
      · have OX : ObjAt (((wr.alloc (.cells #[.int .i64 a1, .int .i64 a2, .string a3, .int .i64 a4, .int .i64 a5, .slice B ps.length cc] 28)).alloc (.cells #[.int .i64 b1, .int .i64 b2, .string b3, .int .i64 b4, .int .i64 b5, .slice B' qs.length cc'] 28)).drew) wr.heap.size #[.int .i64 a1, .int .i64 a2, .string a3, .int .i64 a4, .int .i64 a5, .slice B ps.length cc] 28 := (ObjAt.new wr #[.int .i64 a1, .int .i64 a2, .string a3, .int .i64 a4, .int .i64 a5, .slice B ps.length cc] 28).alloc (.cells #[.int .i64 b1, .int .i64 b2, .string b3, .int .i64 b4, .int .i64 b5, .slice B' qs.length cc'] 28)
        have OY : ObjAt (((wr.alloc (.cells #[.int .i64 a1, .int .i64 a2, .string a3, .int .i64 a4, .int .i64 a5, .slice B ps.length cc] 28)).alloc (.cells #[.int .i64 b1, .int .i64 b2, .string b3, .int .i64 b4, .int .i64 b5, .slice B' qs.length cc'] 28)).drew) (wr.heap.size + 1) #[.int .i64 b1, .int .i64 b2, .string b3, .int .i64 b4, .int .i64 b5, .slice B' qs.length cc'] 28 := by
          have h := ObjAt.new (wr.alloc (.cells #[.int .i64 a1, .int .i64 a2, .string a3, .int .i64 a4, .int .i64 a5, .slice B ps.length cc] 28)) #[.int .i64 b1, .int .i64 b2, .string b3, .int .i64 b4, .int .i64 b5, .slice B' qs.length cc'] 28
          rw [World.size_alloc] at h
          exact h
        have KB : Below w.heap.size w (((wr.alloc (.cells #[.int .i64 a1, .int .i64 a2, .string a3, .int .i64 a4, .int .i64 a5, .slice B ps.length cc] 28)).alloc (.cells #[.int .i64 b1, .int .i64 b2, .string b3, .int .i64 b4, .int .i64 b5, .slice B' qs.length cc'] 28)).drew) := ((HB.out.alloc hs (.cells #[.int .i64 a1, .int .i64 a2, .string a3, .int .i64 a4, .int .i64 a5, .slice B ps.length cc] 28)).alloc (by simp; omega) (.cells #[.int .i64 b1, .int .i64 b2, .string b3, .int .i64 b4, .int .i64 b5, .slice B' qs.length cc'] 28)).drew
        generalize (((wr.alloc (.cells #[.int .i64 a1, .int .i64 a2, .string a3, .int .i64 a4, .int .i64 a5, .slice B ps.length cc] 28)).alloc (.cells #[.int .i64 b1, .int .i64 b2, .string b3, .int .i64 b4, .int .i64 b5, .slice B' qs.length cc'] 28)).drew) = W at OX OY KB ⊢
        generalize wr.heap.size + 1 = q at OX OY ⊢
        generalize wr.heap.size = p at OX OY ⊢
        have ce := CE.out W KB
        have KB := Lib.hid KB
        have hsz := KB.out.size
        have p0 := OX.s0
        have p1 := OX.s1
        have p2 := OX.s2
        have p3 := OX.s3
        have p4 := OX.s4
        have p5 := OX.s5
        have q0 := OY.s0
        have q1 := OY.s1
        have q2 := OY.s2
        have q3 := OY.s3
        have q4 := OY.s4
        have q5 := OY.s5
        clear OX OY CE
        by_cases h1 : (a1 == b1) = true
        case neg =>
          have h1' : (a1 == b1) = false := by simpa using h1
          have g1' : (a1 != b1) = true := by rw [bne, h1']; rfl
          have HE := Lib.hid (HY.out (show eqS ⟨a1, a2, a3, a4, a5, ps⟩ ⟨b1, b2, b3, b4, b5, qs⟩ = false from by unfold eqS; dsimp only; rw [h1']; simp))
          clear h1 ce
          go_wp2
          go_ret
          exact ⟨ret_bool' HE.out.symm, KB.out⟩
        have g1 : (a1 != b1) = false := by rw [bne, h1]; rfl
        by_cases h2 : (a2 == b2) = true
        case neg =>
          have h2' : (a2 == b2) = false := by simpa using h2
          have g2' : (a2 != b2) = true := by rw [bne, h2']; rfl
          have HE := Lib.hid (HY.out (show eqS ⟨a1, a2, a3, a4, a5, ps⟩ ⟨b1, b2, b3, b4, b5, qs⟩ = false from by unfold eqS; dsimp only; rw [h2']; simp))
          clear h2 ce
          go_wp2
          go_ret
          exact ⟨ret_bool' HE.out.symm, KB.out⟩
        have g2 : (a2 != b2) = false := by rw [bne, h2]; rfl
        by_cases h3 : (a3.toList == b3.toList) = true
        case neg =>
          have h3' : (a3.toList == b3.toList) = false := by simpa using h3
          have g3' : (a3.toList != b3.toList) = true := by rw [bne, h3']; rfl
          have HE := Lib.hid (HY.out (show eqS ⟨a1, a2, a3, a4, a5, ps⟩ ⟨b1, b2, b3, b4, b5, qs⟩ = false from by unfold eqS; dsimp only; rw [h3']; simp))
          clear h3 ce
          go_wp2
          go_ret
          exact ⟨ret_bool' HE.out.symm, KB.out⟩
        have g3 : (a3.toList != b3.toList) = false := by rw [bne, h3]; rfl
        by_cases h4 : (a4 == b4) = true
        case neg =>
          have h4' : (a4 == b4) = false := by simpa using h4
          have g4' : (a4 != b4) = true := by rw [bne, h4']; rfl
          have HE := Lib.hid (HY.out (show eqS ⟨a1, a2, a3, a4, a5, ps⟩ ⟨b1, b2, b3, b4, b5, qs⟩ = false from by unfold eqS; dsimp only; rw [h4']; simp))
          clear h4 ce
          go_wp2
          go_ret
          exact ⟨ret_bool' HE.out.symm, KB.out⟩
        have g4 : (a4 != b4) = false := by rw [bne, h4]; rfl
        by_cases h5 : (a5 == b5) = true
        case neg =>
          have h5' : (a5 == b5) = false := by simpa using h5
          have g5' : (a5 != b5) = true := by rw [bne, h5']; rfl
          have HE := Lib.hid (HY.out (show eqS ⟨a1, a2, a3, a4, a5, ps⟩ ⟨b1, b2, b3, b4, b5, qs⟩ = false from by unfold eqS; dsimp only; rw [h5']; simp))
          clear h5 ce
          go_wp2
          go_ret
          exact ⟨ret_bool' HE.out.symm, KB.out⟩
        have g5 : (a5 != b5) = false := by rw [bne, h5]; rfl
        have HV := Lib.hid (show eqS ⟨a1, a2, a3, a4, a5, ps⟩ ⟨b1, b2, b3, b4, b5, qs⟩ = decide (ps = qs) from by unfold eqS; dsimp only; rw [h1, h2, h3, h4, h5]; simp)
        go_wp2_with fail
        (with_reducible refine ce.mono ?_)
        rintro e w5 ⟨rfl, k5⟩
        have K5 := Lib.hid (KB.out.trans (k5.mono hsz))
        clear ce k5
        cases hv : decide (ps = qs) with
        | false =>
          have HE := Lib.hid (HY.out (HV.out.trans hv))
          clear hv
          go_wp2
          go_ret
          exact ⟨ret_bool' HE.out.symm, K5.out⟩
        | true =>
          have HE := Lib.hid (HX.out (HV.out.trans hv))
          clear hv
          go_wp2_with fail
          go_roundw
          case rel => exact ⟨k + 1, by omega, by go_num, HE, K5⟩
          case measure => simp [intOf]; omega
      · have OY : ObjAt (((wr.alloc (.cells #[.int .i64 b1, .int .i64 b2, .string b3, .int .i64 b4, .int .i64 b5, .slice B' qs.length cc'] 28)).alloc (.cells #[.int .i64 a1, .int .i64 a2, .string a3, .int .i64 a4, .int .i64 a5, .slice B ps.length cc] 28)).drew) wr.heap.size #[.int .i64 b1, .int .i64 b2, .string b3, .int .i64 b4, .int .i64 b5, .slice B' qs.length cc'] 28 := (ObjAt.new wr #[.int .i64 b1, .int .i64 b2, .string b3, .int .i64 b4, .int .i64 b5, .slice B' qs.length cc'] 28).alloc (.cells #[.int .i64 a1, .int .i64 a2, .string a3, .int .i64 a4, .int .i64 a5, .slice B ps.length cc] 28)
        have OX : ObjAt (((wr.alloc (.cells #[.int .i64 b1, .int .i64 b2, .string b3, .int .i64 b4, .int .i64 b5, .slice B' qs.length cc'] 28)).alloc (.cells #[.int .i64 a1, .int .i64 a2, .string a3, .int .i64 a4, .int .i64 a5, .slice B ps.length cc] 28)).drew) (wr.heap.size + 1) #[.int .i64 a1, .int .i64 a2, .string a3, .int .i64 a4, .int .i64 a5, .slice B ps.length cc] 28 := by
          have h := ObjAt.new (wr.alloc (.cells #[.int .i64 b1, .int .i64 b2, .string b3, .int .i64 b4, .int .i64 b5, .slice B' qs.length cc'] 28)) #[.int .i64 a1, .int .i64 a2, .string a3, .int .i64 a4, .int .i64 a5, .slice B ps.length cc] 28
          rw [World.size_alloc] at h
          exact h
        have KB : Below w.heap.size w (((wr.alloc (.cells #[.int .i64 b1, .int .i64 b2, .string b3, .int .i64 b4, .int .i64 b5, .slice B' qs.length cc'] 28)).alloc (.cells #[.int .i64 a1, .int .i64 a2, .string a3, .int .i64 a4, .int .i64 a5, .slice B ps.length cc] 28)).drew) := ((HB.out.alloc hs (.cells #[.int .i64 b1, .int .i64 b2, .string b3, .int .i64 b4, .int .i64 b5, .slice B' qs.length cc'] 28)).alloc (by simp; omega) (.cells #[.int .i64 a1, .int .i64 a2, .string a3, .int .i64 a4, .int .i64 a5, .slice B ps.length cc] 28)).drew
        generalize (((wr.alloc (.cells #[.int .i64 b1, .int .i64 b2, .string b3, .int .i64 b4, .int .i64 b5, .slice B' qs.length cc'] 28)).alloc (.cells #[.int .i64 a1, .int .i64 a2, .string a3, .int .i64 a4, .int .i64 a5, .slice B ps.length cc] 28)).drew) = W at OX OY KB ⊢
        generalize wr.heap.size + 1 = q at OX OY ⊢
        generalize wr.heap.size = p at OX OY ⊢
        have ce := CE.out W KB
        have KB := Lib.hid KB
        have hsz := KB.out.size
        have p0 := OX.s0
        have p1 := OX.s1
        have p2 := OX.s2
        have p3 := OX.s3
        have p4 := OX.s4
        have p5 := OX.s5
        have q0 := OY.s0
        have q1 := OY.s1
        have q2 := OY.s2
        have q3 := OY.s3
        have q4 := OY.s4
        have q5 := OY.s5
        clear OX OY CE
        by_cases h1 : (a1 == b1) = true
        case neg =>
          have h1' : (a1 == b1) = false := by simpa using h1
          have g1' : (a1 != b1) = true := by rw [bne, h1']; rfl
          have HE := Lib.hid (HY.out (show eqS ⟨a1, a2, a3, a4, a5, ps⟩ ⟨b1, b2, b3, b4, b5, qs⟩ = false from by unfold eqS; dsimp only; rw [h1']; simp))
          clear h1 ce
          go_wp2
          go_ret
          exact ⟨ret_bool' HE.out.symm, KB.out⟩
        have g1 : (a1 != b1) = false := by rw [bne, h1]; rfl
        by_cases h2 : (a2 == b2) = true
        case neg =>
          have h2' : (a2 == b2) = false := by simpa using h2
          have g2' : (a2 != b2) = true := by rw [bne, h2']; rfl
          have HE := Lib.hid (HY.out (show eqS ⟨a1, a2, a3, a4, a5, ps⟩ ⟨b1, b2, b3, b4, b5, qs⟩ = false from by unfold eqS; dsimp only; rw [h2']; simp))
          clear h2 ce
          go_wp2
          go_ret
          exact ⟨ret_bool' HE.out.symm, KB.out⟩
        have g2 : (a2 != b2) = false := by rw [bne, h2]; rfl
        by_cases h3 : (a3.toList == b3.toList) = true
        case neg =>
          have h3' : (a3.toList == b3.toList) = false := by simpa using h3
          have g3' : (a3.toList != b3.toList) = true := by rw [bne, h3']; rfl
          have HE := Lib.hid (HY.out (show eqS ⟨a1, a2, a3, a4, a5, ps⟩ ⟨b1, b2, b3, b4, b5, qs⟩ = false from by unfold eqS; dsimp only; rw [h3']; simp))
          clear h3 ce
          go_wp2
          go_ret
          exact ⟨ret_bool' HE.out.symm, KB.out⟩
        have g3 : (a3.toList != b3.toList) = false := by rw [bne, h3]; rfl
        by_cases h4 : (a4 == b4) = true
        case neg =>
          have h4' : (a4 == b4) = false := by simpa using h4
          have g4' : (a4 != b4) = true := by rw [bne, h4']; rfl
          have HE := Lib.hid (HY.out (show eqS ⟨a1, a2, a3, a4, a5, ps⟩ ⟨b1, b2, b3, b4, b5, qs⟩ = false from by unfold eqS; dsimp only; rw [h4']; simp))
          clear h4 ce
          go_wp2
          go_ret
          exact ⟨ret_bool' HE.out.symm, KB.out⟩
        have g4 : (a4 != b4) = false := by rw [bne, h4]; rfl
        by_cases h5 : (a5 == b5) = true
        case neg =>
          have h5' : (a5 == b5) = false := by simpa using h5
          have g5' : (a5 != b5) = true := by rw [bne, h5']; rfl
          have HE := Lib.hid (HY.out (show eqS ⟨a1, a2, a3, a4, a5, ps⟩ ⟨b1, b2, b3, b4, b5, qs⟩ = false from by unfold eqS; dsimp only; rw [h5']; simp))
          clear h5 ce
          go_wp2
          go_ret
          exact ⟨ret_bool' HE.out.symm, KB.out⟩
        have g5 : (a5 != b5) = false := by rw [bne, h5]; rfl
        have HV := Lib.hid (show eqS ⟨a1, a2, a3, a4, a5, ps⟩ ⟨b1, b2, b3, b4, b5, qs⟩ = decide (ps = qs) from by unfold eqS; dsimp only; rw [h1, h2, h3, h4, h5]; simp)
        go_wp2_with fail
        (with_reducible refine ce.mono ?_)
        rintro e w5 ⟨rfl, k5⟩
        have K5 := Lib.hid (KB.out.trans (k5.mono hsz))
        clear ce k5
        cases hv : decide (ps = qs) with
        | false =>
          have HE := Lib.hid (HY.out (HV.out.trans hv))
          clear hv
          go_wp2
          go_ret
          exact ⟨ret_bool' HE.out.symm, K5.out⟩
        | true =>
          have HE := Lib.hid (HX.out (HV.out.trans hv))
          clear hv
          go_wp2_with fail
          go_roundw
          case rel => exact ⟨k + 1, by omega, by go_num, HE, K5⟩
          case measure => simp [intOf]; omega
    · obtain rfl : k = n := by omega
      have HE := Lib.hid (eqL_yes (l := l) (l' := l') (by rw [HN.out, HM.out]) fun j hj hj' => HQ.out j hj hj' (by rw [← HN.out]; exact hj))
      go_wp2_with fail
      go_ret
      exact ⟨ret_bool' HE.out.symm, HB.out⟩
end Go.Proofs.Ytbkpokipibgdfaa
