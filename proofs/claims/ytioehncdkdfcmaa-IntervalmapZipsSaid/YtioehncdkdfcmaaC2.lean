/- Layer 5: replace. -/
import Derived.Test.YtioehncdkdfcmaaC3
namespace Go.Proofs.Ytioehncdkdfcmaa
open Go.RowKit Go.Lib Im

theorem fold_take {l : List Rn} (X : Rn → Rn) (J : List Rn) {k : Nat} (hk : k < l.length) : ((l.take (k + 1)).map X).foldl app J = app (((l.take k).map X).foldl app J) (X l[k]) := by
  rw [List.take_succ_eq_append_getElem hk, List.map_append, List.foldl_append]; rfl
theorem rnat_cut {w : World} {g o n : Nat} {R : List Rn} (h : RnAt w (some ⟨g, o, none⟩) R) (i m : Nat) (hm : m + i ≤ n) (hR : R.length = n) : RnAt w (some ⟨g, o + i * 3, none⟩) ((R.drop i).take m) := by
  rcases h with h | ⟨g', o', h1, h2, h3⟩
  · subst h; exact .inl (by simp)
  · simp only [Option.some.injEq, Addr.mk.injEq, and_true] at h1
    obtain ⟨rfl, rfl⟩ := h1
    refine .inr ⟨g, o + i * 3, rfl, h2, fun k hk => ?_⟩
    rw [List.length_take, List.length_drop] at hk
    obtain ⟨c0, c1, c2⟩ := h3 (i + k) (by omega)
    simp only [List.getElem_take, List.getElem_drop]
    rw [show o + i * 3 + k * 3 = o + (i + k) * 3 by omega]
    exact ⟨c0, c1, c2⟩

set_option maxRecDepth 100000 in
set_option maxHeartbeats 16000000 in
theorem replace_walk (b g n0 cA : Nat) (R N : List Rn) (n f t d : Int) (NA : Option Addr) (nN cN : Nat) (w : World) (hbx : Boxed w b 84 (.slice (some ⟨g, 0, none⟩) n0 cA)) (hown : w.ownsRow 0 34 3 (.slice (some ⟨g, 0, none⟩) n0 cA) n0 (rowR R)) (hR : R.length = n0)
    (hn0 : 0 < n0) (hC : Ch 0 R n) (hn : n ≤ 1048576) (h0 : 0 ≤ f) (hft : f ≤ t) (htn : t ≤ n) (hd : -1048576 ≤ d) (hd' : d ≤ 1048576) (hl : n0 ≤ 400000) (hN : RnAt w NA N) (hNl : N.length = nN) (hNc : nN ≤ 400000) (hF : Fits f N (t + d)) :
    Calls Try.prog 45 #[.pointer (some ⟨b, 0, none⟩), .int .i64 f, .int .i64 t, .int .i64 d, .slice NA nN cN] w (RepR w b g R N n f t d) := by
  have hRA := own_rnat hown hR
  have cT := search_T R (ch_sortT hC) (some ⟨g, 0, none⟩) cA f w (by omega) hRA
  have cF := fun w' h => search_F R (ch_sortF hC) (some ⟨g, 0, none⟩) cA (t + 1) w' (by omega) h
  rw [hR] at cT cF
  have HRA := Go.Lib.hid hRA
  have HC := Go.Lib.hid hC
  have HOWN := Go.Lib.hid hown
  have HBX := Go.Lib.hid hbx
  have HN := Go.Lib.hid hN
  have HNL := Go.Lib.hid hNl
  have HF := Go.Lib.hid hF
  have HR := Go.Lib.hid hR
  have hbc := hbx.cell
  obtain ⟨hcap, hcm⟩ := own_caps hown
  unfold maxLen at hcm
  have hw1 : IntKind.i64.wrap (t + 1) = t + 1 := by rw [IntKind.wrap_i64]; omega
  clear hown hC hbx hN hNl hF hRA hR
  go_enter Try.func45, Try.ntmps45
  go_wp2_with fail
  refine cT.mono ?_
  rintro e w1 ⟨i, hT, hb1, rfl⟩
  have HT := Go.Lib.hid hT
  have HRA1 := Go.Lib.hid (HRA.out.below hb1)
  have hbc1 := (hb1.cell (p := ⟨b, 0, none⟩) HBX.out.lt).trans hbc
  have HB1 := Go.Lib.hid hb1
  clear hT hb1 hbc cT
  go_wp2_with fail
  refine (cF _ HRA1.out).mono ?_
  rintro e w2 ⟨j, hFj, hb2, rfl⟩
  have HP := Go.Lib.hid (parted HC.out h0 hft htn HT.out hFj)
  have hij := HP.out.hab
  have hjn := HP.out.hb
  have hij1 : i < j := by
    rcases Nat.lt_or_ge i j with h | h
    · exact h
    · have := HP.out.h0 (by omega); rw [HR.out] at this; omega
  rw [HR.out] at hjn
  have hbc2 := (hb2.cell (p := ⟨b, 0, none⟩) (boxed_below HBX.out HB1.out).lt).trans hbc1
  have hB2 : Below w.heap.size w w2 := HB1.out.trans (hb2.mono HB1.out.size)
  have HRA2 := Go.Lib.hid (HRA.out.below hB2)
  have hci : ¬ (cA = i) := by omega
  have hjc : j ≤ cA := by omega
  have hnI : (j : Int) ≤ (n0 : Int) := by omega
  obtain ⟨no, hno⟩ : ∃ no, j - i = no := ⟨_, rfl⟩
  have hno2 : no ≤ 400000 := by omega
  obtain ⟨O, hO⟩ : ∃ O, O = (R.drop i).take (j - i) := ⟨_, rfl⟩
  have HOL : Hid (O.length = no) := Go.Lib.hid (by rw [hO, List.length_take, List.length_drop, HR.out]; omega)
  have HORA : Hid (RnAt w (some ⟨g, i * 3, none⟩) O) := Go.Lib.hid (by have := rnat_cut HRA.out i (j - i) (n := n0) (by omega) HR.out; rw [Nat.zero_add, ← hO] at this; exact this)
  have HOB : Hid (∀ k (h : k < O.length), 0 ≤ O[k].1 ∧ O[k].1 ≤ n ∧ 0 ≤ O[k].2.1 ∧ O[k].2.1 ≤ n) := Go.Lib.hid (by
    intro k hk
    have hk' := hk
    rw [HOL.out] at hk'
    have e : O[k] = R[i + k]'(by rw [HR.out]; omega) := by simp only [hO, List.getElem_take, List.getElem_drop]
    rw [e]
    obtain ⟨q1, q2, q3⟩ := ch_in HC.out (k := i + k) (by rw [HR.out]; omega)
    omega)
  have HO := Go.Lib.hid hO
  have HB2 := Go.Lib.hid hB2
  clear hFj hO hb2 hB2 HT HRA1 HB1 hbc1 cF hw1
  go_wp2_with fail
  go_loopw [15, 52] (fun v q wr => ∃ (k m : Nat) (D : Option Addr) (cd : Nat) (J : List Rn), k ≤ no ∧ q = .int .i64 k ∧ v = .slice D m cd ∧ m ≤ k ∧ Hid (wr.ownsRow w.heap.size 34 3 (.slice D m cd) m (rowR J)) ∧ Hid (Below w.heap.size w wr) ∧ Hid (J.length = m) ∧ Hid (J = ((O.take k).map (clipL f)).foldl app ([]))) (fun _ q _ => no - (RowKit.intOf q).toNat)
  case atStart => exact ⟨0, 0, none, 0, [], Nat.zero_le _, rfl, rfl, Nat.zero_le _, Go.Lib.hid (World.ownsRow_nil _ _ _ _), HB2, Go.Lib.hid rfl, Go.Lib.hid rfl⟩
  case round =>
    obtain ⟨k1, m1, D1, cd1, J1, hk1, rfl, rfl, hmk1, HOJ1, HBW1, HJL1, HJ1⟩ := hrel
    by_cases hlt : k1 < no
    · have hkl : k1 < O.length := by rw [HOL.out]; exact hlt
      rcases HORA.out with hA0 | ⟨gg, oo, hAA, hg, hcl⟩
      · rw [hA0] at hkl; exact absurd hkl (Nat.not_lt_zero _)
      simp only [Option.some.injEq, Addr.mk.injEq, and_true] at hAA
      obtain ⟨rfl, rfl⟩ := hAA
      obtain ⟨h0', h1', h2'⟩ := hcl k1 hkl
      have c0 := (HBW1.out.cell (p := ⟨g, (i * 3) + k1 * 3, none⟩) (Nat.lt_of_lt_of_le hg (Nat.le_refl _))).trans h0'
      have c1 := (HBW1.out.cell (p := ⟨g, (i * 3) + k1 * 3 + 1, none⟩) hg).trans h1'
      have c2 := (HBW1.out.cell (p := ⟨g, (i * 3) + k1 * 3 + 2, none⟩) hg).trans h2'
      have HFT := Go.Lib.hid (fold_take (clipL f) ([]) hkl)
      have HYB := Go.Lib.hid (HOB.out k1 hkl)
      clear h0' h1' h2' hcl
      generalize O[k1] = y at c0 c1 c2 HFT HYB
      obtain ⟨ya, yb, yv⟩ := y
      dsimp only at c0 c1 c2
      have Ba : Below wr.heap.size wr (wr.alloc (.cells #[.int .i64 ya, .int .i64 yb, .int .i64 yv] 34)) := (Below.refl _ wr).alloc (Nat.le_refl _) _
      have oa := ObjAt.new wr #[.int .i64 ya, .int .i64 yb, .int .i64 yv] 34
      have cP := append_any w.heap.size D1 m1 cd1 J1 ((clipL f) (ya, yb, yv)) _ (HOJ1.out.alloc (.cells #[.int .i64 ya, .int .i64 yb, .int .i64 yv] 34)) HJL1.out (Nat.le_trans HBW1.out.size Ba.size) (by omega)
      have hal := app_len J1 ((clipL f) (ya, yb, yv))
      rw [HJL1.out] at hal
      unfold rnV clipL at cP
      dsimp only at cP
      have e0 := oa.b0
      have e1 := oa.b1
      have e2 := oa.b2
      have BA := Go.Lib.hid Ba
      have HAL := Go.Lib.hid hal
      clear Ba oa hal
      obtain ⟨hy1, hy2, hy3, hy4⟩ := HYB.out
      dsimp only at hy1 hy2 hy3 hy4
      go_wp2_with fail
      refine cP.mono ?_
      rintro e w4 ⟨B4, n4, c4, rfl, ho4, hl4, hb4⟩
      have hn4 : n4 ≤ m1 + 1 := by rw [← hl4]; exact HAL.out
      clear cP
      go_wp2
      go_roundw
      case rel => exact ⟨k1 + 1, n4, B4, c4, _, by omega, by go_num, rfl, by omega, Go.Lib.hid ho4, Go.Lib.hid (HBW1.out.trans ((BA.out.mono HBW1.out.size).trans hb4)), Go.Lib.hid hl4, Go.Lib.hid (by rw [HFT.out, ← HJ1.out]; rfl)⟩
      case measure => simp [RowKit.intOf]; omega
    · obtain rfl : no = k1 := by omega
      have HJF1 : Hid (J1 = (O.map (clipL f)).foldl app ([])) := Go.Lib.hid (by rw [HJ1.out, List.take_of_length_le (by rw [HOL.out]; exact Nat.le_refl _)])
      clear HJ1
      go_wp2_with fail
      go_loopw [15, 70] (fun v q wr => ∃ (k m : Nat) (D : Option Addr) (cd : Nat) (J : List Rn), k ≤ nN ∧ q = .int .i64 k ∧ v = .slice D m cd ∧ m ≤ (m1 + k) ∧ Hid (wr.ownsRow w.heap.size 34 3 (.slice D m cd) m (rowR J)) ∧ Hid (Below w.heap.size w wr) ∧ Hid (J.length = m) ∧ Hid (J = ((N.take k).map id).foldl app (J1))) (fun _ q _ => nN - (RowKit.intOf q).toNat)
      case atStart => exact ⟨0, m1, D1, cd1, J1, Nat.zero_le _, rfl, rfl, by omega, HOJ1, HBW1, HJL1, Go.Lib.hid rfl⟩
      case round =>
        obtain ⟨k2, m2, D2, cd2, J2, hk2, rfl, rfl, hmk2, HOJ2, HBW2, HJL2, HJ2⟩ := hrel
        by_cases hlt : k2 < nN
        · have hkl : k2 < N.length := by rw [HNL.out]; exact hlt
          rcases HN.out with hA0 | ⟨gg, oo, hAA, hg, hcl⟩
          · rw [hA0] at hkl; exact absurd hkl (Nat.not_lt_zero _)
          subst hAA
          obtain ⟨h0', h1', h2'⟩ := hcl k2 hkl
          have c0 := (HBW2.out.cell (p := ⟨gg, oo + k2 * 3, none⟩) (Nat.lt_of_lt_of_le hg (Nat.le_refl _))).trans h0'
          have c1 := (HBW2.out.cell (p := ⟨gg, oo + k2 * 3 + 1, none⟩) hg).trans h1'
          have c2 := (HBW2.out.cell (p := ⟨gg, oo + k2 * 3 + 2, none⟩) hg).trans h2'
          have HFT := Go.Lib.hid (fold_take id (J1) hkl)
          have HYB : Hid True := Go.Lib.hid trivial
          clear h0' h1' h2' hcl
          generalize N[k2] = y at c0 c1 c2 HFT HYB
          obtain ⟨ya, yb, yv⟩ := y
          dsimp only at c0 c1 c2
          have Ba : Below wr.heap.size wr (wr.alloc (.cells #[.int .i64 ya, .int .i64 yb, .int .i64 yv] 34)) := (Below.refl _ wr).alloc (Nat.le_refl _) _
          have oa := ObjAt.new wr #[.int .i64 ya, .int .i64 yb, .int .i64 yv] 34
          have cP := append_any w.heap.size D2 m2 cd2 J2 (id (ya, yb, yv)) _ (HOJ2.out.alloc (.cells #[.int .i64 ya, .int .i64 yb, .int .i64 yv] 34)) HJL2.out (Nat.le_trans HBW2.out.size Ba.size) (by omega)
          have hal := app_len J2 (id (ya, yb, yv))
          rw [HJL2.out] at hal
          unfold rnV id at cP
          dsimp only at cP
          have e0 := oa.b0
          have e1 := oa.b1
          have e2 := oa.b2
          have BA := Go.Lib.hid Ba
          have HAL := Go.Lib.hid hal
          clear Ba oa hal
          go_wp2_with fail
          refine cP.mono ?_
          rintro e w4 ⟨B4, n4, c4, rfl, ho4, hl4, hb4⟩
          have hn4 : n4 ≤ m2 + 1 := by rw [← hl4]; exact HAL.out
          clear cP
          go_wp2
          go_roundw
          case rel => exact ⟨k2 + 1, n4, B4, c4, _, by omega, by go_num, rfl, by omega, Go.Lib.hid ho4, Go.Lib.hid (HBW2.out.trans ((BA.out.mono HBW2.out.size).trans hb4)), Go.Lib.hid hl4, Go.Lib.hid (by rw [HFT.out, ← HJ2.out]; rfl)⟩
          case measure => simp [RowKit.intOf]; omega
        · obtain rfl : nN = k2 := by omega
          have HJF2 : Hid (J2 = (N.map id).foldl app (J1)) := Go.Lib.hid (by rw [HJ2.out, List.take_of_length_le (by rw [HNL.out]; exact Nat.le_refl _)])
          clear HJ2
          go_wp2_with fail
          go_loopw [15, 80] (fun v q wr => ∃ (k m : Nat) (D : Option Addr) (cd : Nat) (J : List Rn), k ≤ no ∧ q = .int .i64 k ∧ v = .slice D m cd ∧ m ≤ (m2 + k) ∧ Hid (wr.ownsRow w.heap.size 34 3 (.slice D m cd) m (rowR J)) ∧ Hid (Below w.heap.size w wr) ∧ Hid (J.length = m) ∧ Hid (J = ((O.take k).map (clipR t d)).foldl app (J2))) (fun _ q _ => no - (RowKit.intOf q).toNat)
          case atStart => exact ⟨0, m2, D2, cd2, J2, Nat.zero_le _, rfl, rfl, by omega, HOJ2, HBW2, HJL2, Go.Lib.hid rfl⟩
          case round =>
            obtain ⟨k3, m3, D3, cd3, J3, hk3, rfl, rfl, hmk3, HOJ3, HBW3, HJL3, HJ3⟩ := hrel
            by_cases hlt : k3 < no
            · have hkl : k3 < O.length := by rw [HOL.out]; exact hlt
              rcases HORA.out with hA0 | ⟨gg, oo, hAA, hg, hcl⟩
              · rw [hA0] at hkl; exact absurd hkl (Nat.not_lt_zero _)
              simp only [Option.some.injEq, Addr.mk.injEq, and_true] at hAA
              obtain ⟨rfl, rfl⟩ := hAA
              obtain ⟨h0', h1', h2'⟩ := hcl k3 hkl
              have c0 := (HBW3.out.cell (p := ⟨g, (i * 3) + k3 * 3, none⟩) (Nat.lt_of_lt_of_le hg (Nat.le_refl _))).trans h0'
              have c1 := (HBW3.out.cell (p := ⟨g, (i * 3) + k3 * 3 + 1, none⟩) hg).trans h1'
              have c2 := (HBW3.out.cell (p := ⟨g, (i * 3) + k3 * 3 + 2, none⟩) hg).trans h2'
              have HFT := Go.Lib.hid (fold_take (clipR t d) (J2) hkl)
              have HYB := Go.Lib.hid (HOB.out k3 hkl)
              clear h0' h1' h2' hcl
              generalize O[k3] = y at c0 c1 c2 HFT HYB
              obtain ⟨ya, yb, yv⟩ := y
              dsimp only at c0 c1 c2
              have Ba : Below wr.heap.size wr (wr.alloc (.cells #[.int .i64 ya, .int .i64 yb, .int .i64 yv] 34)) := (Below.refl _ wr).alloc (Nat.le_refl _) _
              have oa := ObjAt.new wr #[.int .i64 ya, .int .i64 yb, .int .i64 yv] 34
              have cP := append_any w.heap.size D3 m3 cd3 J3 ((clipR t d) (ya, yb, yv)) _ (HOJ3.out.alloc (.cells #[.int .i64 ya, .int .i64 yb, .int .i64 yv] 34)) HJL3.out (Nat.le_trans HBW3.out.size Ba.size) (by omega)
              have hal := app_len J3 ((clipR t d) (ya, yb, yv))
              rw [HJL3.out] at hal
              unfold rnV clipR at cP
              dsimp only at cP
              have e0 := oa.b0
              have e1 := oa.b1
              have e2 := oa.b2
              have BA := Go.Lib.hid Ba
              have HAL := Go.Lib.hid hal
              clear Ba oa hal
              obtain ⟨hy1, hy2, hy3, hy4⟩ := HYB.out
              dsimp only at hy1 hy2 hy3 hy4
              have hwr1 : IntKind.i64.wrap (max ya t + d) = max ya t + d := by rw [IntKind.wrap_i64]; omega
              have hwr2 : IntKind.i64.wrap (yb + d) = yb + d := by rw [IntKind.wrap_i64]; omega
              go_wp2_with fail
              refine cP.mono ?_
              rintro e w4 ⟨B4, n4, c4, rfl, ho4, hl4, hb4⟩
              have hn4 : n4 ≤ m3 + 1 := by rw [← hl4]; exact HAL.out
              clear cP
              go_wp2
              go_roundw
              case rel => exact ⟨k3 + 1, n4, B4, c4, _, by omega, by go_num, rfl, by omega, Go.Lib.hid ho4, Go.Lib.hid (HBW3.out.trans ((BA.out.mono HBW3.out.size).trans hb4)), Go.Lib.hid hl4, Go.Lib.hid (by rw [HFT.out, ← HJ3.out]; rfl)⟩
              case measure => simp [RowKit.intOf]; omega
            · obtain rfl : no = k3 := by omega
              have HJF3 : Hid (J3 = (O.map (clipR t d)).foldl app (J2)) := Go.Lib.hid (by rw [HJ3.out, List.take_of_length_le (by rw [HOL.out]; exact Nat.le_refl _)])
              clear HJ3
              have HS3 : Hid (Rst w b g n0 cA D3 m3 cd3 R J3 j d 0 wr) := Go.Lib.hid ⟨by rw [sh_zero]; exact row_below HOWN.out (HBW3.out), boxed_below HBX.out HBW3.out, fr_below HBW3.out, HOJ3.out⟩
              have hbc3 := (boxed_below HBX.out HBW3.out).cell
              have hbg : b ≠ g := fun e => HBX.out.not_row (by decide) HOWN.out (by rw [e]; rfl)
              have HJE : Hid (J3 = (pieces f t d O N).foldl app []) := Go.Lib.hid (by rw [HJF3.out, HJF2.out, HJF1.out]; simp [pieces, List.foldl_append])
              have HBL := Go.Lib.hid HBX.out.lt
              have HGL : Hid (g < w.heap.size) := Go.Lib.hid (HOWN.out.lt g rfl).2
              have HSEP : Hid (∀ g' h, some (⟨g, 0, none⟩ : Addr) = some ⟨g', 0, none⟩ → D3 = some ⟨h, 0, none⟩ → h ≠ g') := Go.Lib.hid (fun g' h e1 e2 => by
                injection e1 with e1
                injection e1 with e1 _ _
                subst e2
                have := (HOJ3.out.lt h rfl).1
                have := HGL.out
                omega)
              have HM0 : Hid (m3 = 0 → j = n0) := Go.Lib.hid (fun h => by
                have := joined_nil HP.out hft HF.out (by rw [← HO.out, ← HJE.out, HJL3.out]; exact h)
                rw [this, HR.out])
              have HRB : Hid (∀ k (h : k < R.length), 0 ≤ R[k].1 ∧ R[k].1 ≤ n ∧ 0 ≤ R[k].2.1 ∧ R[k].2.1 ≤ n) := Go.Lib.hid (fun k h => by have := ch_in HC.out h; omega)
              clear HBX HOWN HJF3 HJF2 HJF1 HBW3 HOJ1 HOJ2 HOJ3 HJL1 HJL2 HRA HORA HN HOL HRA2 HOB HB2
              by_cases hjn2 : j < n0
              · obtain ⟨nb, hnb⟩ : ∃ nb, n0 - j = nb := ⟨_, rfl⟩
                have hjc2 : ¬ (cA = j) := by omega
                go_wp2_with fail
                clear hbc3
                go_loopw [23, 108] (fun v q wr' => ∃ k : Nat, k ≤ nb ∧ q = .int .i64 k ∧ Hid (Rst w b g n0 cA D3 m3 cd3 R J3 j d k wr')) (fun _ q _ => nb - (RowKit.intOf q).toNat)
                case atStart => exact ⟨0, Nat.zero_le _, rfl, HS3⟩
                case round =>
                  obtain ⟨k, hk, rfl, HS⟩ := hrel
                  clear HS3
                  by_cases hlt : k < nb
                  · have hjk : j + k < R.length := by rw [HR.out]; omega
                    obtain ⟨r0, r1, r2⟩ := sh_row (d := d) hjk
                    have c0 := (HS.out.1.cellAt ((j + k) * 3) (by omega)).trans r0
                    have c1 := (HS.out.1.cellAt ((j + k) * 3 + 1) (by omega)).trans r1
                    rw [show (j + k) * 3 = j * 3 + k * 3 by omega] at c0 c1
                    have f0 := HS.out.1.frozenAt (j * 3 + k * 3)
                    have f1 := HS.out.1.frozenAt (j * 3 + k * 3 + 1)
                    have HN1 := Go.Lib.hid (HS.out.step HGL.out hbg hjk)
                    obtain ⟨hy1, hy2, hy3, hy4⟩ := HRB.out (j + k) hjk
                    clear r0 r1 r2
                    generalize R[j + k] = y at c0 c1 HN1 hy1 hy2 hy3 hy4
                    obtain ⟨ya, yb, yv⟩ := y
                    dsimp only at c0 c1 HN1 hy1 hy2 hy3 hy4
                    have hwr1 : IntKind.i64.wrap (ya + d) = ya + d := by rw [IntKind.wrap_i64]; omega
                    have hwr2 : IntKind.i64.wrap (yb + d) = yb + d := by rw [IntKind.wrap_i64]; omega
                    clear hy1 hy2 hy3 hy4 hjk
                    go_wp2
                    go_roundw
                    case rel => exact ⟨k + 1, by omega, by go_num, HN1⟩
                    case measure => simp [RowKit.intOf]; omega
                  · obtain rfl : nb = k := by omega
                    have HRE := Go.Lib.hid (rep_eq (R := R) (O := O) (N := N) (i := i) (j := j) (k := nb) (f := f) (t := t) (d := d) (J := J3) hij (by rw [HR.out]; omega) (by rw [HR.out]; omega) HJE.out)
                    have cR := slreplace_any 0 w.heap.size g i j n0 m3 cA cd3 (some ⟨g, 0, none⟩) D3 (Sh R j d nb) J3 (by rw [sh_len, HR.out]) HJL3.out (by omega) (by omega) hij (by omega) (by omega) HM0.out wr (Nat.zero_le _) (fun q e => by injection e with e; injection e with e; exact e.symm) HS.out.1 HS.out.2.2.2 HSEP.out
                    have hbc4 := HS.out.2.1.cell
                    go_wp2_with fail
                    with_reducible refine cR.mono ?_
                    rintro e w5 ⟨⟨B5, n5, c5, rfl, ho5, hl5, hb5⟩, hkp5, hwr5⟩
                    have hbx5 : Boxed w5 b 84 (.slice (some ⟨g, 0, none⟩) n0 cA) := (hkp5.2 b (Nat.lt_of_lt_of_le HBL.out HS.out.2.2.1.1.size) hbg).trans HS.out.2.1
                    have hbc5 := hbx5.cell
                    have hbf5 := hbx5.frozen
                    have HFIN := Go.Lib.hid (mp_fin HS.out.2.2.1 hbx5 ho5 hl5 hb5 hkp5 hwr5)
                    rw [HRE.out] at HFIN
                    clear ho5 hl5 hb5 hkp5 hwr5 cR hbx5
                    go_wp2
                    (try simp only [Exit.inBlock, Exit.then])
                    refine bodyPost_end (results_none rfl _ _ _) rfl ?_
                    exact ⟨rfl, i, j, HP.out, by rw [← HO.out]; exact HFIN.out⟩
              · obtain rfl : n0 = j := by omega
                clear hjn2
                by_cases hcc : n0 = cA
                · subst hcc
                  go_wp2_with fail
                  clear hbc3
                  go_loopw [23, 108] (fun v q wr' => q = .int .i64 0 ∧ Hid (Rst w b g n0 n0 D3 m3 cd3 R J3 n0 d 0 wr')) (fun _ q _ => 0)
                  case atStart => exact ⟨rfl, HS3⟩
                  case round =>
                    obtain ⟨rfl, HS⟩ := hrel
                    clear HS3
                    have HRE := Go.Lib.hid (rep_eq (R := R) (O := O) (N := N) (i := i) (j := n0) (k := 0) (f := f) (t := t) (d := d) (J := J3) hij (by rw [HR.out]; omega) (by rw [HR.out]; omega) HJE.out)
                    have cR := slreplace_any 0 w.heap.size g i n0 n0 m3 n0 cd3 (some ⟨g, 0, none⟩) D3 (Sh R n0 d 0) J3 (by rw [sh_len, HR.out]) HJL3.out (by omega) (by omega) hij (by omega) (by omega) (fun _ => rfl) wr (Nat.zero_le _) (fun q e => by injection e with e; injection e with e; exact e.symm) HS.out.1 HS.out.2.2.2 HSEP.out
                    have hbc4 := HS.out.2.1.cell
                    go_wp2_with fail
                    with_reducible refine cR.mono ?_
                    rintro e w5 ⟨⟨B5, n5, c5, rfl, ho5, hl5, hb5⟩, hkp5, hwr5⟩
                    have hbx5 : Boxed w5 b 84 (.slice (some ⟨g, 0, none⟩) n0 n0) := (hkp5.2 b (Nat.lt_of_lt_of_le HBL.out HS.out.2.2.1.1.size) hbg).trans HS.out.2.1
                    have hbc5 := hbx5.cell
                    have hbf5 := hbx5.frozen
                    have HFIN := Go.Lib.hid (mp_fin HS.out.2.2.1 hbx5 ho5 hl5 hb5 hkp5 hwr5)
                    rw [HRE.out] at HFIN
                    clear ho5 hl5 hb5 hkp5 hwr5 cR hbx5
                    go_wp2
                    (try simp only [Exit.inBlock, Exit.then])
                    refine bodyPost_end (results_none rfl _ _ _) rfl ?_
                    exact ⟨rfl, i, n0, HP.out, by rw [← HO.out]; exact HFIN.out⟩
                · have hcc2 : ¬ cA = n0 := by omega
                  go_wp2_with fail
                  clear hbc3
                  go_loopw [23, 108] (fun v q wr' => q = .int .i64 0 ∧ Hid (Rst w b g n0 cA D3 m3 cd3 R J3 n0 d 0 wr')) (fun _ q _ => 0)
                  case atStart => exact ⟨rfl, HS3⟩
                  case round =>
                    obtain ⟨rfl, HS⟩ := hrel
                    clear HS3
                    have HRE := Go.Lib.hid (rep_eq (R := R) (O := O) (N := N) (i := i) (j := n0) (k := 0) (f := f) (t := t) (d := d) (J := J3) hij (by rw [HR.out]; omega) (by rw [HR.out]; omega) HJE.out)
                    have cR := slreplace_any 0 w.heap.size g i n0 n0 m3 cA cd3 (some ⟨g, 0, none⟩) D3 (Sh R n0 d 0) J3 (by rw [sh_len, HR.out]) HJL3.out (by omega) (by omega) hij (by omega) (by omega) (fun _ => rfl) wr (Nat.zero_le _) (fun q e => by injection e with e; injection e with e; exact e.symm) HS.out.1 HS.out.2.2.2 HSEP.out
                    have hbc4 := HS.out.2.1.cell
                    go_wp2_with fail
                    with_reducible refine cR.mono ?_
                    rintro e w5 ⟨⟨B5, n5, c5, rfl, ho5, hl5, hb5⟩, hkp5, hwr5⟩
                    have hbx5 : Boxed w5 b 84 (.slice (some ⟨g, 0, none⟩) n0 cA) := (hkp5.2 b (Nat.lt_of_lt_of_le HBL.out HS.out.2.2.1.1.size) hbg).trans HS.out.2.1
                    have hbc5 := hbx5.cell
                    have hbf5 := hbx5.frozen
                    have HFIN := Go.Lib.hid (mp_fin HS.out.2.2.1 hbx5 ho5 hl5 hb5 hkp5 hwr5)
                    rw [HRE.out] at HFIN
                    clear ho5 hl5 hb5 hkp5 hwr5 cR hbx5
                    go_wp2
                    (try simp only [Exit.inBlock, Exit.then])
                    refine bodyPost_end (results_none rfl _ _ _) rfl ?_
                    exact ⟨rfl, i, n0, HP.out, by rw [← HO.out]; exact HFIN.out⟩


end Go.Proofs.Ytioehncdkdfcmaa
