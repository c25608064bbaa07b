/- Layer 5: the searches for the run that begins, or ends, at an offset. -/
import Derived.Test.YtioehncdkdfcmaaA7
import Derived.Deep.DeepCutAuto
namespace Go.Proofs.Ytioehncdkdfcmaa
open Go.RowKit Go.Lib

theorem cmpI_neg (x y : Int) : cmpI x y < 0 ↔ x < y := by unfold cmpI; split <;> (try split) <;> omega
theorem cmpI_zero (x y : Int) : cmpI x y = 0 ↔ x = y := by unfold cmpI; split <;> (try split) <;> omega
def SortF (l : List Rn) : Prop := ∀ i j (hi : i < l.length) (hj : j < l.length), i < j → l[i].1 < l[j].1
theorem SortF.le {l : List Rn} (h : SortF l) (i j : Nat) (hi : i < l.length) (hj : j < l.length) (hij : i ≤ j) : l[i].1 ≤ l[j].1 := by
  rcases Nat.lt_or_eq_of_le hij with h1 | h1
  · exact Int.le_of_lt (h i j hi hj h1)
  · subst h1; exact Int.le_refl _
def PartF (l : List Rn) (p : Int) (i : Nat) : Prop := i ≤ l.length ∧ (∀ k (h : k < l.length), k < i → l[k].1 < p) ∧ (∀ k (h : k < l.length), i ≤ k → p ≤ l[k].1)
def FoundF (l : List Rn) (p : Int) (w : World) (e : Ending) (w' : World) : Prop := ∃ i : Nat, PartF l p i ∧ Below w.heap.size w w' ∧ e = .returned (.tuple #[.int .i64 i, .bool (decide (∃ h : i < l.length, l[i].1 = p))])
set_option maxRecDepth 100000 in
set_option maxHeartbeats 4000000 in
theorem search_F (l : List Rn) (hup : SortF l) (A : Option Addr) (c : Nat) (p : Int) (w : World) (hl : l.length ≤ 2000000) (hA : RnAt w A l) :
    Calls Try.prog 41 #[.slice A l.length c, .int .i64 p, .func (.func 42) #[] #[]] w (FoundF l p w) := by
  have U := Go.Lib.hid hup
  have HA := Go.Lib.hid hA
  clear hA
  clear hup
  obtain ⟨n, hn⟩ : ∃ n, l.length = n := ⟨_, rfl⟩
  have N := Go.Lib.hid hn
  rw [hn] at hl ⊢
  clear hn
  go_enter Try.func41, Try.ntmps41
  go_wp2
  go_loopg [9, 10] n (fun kx s9 s10 wr => ∃ lo hi : Nat, s9 = .int .i64 lo ∧ s10 = .int .i64 hi ∧ lo ≤ hi ∧ hi ≤ n ∧ hi - lo ≤ kx ∧ Hid (Below w.heap.size w wr) ∧
    Hid ((∀ k (h : k < l.length), k < lo → l[k].1 < p) ∧ (∀ k (h : k < l.length), hi ≤ k → p ≤ l[k].1)))
  case atStart => exact ⟨0, n, rfl, rfl, Nat.zero_le _, Nat.le_refl _, by omega, Go.Lib.hid (Below.refl _ _), Go.Lib.hid ⟨fun k h h' => by omega, fun k h h' => by have := N.out; omega⟩⟩
  case round =>
    obtain ⟨lo, hi, rfl, rfl, hlh, hin, hgg, HB, I⟩ := hrel
    by_cases hlt : lo < hi
    · have hm : (lo + hi) / 2 < l.length := by rw [N.out]; omega
      rcases HA.out with hA0 | ⟨g, o, rfl, hg, hcl⟩
      · rw [hA0] at hm; exact absurd hm (Nat.not_lt_zero _)
      obtain ⟨h0, h1, h2⟩ := hcl ((lo + hi) / 2) hm
      have c0 := (HB.out.cell (p := ⟨g, o + (lo + hi) / 2 * 3, none⟩) hg).trans h0
      have c1 := (HB.out.cell (p := ⟨g, o + (lo + hi) / 2 * 3 + 1, none⟩) hg).trans h1
      have c2 := (HB.out.cell (p := ⟨g, o + (lo + hi) / 2 * 3 + 2, none⟩) hg).trans h2
      clear h0 h1 h2 hcl
      generalize hy : l[(lo + hi) / 2] = y at c0 c1 c2
      have Y := Go.Lib.hid hy
      clear hy
      obtain ⟨ya, yb, yc⟩ := y
      dsimp only at c0 c1 c2
      have hc := from_any (ya, yb, yc) p wr
      unfold rnV at hc
      dsimp only at hc
      generalize hv : cmpI ya p = v at hc
      have V := Go.Lib.hid hv
      clear hv
      by_cases hyx : v < 0
      · go_wp2_with (go_at_call 42; refine hc.mono ?_; rintro e w' ⟨rfl, hb⟩)
        go_roundg (hi - ((lo + hi) / 2 + 1))
        case measure => omega
        case rel =>
          refine ⟨(lo + hi) / 2 + 1, hi, by rw [show ((lo : Int) + (hi : Int)) / 2 + 1 = (((lo + hi) / 2 + 1 : Nat) : Int) by omega], rfl, by omega, hin, Nat.le_refl _, Go.Lib.hid (HB.out.trans (hb.mono HB.out.size)), Go.Lib.hid ⟨fun k h h' => ?_, I.out.2⟩⟩
          have e1 := U.out.le k ((lo + hi) / 2) h hm (by omega)
          have e2 := (cmpI_neg ya p).1 (by rw [V.out]; exact hyx)
          rw [Y.out] at e1
          dsimp only at e1 e2
          omega
      · go_wp2_with (go_at_call 42; refine hc.mono ?_; rintro e w' ⟨rfl, hb⟩)
        go_roundg ((lo + hi) / 2 - lo)
        case measure => omega
        case rel =>
          refine ⟨lo, (lo + hi) / 2, rfl, by rw [show ((lo : Int) + (hi : Int)) / 2 = (((lo + hi) / 2 : Nat) : Int) by omega], by omega, by omega, Nat.le_refl _, Go.Lib.hid (HB.out.trans (hb.mono HB.out.size)), Go.Lib.hid ⟨I.out.1, fun k h h' => ?_⟩⟩
          have e1 := U.out.le ((lo + hi) / 2) k hm h h'
          have e2 := (not_congr (cmpI_neg ya p)).1 (by rw [V.out]; omega)
          rw [Y.out] at e1
          dsimp only at e1 e2
          omega
    · obtain rfl : lo = hi := by omega
      have PH : Hid (PartF l p lo) := Go.Lib.hid ⟨by rw [N.out]; exact hin, I.out.1, I.out.2⟩
      by_cases hn : lo < n
      · have hm : lo < l.length := by rw [N.out]; omega
        rcases HA.out with hA0 | ⟨g, o, rfl, hg, hcl⟩
        · rw [hA0] at hm; exact absurd hm (Nat.not_lt_zero _)
        obtain ⟨h0, h1, h2⟩ := hcl lo hm
        have c0 := (HB.out.cell (p := ⟨g, o + lo * 3, none⟩) hg).trans h0
        have c1 := (HB.out.cell (p := ⟨g, o + lo * 3 + 1, none⟩) hg).trans h1
        have c2 := (HB.out.cell (p := ⟨g, o + lo * 3 + 2, none⟩) hg).trans h2
        clear h0 h1 h2 hcl
        generalize hy : l[lo] = y at c0 c1 c2
        have Y := Go.Lib.hid hy
        clear hy
        obtain ⟨ya, yb, yc⟩ := y
        dsimp only at c0 c1 c2
        have hc := from_any (ya, yb, yc) p wr
        unfold rnV at hc
        dsimp only at hc
        have Z := Go.Lib.hid (cmpI_zero ya p)
        generalize hv : cmpI ya p = v at hc Z
        clear hv
        by_cases hyx : v = 0
        · go_wp2_with (go_at_call 42; refine hc.mono ?_; rintro e w' ⟨rfl, hb⟩)
          go_ret2
          refine ⟨lo, PH.out, HB.out.trans (hb.mono HB.out.size), ?_⟩
          rw [decide_eq_true (show ∃ h : lo < l.length, l[lo].1 = p from ⟨hm, by rw [Y.out]; exact Z.out.1 hyx⟩)]
          simp
        · go_wp2_with (go_at_call 42; refine hc.mono ?_; rintro e w' ⟨rfl, hb⟩)
          go_ret2
          refine ⟨lo, PH.out, HB.out.trans (hb.mono HB.out.size), ?_⟩
          rw [decide_eq_false (show ¬ ∃ h : lo < l.length, l[lo].1 = p from fun ⟨_, h⟩ => hyx (Z.out.2 (by rw [Y.out] at h; exact h)))]
          simp [hyx]
      · go_wp2
        go_ret2
        refine ⟨lo, PH.out, HB.out, ?_⟩
        rw [decide_eq_false (show ¬ ∃ h : lo < l.length, l[lo].1 = p from fun ⟨h, _⟩ => by have := N.out; omega)]
        simp
def SortT (l : List Rn) : Prop := ∀ i j (hi : i < l.length) (hj : j < l.length), i < j → l[i].2.1 < l[j].2.1
theorem SortT.le {l : List Rn} (h : SortT l) (i j : Nat) (hi : i < l.length) (hj : j < l.length) (hij : i ≤ j) : l[i].2.1 ≤ l[j].2.1 := by
  rcases Nat.lt_or_eq_of_le hij with h1 | h1
  · exact Int.le_of_lt (h i j hi hj h1)
  · subst h1; exact Int.le_refl _
def PartT (l : List Rn) (p : Int) (i : Nat) : Prop := i ≤ l.length ∧ (∀ k (h : k < l.length), k < i → l[k].2.1 < p) ∧ (∀ k (h : k < l.length), i ≤ k → p ≤ l[k].2.1)
def FoundT (l : List Rn) (p : Int) (w : World) (e : Ending) (w' : World) : Prop := ∃ i : Nat, PartT l p i ∧ Below w.heap.size w w' ∧ e = .returned (.tuple #[.int .i64 i, .bool (decide (∃ h : i < l.length, l[i].2.1 = p))])
set_option maxRecDepth 100000 in
set_option maxHeartbeats 4000000 in
theorem search_T (l : List Rn) (hup : SortT l) (A : Option Addr) (c : Nat) (p : Int) (w : World) (hl : l.length ≤ 2000000) (hA : RnAt w A l) :
    Calls Try.prog 41 #[.slice A l.length c, .int .i64 p, .func (.func 49) #[] #[]] w (FoundT l p w) := by
  have U := Go.Lib.hid hup
  have HA := Go.Lib.hid hA
  clear hA
  clear hup
  obtain ⟨n, hn⟩ : ∃ n, l.length = n := ⟨_, rfl⟩
  have N := Go.Lib.hid hn
  rw [hn] at hl ⊢
  clear hn
  go_enter Try.func41, Try.ntmps41
  go_wp2
  go_loopg [9, 10] n (fun kx s9 s10 wr => ∃ lo hi : Nat, s9 = .int .i64 lo ∧ s10 = .int .i64 hi ∧ lo ≤ hi ∧ hi ≤ n ∧ hi - lo ≤ kx ∧ Hid (Below w.heap.size w wr) ∧
    Hid ((∀ k (h : k < l.length), k < lo → l[k].2.1 < p) ∧ (∀ k (h : k < l.length), hi ≤ k → p ≤ l[k].2.1)))
  case atStart => exact ⟨0, n, rfl, rfl, Nat.zero_le _, Nat.le_refl _, by omega, Go.Lib.hid (Below.refl _ _), Go.Lib.hid ⟨fun k h h' => by omega, fun k h h' => by have := N.out; omega⟩⟩
  case round =>
    obtain ⟨lo, hi, rfl, rfl, hlh, hin, hgg, HB, I⟩ := hrel
    by_cases hlt : lo < hi
    · have hm : (lo + hi) / 2 < l.length := by rw [N.out]; omega
      rcases HA.out with hA0 | ⟨g, o, rfl, hg, hcl⟩
      · rw [hA0] at hm; exact absurd hm (Nat.not_lt_zero _)
      obtain ⟨h0, h1, h2⟩ := hcl ((lo + hi) / 2) hm
      have c0 := (HB.out.cell (p := ⟨g, o + (lo + hi) / 2 * 3, none⟩) hg).trans h0
      have c1 := (HB.out.cell (p := ⟨g, o + (lo + hi) / 2 * 3 + 1, none⟩) hg).trans h1
      have c2 := (HB.out.cell (p := ⟨g, o + (lo + hi) / 2 * 3 + 2, none⟩) hg).trans h2
      clear h0 h1 h2 hcl
      generalize hy : l[(lo + hi) / 2] = y at c0 c1 c2
      have Y := Go.Lib.hid hy
      clear hy
      obtain ⟨ya, yb, yc⟩ := y
      dsimp only at c0 c1 c2
      have hc := to_any (ya, yb, yc) p wr
      unfold rnV at hc
      dsimp only at hc
      generalize hv : cmpI yb p = v at hc
      have V := Go.Lib.hid hv
      clear hv
      by_cases hyx : v < 0
      · go_wp2_with (go_at_call 49; refine hc.mono ?_; rintro e w' ⟨rfl, hb⟩)
        go_roundg (hi - ((lo + hi) / 2 + 1))
        case measure => omega
        case rel =>
          refine ⟨(lo + hi) / 2 + 1, hi, by rw [show ((lo : Int) + (hi : Int)) / 2 + 1 = (((lo + hi) / 2 + 1 : Nat) : Int) by omega], rfl, by omega, hin, Nat.le_refl _, Go.Lib.hid (HB.out.trans (hb.mono HB.out.size)), Go.Lib.hid ⟨fun k h h' => ?_, I.out.2⟩⟩
          have e1 := U.out.le k ((lo + hi) / 2) h hm (by omega)
          have e2 := (cmpI_neg yb p).1 (by rw [V.out]; exact hyx)
          rw [Y.out] at e1
          dsimp only at e1 e2
          omega
      · go_wp2_with (go_at_call 49; refine hc.mono ?_; rintro e w' ⟨rfl, hb⟩)
        go_roundg ((lo + hi) / 2 - lo)
        case measure => omega
        case rel =>
          refine ⟨lo, (lo + hi) / 2, rfl, by rw [show ((lo : Int) + (hi : Int)) / 2 = (((lo + hi) / 2 : Nat) : Int) by omega], by omega, by omega, Nat.le_refl _, Go.Lib.hid (HB.out.trans (hb.mono HB.out.size)), Go.Lib.hid ⟨I.out.1, fun k h h' => ?_⟩⟩
          have e1 := U.out.le ((lo + hi) / 2) k hm h h'
          have e2 := (not_congr (cmpI_neg yb p)).1 (by rw [V.out]; omega)
          rw [Y.out] at e1
          dsimp only at e1 e2
          omega
    · obtain rfl : lo = hi := by omega
      have PH : Hid (PartT l p lo) := Go.Lib.hid ⟨by rw [N.out]; exact hin, I.out.1, I.out.2⟩
      by_cases hn : lo < n
      · have hm : lo < l.length := by rw [N.out]; omega
        rcases HA.out with hA0 | ⟨g, o, rfl, hg, hcl⟩
        · rw [hA0] at hm; exact absurd hm (Nat.not_lt_zero _)
        obtain ⟨h0, h1, h2⟩ := hcl lo hm
        have c0 := (HB.out.cell (p := ⟨g, o + lo * 3, none⟩) hg).trans h0
        have c1 := (HB.out.cell (p := ⟨g, o + lo * 3 + 1, none⟩) hg).trans h1
        have c2 := (HB.out.cell (p := ⟨g, o + lo * 3 + 2, none⟩) hg).trans h2
        clear h0 h1 h2 hcl
        generalize hy : l[lo] = y at c0 c1 c2
        have Y := Go.Lib.hid hy
        clear hy
        obtain ⟨ya, yb, yc⟩ := y
        dsimp only at c0 c1 c2
        have hc := to_any (ya, yb, yc) p wr
        unfold rnV at hc
        dsimp only at hc
        have Z := Go.Lib.hid (cmpI_zero yb p)
        generalize hv : cmpI yb p = v at hc Z
        clear hv
        by_cases hyx : v = 0
        · go_wp2_with (go_at_call 49; refine hc.mono ?_; rintro e w' ⟨rfl, hb⟩)
          go_ret2
          refine ⟨lo, PH.out, HB.out.trans (hb.mono HB.out.size), ?_⟩
          rw [decide_eq_true (show ∃ h : lo < l.length, l[lo].2.1 = p from ⟨hm, by rw [Y.out]; exact Z.out.1 hyx⟩)]
          simp
        · go_wp2_with (go_at_call 49; refine hc.mono ?_; rintro e w' ⟨rfl, hb⟩)
          go_ret2
          refine ⟨lo, PH.out, HB.out.trans (hb.mono HB.out.size), ?_⟩
          rw [decide_eq_false (show ¬ ∃ h : lo < l.length, l[lo].2.1 = p from fun ⟨_, h⟩ => hyx (Z.out.2 (by rw [Y.out] at h; exact h)))]
          simp [hyx]
      · go_wp2
        go_ret2
        refine ⟨lo, PH.out, HB.out, ?_⟩
        rw [decide_eq_false (show ¬ ∃ h : lo < l.length, l[lo].2.1 = p from fun ⟨h, _⟩ => by have := N.out; omega)]
        simp
end Go.Proofs.Ytioehncdkdfcmaa
