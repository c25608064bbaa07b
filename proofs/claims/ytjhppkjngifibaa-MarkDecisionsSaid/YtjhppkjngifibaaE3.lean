/- Layer 23: the searches. -/
import Derived.Test.YtjhppkjngifibaaE2
import Derived.IntWalk
import Derived.Deep.LoopGhost
namespace Go.Proofs.Ytjhppkjngifibaa
open Go.RowKit Go.Lib
set_option linter.unusedVariables false

theorem ret_pair {a b : Int} {x y : Bool} (h1 : a = b) (h2 : x = y) : Ending.returned (.tuple #[.int .i64 a, .bool x]) = .returned (.tuple #[.int .i64 b, .bool y]) := by rw [h1, h2]
/-- Keys that do not decrease; a place that parts them. -/
def UpK (ks : List Int) : Prop := ∀ i j (hi : i < ks.length) (hj : j < ks.length), i ≤ j → ks[i] ≤ ks[j]
def PartK (ks : List Int) (p : Int) (i : Nat) : Prop := i ≤ ks.length ∧ (∀ k (h : k < ks.length), k < i → ks[k] < p) ∧ (∀ k (h : k < ks.length), i ≤ k → p ≤ ks[k])
def FoundK (ks : List Int) (p : Int) (w : World) (e : Ending) (w' : World) : Prop := ∃ i : Nat, PartK ks p i ∧ Below w.heap.size w w' ∧ e = .returned (.tuple #[.int .i64 i, .bool (decide (∃ h : i < ks.length, ks[i] = p))])
theorem upK_of_lt {ks : List Int} (h : ks.Pairwise (· < ·)) : UpK ks := by
  rw [List.pairwise_iff_getElem] at h
  intro i j hi hj hij
  rcases Nat.lt_or_eq_of_le hij with h1 | h1
  · exact Int.le_of_lt (h i j hi hj h1)
  · subst h1; exact Int.le_refl _
theorem upK_of_le {ks : List Int} (h : ks.Pairwise (· ≤ ·)) : UpK ks := by
  rw [List.pairwise_iff_getElem] at h
  intro i j hi hj hij
  rcases Nat.lt_or_eq_of_le hij with h1 | h1
  · exact h i j hi hj h1
  · subst h1; exact Int.le_refl _
set_option maxRecDepth 100000 in
set_option maxHeartbeats 8000000 in
theorem searchI_any (l : List Int) (hup : UpK (l)) (A : Option Addr) (c : Nat) (p : Int) (w : World) (hl : l.length ≤ 1000) (hA : NsAt w A l) :
    Calls Try.prog 79 #[.slice A l.length c, .int .i64 p, .func (.func 80) #[] #[]] w (FoundK (l) p w) := by
  have U := Go.Lib.hid hup
  have HA := Go.Lib.hid hA
  clear hA
  clear hup
  obtain ⟨n, hn⟩ : ∃ n, l.length = n := ⟨_, rfl⟩
  have N := Go.Lib.hid hn
  have NK := Go.Lib.hid (show (l).length = n by exact hn)
  rw [hn] at hl ⊢
  clear hn
  generalize hks : l = ks at U NK ⊢
  have KS := Go.Lib.hid hks
  clear hks
  go_enter Try.func79, Try.ntmps79
  go_wp2
  go_loopg [9, 10] n (fun kx s9 s10 wr => ∃ lo hi : Nat, s9 = .int .i64 lo ∧ s10 = .int .i64 hi ∧ lo ≤ hi ∧ hi ≤ n ∧ hi - lo ≤ kx ∧ Hid (Below w.heap.size w wr) ∧
    Hid ((∀ k (h : k < ks.length), k < lo → ks[k] < p) ∧ (∀ k (h : k < ks.length), hi ≤ k → p ≤ ks[k])))
  case atStart => exact ⟨0, n, rfl, rfl, Nat.zero_le _, Nat.le_refl _, by omega, Go.Lib.hid (Below.refl _ _), Go.Lib.hid ⟨fun k h h' => by omega, fun k h h' => by have := NK.out; omega⟩⟩
  case round =>
    obtain ⟨lo, hi, rfl, rfl, hlh, hin, hgg, HB, I⟩ := hrel
    by_cases hlt : lo < hi
    · have hm : (lo + hi) / 2 < l.length := by rw [N.out]; omega
      have hmk : (lo + hi) / 2 < ks.length := by rw [NK.out]; omega
      rcases HA.out with hA0 | ⟨g, o, rfl, hg, hcl⟩
      · rw [hA0] at hm; exact absurd hm (Nat.not_lt_zero _)
      have c0 := (HB.out.cell (p := ⟨g, o + (lo + hi) / 2, none⟩) hg).trans (hcl ((lo + hi) / 2) hm)
      clear hcl
      have HK := Go.Lib.hid (show ks[(lo + hi) / 2] = l[(lo + hi) / 2] by have := KS.out; subst this; rfl)
      generalize l[(lo + hi) / 2] = y at c0 HK
      have hc := cmp_any y p wr
      generalize hv : cmpI y p = v at hc
      have V := Go.Lib.hid hv
      clear hv
      by_cases hyx : v < 0
      · go_wp2_with (go_at_call 80; refine hc.mono ?_; rintro e w' ⟨rfl, rfl⟩)
        go_roundg (hi - ((lo + hi) / 2 + 1))
        case measure => omega
        case rel =>
          refine ⟨(lo + hi) / 2 + 1, hi, by rw [show ((lo : Int) + (hi : Int)) / 2 + 1 = (((lo + hi) / 2 + 1 : Nat) : Int) by omega], rfl, by omega, hin, Nat.le_refl _, Go.Lib.hid HB.out, Go.Lib.hid ⟨fun k h h' => ?_, I.out.2⟩⟩
          have e1 := U.out k ((lo + hi) / 2) h hmk (by omega)
          have e2 := (cmpI_neg y p).1 (by rw [V.out]; exact hyx)
          have e3 := HK.out
          omega
      · go_wp2_with (go_at_call 80; refine hc.mono ?_; rintro e w' ⟨rfl, rfl⟩)
        go_roundg ((lo + hi) / 2 - lo)
        case measure => omega
        case rel =>
          refine ⟨lo, (lo + hi) / 2, rfl, by rw [show ((lo : Int) + (hi : Int)) / 2 = (((lo + hi) / 2 : Nat) : Int) by omega], by omega, by omega, Nat.le_refl _, Go.Lib.hid HB.out, Go.Lib.hid ⟨I.out.1, fun k h h' => ?_⟩⟩
          have e1 := U.out ((lo + hi) / 2) k hmk h h'
          have e2 := (not_congr (cmpI_neg y p)).1 (by rw [V.out]; omega)
          have e3 := HK.out
          omega
    · obtain rfl : lo = hi := by omega
      have PH : Hid (PartK ks p lo) := Go.Lib.hid ⟨by rw [NK.out]; exact hin, I.out.1, I.out.2⟩
      by_cases hn : lo < n
      · have hm : lo < l.length := by rw [N.out]; omega
        have hmk : lo < ks.length := by rw [NK.out]; omega
        rcases HA.out with hA0 | ⟨g, o, rfl, hg, hcl⟩
        · rw [hA0] at hm; exact absurd hm (Nat.not_lt_zero _)
        have c0 := (HB.out.cell (p := ⟨g, o + lo, none⟩) hg).trans (hcl (lo) hm)
        clear hcl
        have HK := Go.Lib.hid (show ks[lo] = l[lo] by have := KS.out; subst this; rfl)
        generalize l[lo] = y at c0 HK
        have hc := cmp_any y p wr
        have Z := Go.Lib.hid (cmpI_zero y p)
        generalize hv : cmpI y p = v at hc Z
        clear hv
        by_cases hyx : v = 0
        · go_wp2_with (go_at_call 80; refine hc.mono ?_; rintro e w' ⟨rfl, rfl⟩)
          go_ret2
          refine ⟨lo, PH.out, HB.out, ?_⟩
          rw [decide_eq_true (show ∃ h : lo < ks.length, ks[lo] = p from ⟨hmk, by rw [HK.out]; exact Z.out.1 hyx⟩)]
          simp
        · go_wp2_with (go_at_call 80; refine hc.mono ?_; rintro e w' ⟨rfl, rfl⟩)
          go_ret2
          refine ⟨lo, PH.out, HB.out, ?_⟩
          rw [decide_eq_false (show ¬ ∃ h : lo < ks.length, ks[lo] = p from fun ⟨_, h⟩ => hyx (Z.out.2 (by rw [HK.out] at h; exact h)))]
          simp [hyx]
      · go_wp2
        go_ret2
        refine ⟨lo, PH.out, HB.out, ?_⟩
        rw [decide_eq_false (show ¬ ∃ h : lo < ks.length, ks[lo] = p from fun ⟨h, _⟩ => by have := NK.out; omega)]
        simp
set_option maxRecDepth 100000 in
theorem cloP_any (a : Int) (b : Int) (p : Int) (w : World) :
    Calls Try.prog 100 #[.agg #[.int .i64 a, .int .i64 b], .int .i64 p] w fun e w' => e = .returned (.int .i64 (cmpI a p)) ∧ Below w.heap.size w w' := by
  go_enter Try.func100, Try.ntmps100
  go_wp2_with (go_at_call 80; refine (cmp_any _ _ _).mono ?_; rintro e w' ⟨rfl, rfl⟩)
  go_ret
  exact ⟨rfl, (Below.refl _ w).alloc (Nat.le_refl _) _⟩
set_option maxRecDepth 100000 in
set_option maxHeartbeats 8000000 in
theorem searchP_any (l : List Pr) (hup : UpK (l.map (·.1))) (A : Option Addr) (c : Nat) (p : Int) (w : World) (hl : l.length ≤ 1000) (hA : AtP w A l) :
    Calls Try.prog 99 #[.slice A l.length c, .int .i64 p, .func (.func 100) #[] #[]] w (FoundK (l.map (·.1)) p w) := by
  have U := Go.Lib.hid hup
  have HA := Go.Lib.hid hA
  clear hA
  clear hup
  obtain ⟨n, hn⟩ : ∃ n, l.length = n := ⟨_, rfl⟩
  have N := Go.Lib.hid hn
  have NK := Go.Lib.hid (show (l.map (·.1)).length = n by rw [List.length_map]; exact hn)
  rw [hn] at hl ⊢
  clear hn
  generalize hks : l.map (·.1) = ks at U NK ⊢
  have KS := Go.Lib.hid hks
  clear hks
  go_enter Try.func99, Try.ntmps99
  go_wp2
  go_loopg [9, 10] n (fun kx s9 s10 wr => ∃ lo hi : Nat, s9 = .int .i64 lo ∧ s10 = .int .i64 hi ∧ lo ≤ hi ∧ hi ≤ n ∧ hi - lo ≤ kx ∧ Hid (Below w.heap.size w wr) ∧
    Hid ((∀ k (h : k < ks.length), k < lo → ks[k] < p) ∧ (∀ k (h : k < ks.length), hi ≤ k → p ≤ ks[k])))
  case atStart => exact ⟨0, n, rfl, rfl, Nat.zero_le _, Nat.le_refl _, by omega, Go.Lib.hid (Below.refl _ _), Go.Lib.hid ⟨fun k h h' => by omega, fun k h h' => by have := NK.out; omega⟩⟩
  case round =>
    obtain ⟨lo, hi, rfl, rfl, hlh, hin, hgg, HB, I⟩ := hrel
    by_cases hlt : lo < hi
    · have hm : (lo + hi) / 2 < l.length := by rw [N.out]; omega
      have hmk : (lo + hi) / 2 < ks.length := by rw [NK.out]; omega
      rcases HA.out with hA0 | ⟨g, o, rfl, hg, hcl⟩
      · rw [hA0] at hm; exact absurd hm (Nat.not_lt_zero _)
      obtain ⟨h0, h1⟩ := hcl ((lo + hi) / 2) hm
      have c0 := (HB.out.cell (p := ⟨g, o + (lo + hi) / 2 * 2, none⟩) hg).trans h0
      have c1 := (HB.out.cell (p := ⟨g, o + (lo + hi) / 2 * 2 + 1, none⟩) hg).trans h1
      clear h0 h1 hcl
      have HK := Go.Lib.hid (show ks[(lo + hi) / 2] = l[(lo + hi) / 2].1 by have := KS.out; subst this; exact List.getElem_map ..)
      generalize l[(lo + hi) / 2] = y at c0 c1 HK
      obtain ⟨ya, yb⟩ := y
      dsimp only at c0 c1 HK
      have hc := cloP_any ya yb p wr
      generalize hv : cmpI ya p = v at hc
      have V := Go.Lib.hid hv
      clear hv
      by_cases hyx : v < 0
      · go_wp2_with (go_at_call 100; refine hc.mono ?_; rintro e w' ⟨rfl, hb⟩)
        go_roundg (hi - ((lo + hi) / 2 + 1))
        case measure => omega
        case rel =>
          refine ⟨(lo + hi) / 2 + 1, hi, by rw [show ((lo : Int) + (hi : Int)) / 2 + 1 = (((lo + hi) / 2 + 1 : Nat) : Int) by omega], rfl, by omega, hin, Nat.le_refl _, Go.Lib.hid (HB.out.trans (hb.mono HB.out.size)), Go.Lib.hid ⟨fun k h h' => ?_, I.out.2⟩⟩
          have e1 := U.out k ((lo + hi) / 2) h hmk (by omega)
          have e2 := (cmpI_neg ya p).1 (by rw [V.out]; exact hyx)
          have e3 := HK.out
          omega
      · go_wp2_with (go_at_call 100; refine hc.mono ?_; rintro e w' ⟨rfl, hb⟩)
        go_roundg ((lo + hi) / 2 - lo)
        case measure => omega
        case rel =>
          refine ⟨lo, (lo + hi) / 2, rfl, by rw [show ((lo : Int) + (hi : Int)) / 2 = (((lo + hi) / 2 : Nat) : Int) by omega], by omega, by omega, Nat.le_refl _, Go.Lib.hid (HB.out.trans (hb.mono HB.out.size)), Go.Lib.hid ⟨I.out.1, fun k h h' => ?_⟩⟩
          have e1 := U.out ((lo + hi) / 2) k hmk h h'
          have e2 := (not_congr (cmpI_neg ya p)).1 (by rw [V.out]; omega)
          have e3 := HK.out
          omega
    · obtain rfl : lo = hi := by omega
      have PH : Hid (PartK ks p lo) := Go.Lib.hid ⟨by rw [NK.out]; exact hin, I.out.1, I.out.2⟩
      by_cases hn : lo < n
      · have hm : lo < l.length := by rw [N.out]; omega
        have hmk : lo < ks.length := by rw [NK.out]; omega
        rcases HA.out with hA0 | ⟨g, o, rfl, hg, hcl⟩
        · rw [hA0] at hm; exact absurd hm (Nat.not_lt_zero _)
        obtain ⟨h0, h1⟩ := hcl (lo) hm
        have c0 := (HB.out.cell (p := ⟨g, o + lo * 2, none⟩) hg).trans h0
        have c1 := (HB.out.cell (p := ⟨g, o + lo * 2 + 1, none⟩) hg).trans h1
        clear h0 h1 hcl
        have HK := Go.Lib.hid (show ks[lo] = l[lo].1 by have := KS.out; subst this; exact List.getElem_map ..)
        generalize l[lo] = y at c0 c1 HK
        obtain ⟨ya, yb⟩ := y
        dsimp only at c0 c1 HK
        have hc := cloP_any ya yb p wr
        have Z := Go.Lib.hid (cmpI_zero ya p)
        generalize hv : cmpI ya p = v at hc Z
        clear hv
        by_cases hyx : v = 0
        · go_wp2_with (go_at_call 100; refine hc.mono ?_; rintro e w' ⟨rfl, hb⟩)
          go_ret2
          refine ⟨lo, PH.out, (HB.out.trans (hb.mono HB.out.size)), ?_⟩
          rw [decide_eq_true (show ∃ h : lo < ks.length, ks[lo] = p from ⟨hmk, by rw [HK.out]; exact Z.out.1 hyx⟩)]
          simp
        · go_wp2_with (go_at_call 100; refine hc.mono ?_; rintro e w' ⟨rfl, hb⟩)
          go_ret2
          refine ⟨lo, PH.out, (HB.out.trans (hb.mono HB.out.size)), ?_⟩
          rw [decide_eq_false (show ¬ ∃ h : lo < ks.length, ks[lo] = p from fun ⟨_, h⟩ => hyx (Z.out.2 (by rw [HK.out] at h; exact h)))]
          simp [hyx]
      · go_wp2
        go_ret2
        refine ⟨lo, PH.out, HB.out, ?_⟩
        rw [decide_eq_false (show ¬ ∃ h : lo < ks.length, ks[lo] = p from fun ⟨h, _⟩ => by have := NK.out; omega)]
        simp
set_option maxRecDepth 100000 in
theorem cloD_any (a : Int) (b : Int) (p : Int) (w : World) :
    Calls Try.prog 94 #[.agg #[.int .i64 a, .int .i64 b], .int .i64 p] w fun e w' => e = .returned (.int .i64 (cmpI a p)) ∧ Below w.heap.size w w' := by
  go_enter Try.func94, Try.ntmps94
  go_wp2_with (go_at_call 80; refine (cmp_any _ _ _).mono ?_; rintro e w' ⟨rfl, rfl⟩)
  go_ret
  exact ⟨rfl, (Below.refl _ w).alloc (Nat.le_refl _) _⟩
set_option maxRecDepth 100000 in
set_option maxHeartbeats 8000000 in
theorem searchD_any (l : List Dl) (hup : UpK (l.map (·.rev))) (A : Option Addr) (c : Nat) (p : Int) (w : World) (hl : l.length ≤ 1000) (hA : AtD w A l) :
    Calls Try.prog 93 #[.slice A l.length c, .int .i64 p, .func (.func 94) #[] #[]] w (FoundK (l.map (·.rev)) p w) := by
  have U := Go.Lib.hid hup
  have HA := Go.Lib.hid hA
  clear hA
  clear hup
  obtain ⟨n, hn⟩ : ∃ n, l.length = n := ⟨_, rfl⟩
  have N := Go.Lib.hid hn
  have NK := Go.Lib.hid (show (l.map (·.rev)).length = n by rw [List.length_map]; exact hn)
  rw [hn] at hl ⊢
  clear hn
  generalize hks : l.map (·.rev) = ks at U NK ⊢
  have KS := Go.Lib.hid hks
  clear hks
  go_enter Try.func93, Try.ntmps93
  go_wp2
  go_loopg [9, 10] n (fun kx s9 s10 wr => ∃ lo hi : Nat, s9 = .int .i64 lo ∧ s10 = .int .i64 hi ∧ lo ≤ hi ∧ hi ≤ n ∧ hi - lo ≤ kx ∧ Hid (Below w.heap.size w wr) ∧
    Hid ((∀ k (h : k < ks.length), k < lo → ks[k] < p) ∧ (∀ k (h : k < ks.length), hi ≤ k → p ≤ ks[k])))
  case atStart => exact ⟨0, n, rfl, rfl, Nat.zero_le _, Nat.le_refl _, by omega, Go.Lib.hid (Below.refl _ _), Go.Lib.hid ⟨fun k h h' => by omega, fun k h h' => by have := NK.out; omega⟩⟩
  case round =>
    obtain ⟨lo, hi, rfl, rfl, hlh, hin, hgg, HB, I⟩ := hrel
    by_cases hlt : lo < hi
    · have hm : (lo + hi) / 2 < l.length := by rw [N.out]; omega
      have hmk : (lo + hi) / 2 < ks.length := by rw [NK.out]; omega
      rcases HA.out with hA0 | ⟨g, o, rfl, hg, hcl⟩
      · rw [hA0] at hm; exact absurd hm (Nat.not_lt_zero _)
      obtain ⟨h0, h1⟩ := hcl ((lo + hi) / 2) hm
      have c0 := (HB.out.cell (p := ⟨g, o + (lo + hi) / 2 * 2, none⟩) hg).trans h0
      have c1 := (HB.out.cell (p := ⟨g, o + (lo + hi) / 2 * 2 + 1, none⟩) hg).trans h1
      clear h0 h1 hcl
      have HK := Go.Lib.hid (show ks[(lo + hi) / 2] = l[(lo + hi) / 2].rev by have := KS.out; subst this; exact List.getElem_map ..)
      generalize l[(lo + hi) / 2] = y at c0 c1 HK
      obtain ⟨ya, yb⟩ := y
      dsimp only at c0 c1 HK
      have hc := cloD_any ya yb p wr
      generalize hv : cmpI ya p = v at hc
      have V := Go.Lib.hid hv
      clear hv
      by_cases hyx : v < 0
      · go_wp2_with (go_at_call 94; refine hc.mono ?_; rintro e w' ⟨rfl, hb⟩)
        go_roundg (hi - ((lo + hi) / 2 + 1))
        case measure => omega
        case rel =>
          refine ⟨(lo + hi) / 2 + 1, hi, by rw [show ((lo : Int) + (hi : Int)) / 2 + 1 = (((lo + hi) / 2 + 1 : Nat) : Int) by omega], rfl, by omega, hin, Nat.le_refl _, Go.Lib.hid (HB.out.trans (hb.mono HB.out.size)), Go.Lib.hid ⟨fun k h h' => ?_, I.out.2⟩⟩
          have e1 := U.out k ((lo + hi) / 2) h hmk (by omega)
          have e2 := (cmpI_neg ya p).1 (by rw [V.out]; exact hyx)
          have e3 := HK.out
          omega
      · go_wp2_with (go_at_call 94; refine hc.mono ?_; rintro e w' ⟨rfl, hb⟩)
        go_roundg ((lo + hi) / 2 - lo)
        case measure => omega
        case rel =>
          refine ⟨lo, (lo + hi) / 2, rfl, by rw [show ((lo : Int) + (hi : Int)) / 2 = (((lo + hi) / 2 : Nat) : Int) by omega], by omega, by omega, Nat.le_refl _, Go.Lib.hid (HB.out.trans (hb.mono HB.out.size)), Go.Lib.hid ⟨I.out.1, fun k h h' => ?_⟩⟩
          have e1 := U.out ((lo + hi) / 2) k hmk h h'
          have e2 := (not_congr (cmpI_neg ya p)).1 (by rw [V.out]; omega)
          have e3 := HK.out
          omega
    · obtain rfl : lo = hi := by omega
      have PH : Hid (PartK ks p lo) := Go.Lib.hid ⟨by rw [NK.out]; exact hin, I.out.1, I.out.2⟩
      by_cases hn : lo < n
      · have hm : lo < l.length := by rw [N.out]; omega
        have hmk : lo < ks.length := by rw [NK.out]; omega
        rcases HA.out with hA0 | ⟨g, o, rfl, hg, hcl⟩
        · rw [hA0] at hm; exact absurd hm (Nat.not_lt_zero _)
        obtain ⟨h0, h1⟩ := hcl (lo) hm
        have c0 := (HB.out.cell (p := ⟨g, o + lo * 2, none⟩) hg).trans h0
        have c1 := (HB.out.cell (p := ⟨g, o + lo * 2 + 1, none⟩) hg).trans h1
        clear h0 h1 hcl
        have HK := Go.Lib.hid (show ks[lo] = l[lo].rev by have := KS.out; subst this; exact List.getElem_map ..)
        generalize l[lo] = y at c0 c1 HK
        obtain ⟨ya, yb⟩ := y
        dsimp only at c0 c1 HK
        have hc := cloD_any ya yb p wr
        have Z := Go.Lib.hid (cmpI_zero ya p)
        generalize hv : cmpI ya p = v at hc Z
        clear hv
        by_cases hyx : v = 0
        · go_wp2_with (go_at_call 94; refine hc.mono ?_; rintro e w' ⟨rfl, hb⟩)
          go_ret2
          refine ⟨lo, PH.out, (HB.out.trans (hb.mono HB.out.size)), ?_⟩
          rw [decide_eq_true (show ∃ h : lo < ks.length, ks[lo] = p from ⟨hmk, by rw [HK.out]; exact Z.out.1 hyx⟩)]
          simp
        · go_wp2_with (go_at_call 94; refine hc.mono ?_; rintro e w' ⟨rfl, hb⟩)
          go_ret2
          refine ⟨lo, PH.out, (HB.out.trans (hb.mono HB.out.size)), ?_⟩
          rw [decide_eq_false (show ¬ ∃ h : lo < ks.length, ks[lo] = p from fun ⟨_, h⟩ => hyx (Z.out.2 (by rw [HK.out] at h; exact h)))]
          simp [hyx]
      · go_wp2
        go_ret2
        refine ⟨lo, PH.out, HB.out, ?_⟩
        rw [decide_eq_false (show ¬ ∃ h : lo < ks.length, ks[lo] = p from fun ⟨h, _⟩ => by have := NK.out; omega)]
        simp
set_option maxRecDepth 100000 in
theorem cloL_any (a : Int) (b : Int) (c : Int) (d : Bool) (p : Int) (w : World) :
    Calls Try.prog 102 #[.agg #[.int .i64 a, .int .i64 b, .int .i64 c, .bool d], .int .i64 p] w fun e w' => e = .returned (.int .i64 (cmpI b p)) ∧ Below w.heap.size w w' := by
  go_enter Try.func102, Try.ntmps102
  go_wp2_with (go_at_call 80; refine (cmp_any _ _ _).mono ?_; rintro e w' ⟨rfl, rfl⟩)
  go_ret
  exact ⟨rfl, (Below.refl _ w).alloc (Nat.le_refl _) _⟩
set_option maxRecDepth 100000 in
set_option maxHeartbeats 8000000 in
theorem searchL_any (l : List Ly) (hup : UpK (l.map (·.key))) (A : Option Addr) (c : Nat) (p : Int) (w : World) (hl : l.length ≤ 1000) (hA : AtL w A l) :
    Calls Try.prog 101 #[.slice A l.length c, .int .i64 p, .func (.func 102) #[] #[]] w (FoundK (l.map (·.key)) p w) := by
  have U := Go.Lib.hid hup
  have HA := Go.Lib.hid hA
  clear hA
  clear hup
  obtain ⟨n, hn⟩ : ∃ n, l.length = n := ⟨_, rfl⟩
  have N := Go.Lib.hid hn
  have NK := Go.Lib.hid (show (l.map (·.key)).length = n by rw [List.length_map]; exact hn)
  rw [hn] at hl ⊢
  clear hn
  generalize hks : l.map (·.key) = ks at U NK ⊢
  have KS := Go.Lib.hid hks
  clear hks
  go_enter Try.func101, Try.ntmps101
  go_wp2
  go_loopg [9, 10] n (fun kx s9 s10 wr => ∃ lo hi : Nat, s9 = .int .i64 lo ∧ s10 = .int .i64 hi ∧ lo ≤ hi ∧ hi ≤ n ∧ hi - lo ≤ kx ∧ Hid (Below w.heap.size w wr) ∧
    Hid ((∀ k (h : k < ks.length), k < lo → ks[k] < p) ∧ (∀ k (h : k < ks.length), hi ≤ k → p ≤ ks[k])))
  case atStart => exact ⟨0, n, rfl, rfl, Nat.zero_le _, Nat.le_refl _, by omega, Go.Lib.hid (Below.refl _ _), Go.Lib.hid ⟨fun k h h' => by omega, fun k h h' => by have := NK.out; omega⟩⟩
  case round =>
    obtain ⟨lo, hi, rfl, rfl, hlh, hin, hgg, HB, I⟩ := hrel
    by_cases hlt : lo < hi
    · have hm : (lo + hi) / 2 < l.length := by rw [N.out]; omega
      have hmk : (lo + hi) / 2 < ks.length := by rw [NK.out]; omega
      rcases HA.out with hA0 | ⟨g, o, rfl, hg, hcl⟩
      · rw [hA0] at hm; exact absurd hm (Nat.not_lt_zero _)
      obtain ⟨h0, h1, h2, h3⟩ := hcl ((lo + hi) / 2) hm
      have c0 := (HB.out.cell (p := ⟨g, o + (lo + hi) / 2 * 4, none⟩) hg).trans h0
      have c1 := (HB.out.cell (p := ⟨g, o + (lo + hi) / 2 * 4 + 1, none⟩) hg).trans h1
      have c2 := (HB.out.cell (p := ⟨g, o + (lo + hi) / 2 * 4 + 2, none⟩) hg).trans h2
      have c3 := (HB.out.cell (p := ⟨g, o + (lo + hi) / 2 * 4 + 3, none⟩) hg).trans h3
      clear h0 h1 h2 h3 hcl
      have HK := Go.Lib.hid (show ks[(lo + hi) / 2] = l[(lo + hi) / 2].key by have := KS.out; subst this; exact List.getElem_map ..)
      generalize l[(lo + hi) / 2] = y at c0 c1 c2 c3 HK
      obtain ⟨ya, yb, yc, yd⟩ := y
      dsimp only at c0 c1 c2 c3 HK
      have hc := cloL_any ya yb yc yd p wr
      generalize hv : cmpI yb p = v at hc
      have V := Go.Lib.hid hv
      clear hv
      by_cases hyx : v < 0
      · go_wp2_with (go_at_call 102; refine hc.mono ?_; rintro e w' ⟨rfl, hb⟩)
        go_roundg (hi - ((lo + hi) / 2 + 1))
        case measure => omega
        case rel =>
          refine ⟨(lo + hi) / 2 + 1, hi, by rw [show ((lo : Int) + (hi : Int)) / 2 + 1 = (((lo + hi) / 2 + 1 : Nat) : Int) by omega], rfl, by omega, hin, Nat.le_refl _, Go.Lib.hid (HB.out.trans (hb.mono HB.out.size)), Go.Lib.hid ⟨fun k h h' => ?_, I.out.2⟩⟩
          have e1 := U.out k ((lo + hi) / 2) h hmk (by omega)
          have e2 := (cmpI_neg yb p).1 (by rw [V.out]; exact hyx)
          have e3 := HK.out
          omega
      · go_wp2_with (go_at_call 102; refine hc.mono ?_; rintro e w' ⟨rfl, hb⟩)
        go_roundg ((lo + hi) / 2 - lo)
        case measure => omega
        case rel =>
          refine ⟨lo, (lo + hi) / 2, rfl, by rw [show ((lo : Int) + (hi : Int)) / 2 = (((lo + hi) / 2 : Nat) : Int) by omega], by omega, by omega, Nat.le_refl _, Go.Lib.hid (HB.out.trans (hb.mono HB.out.size)), Go.Lib.hid ⟨I.out.1, fun k h h' => ?_⟩⟩
          have e1 := U.out ((lo + hi) / 2) k hmk h h'
          have e2 := (not_congr (cmpI_neg yb p)).1 (by rw [V.out]; omega)
          have e3 := HK.out
          omega
    · obtain rfl : lo = hi := by omega
      have PH : Hid (PartK ks p lo) := Go.Lib.hid ⟨by rw [NK.out]; exact hin, I.out.1, I.out.2⟩
      by_cases hn : lo < n
      · have hm : lo < l.length := by rw [N.out]; omega
        have hmk : lo < ks.length := by rw [NK.out]; omega
        rcases HA.out with hA0 | ⟨g, o, rfl, hg, hcl⟩
        · rw [hA0] at hm; exact absurd hm (Nat.not_lt_zero _)
        obtain ⟨h0, h1, h2, h3⟩ := hcl (lo) hm
        have c0 := (HB.out.cell (p := ⟨g, o + lo * 4, none⟩) hg).trans h0
        have c1 := (HB.out.cell (p := ⟨g, o + lo * 4 + 1, none⟩) hg).trans h1
        have c2 := (HB.out.cell (p := ⟨g, o + lo * 4 + 2, none⟩) hg).trans h2
        have c3 := (HB.out.cell (p := ⟨g, o + lo * 4 + 3, none⟩) hg).trans h3
        clear h0 h1 h2 h3 hcl
        have HK := Go.Lib.hid (show ks[lo] = l[lo].key by have := KS.out; subst this; exact List.getElem_map ..)
        generalize l[lo] = y at c0 c1 c2 c3 HK
        obtain ⟨ya, yb, yc, yd⟩ := y
        dsimp only at c0 c1 c2 c3 HK
        have hc := cloL_any ya yb yc yd p wr
        have Z := Go.Lib.hid (cmpI_zero yb p)
        generalize hv : cmpI yb p = v at hc Z
        clear hv
        by_cases hyx : v = 0
        · go_wp2_with (go_at_call 102; refine hc.mono ?_; rintro e w' ⟨rfl, hb⟩)
          go_ret2
          refine ⟨lo, PH.out, (HB.out.trans (hb.mono HB.out.size)), ?_⟩
          rw [decide_eq_true (show ∃ h : lo < ks.length, ks[lo] = p from ⟨hmk, by rw [HK.out]; exact Z.out.1 hyx⟩)]
          simp
        · go_wp2_with (go_at_call 102; refine hc.mono ?_; rintro e w' ⟨rfl, hb⟩)
          go_ret2
          refine ⟨lo, PH.out, (HB.out.trans (hb.mono HB.out.size)), ?_⟩
          rw [decide_eq_false (show ¬ ∃ h : lo < ks.length, ks[lo] = p from fun ⟨_, h⟩ => hyx (Z.out.2 (by rw [HK.out] at h; exact h)))]
          simp [hyx]
      · go_wp2
        go_ret2
        refine ⟨lo, PH.out, HB.out, ?_⟩
        rw [decide_eq_false (show ¬ ∃ h : lo < ks.length, ks[lo] = p from fun ⟨h, _⟩ => by have := NK.out; omega)]
        simp
end Go.Proofs.Ytjhppkjngifibaa
