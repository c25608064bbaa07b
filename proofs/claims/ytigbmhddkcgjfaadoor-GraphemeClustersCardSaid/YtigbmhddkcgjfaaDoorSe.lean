import Derived.Test.YtigbmhddkcgjfaaDoorT7
import Derived.Deep.LoopGhost
namespace Go.Proofs.YtigbmhddkcgjfaaDoor
open Go.RowKit
open Gc

/-- What a search in a table that is in order says. -/
def Parted (l : List Span) (p : Int) (i : Nat) : Prop := i ≤ l.length ∧ (∀ k (h : k < l.length), k < i → l[k].2.1 < p) ∧ (∀ k (h : k < l.length), i ≤ k → p ≤ l[k].2.1)
def Found (l : List Span) (p : Int) (w : World) (e : Ending) (w' : World) : Prop :=
  ∃ i : Nat, Parted l p i ∧ Below w.heap.size w w' ∧ e = .returned (.tuple #[.int .i64 (i : Nat), .bool (decide (∃ h : i < l.length, l[i].1 ≤ p))])

theorem cmpOf_neg (s : Span) (p : Int) : cmpOf s p < 0 ↔ s.2.1 < p := by
  unfold cmpOf
  split
  · simp_all
  · split <;> simp_all <;> omega
theorem cmpOf_zero (s : Span) (p : Int) (h : p ≤ s.2.1) : cmpOf s p = 0 ↔ s.1 ≤ p := by
  unfold cmpOf
  rw [if_neg (by omega)]
  split <;> simp_all <;> omega

theorem up_le (l : List Span) (hl : up l = true) (i j : Nat) (hi : i ≤ j) (hj : j < l.length) : (l[i]'(by omega)).2.1 ≤ l[j].2.1 := by
  rcases Nat.lt_or_eq_of_le hi with h | h
  · have h1 := up_lt l hl i j h hj
    have h2 : ∀ (l : List Span), up l = true → ∀ k (h : k < l.length), l[k].1 ≤ l[k].2.1 := by
      intro l
      induction l with
      | nil => intro _ k h; simp at h
      | cons s l ih =>
        intro hl k h
        simp only [up, Bool.and_eq_true, decide_eq_true_eq] at hl
        cases k with
        | zero => exact hl.1.1
        | succ k => exact ih hl.2 k (by simpa using h)
    have := h2 l hl j hj
    omega
  · subst h; exact Int.le_refl _

set_option maxRecDepth 100000 in
set_option maxHeartbeats 2000000 in
theorem search_any (l : List Span) (hup : up l = true) (g : Nat) (p : Int) (w : World) (hl : l.length ≤ 1000) (hg : g < w.heap.size) (hR : Row w g l) :
    Calls Tryd.prog 44 #[.slice (some ⟨g, 0, none⟩) l.length l.length, .int .i64 p, .func (.func 45) #[] #[]] w (Found l p w) := by
  have U := Go.Lib.hid hup
  clear hup
  obtain ⟨n, hn⟩ : ∃ n, l.length = n := ⟨_, rfl⟩
  have N := Go.Lib.hid hn
  rw [hn] at hl ⊢
  clear hn
  go_enter Tryd.func44, Tryd.ntmps44
  go_wp2
  go_loopg [9, 10] n (fun kx s9 s10 wr => ∃ lo hi : Nat, s9 = .int .i64 lo ∧ s10 = .int .i64 hi ∧ lo ≤ hi ∧ hi ≤ n ∧ hi - lo ≤ kx ∧ Hid (Below w.heap.size w wr) ∧
    Hid ((∀ k (h : k < l.length), k < lo → l[k].2.1 < p) ∧ (∀ k (h : k < l.length), hi ≤ k → p ≤ l[k].2.1)))
  case atStart => exact ⟨0, n, rfl, rfl, Nat.zero_le _, Nat.le_refl _, by omega, Go.Lib.hid (Below.refl _ _), Go.Lib.hid ⟨fun k h h' => by omega, fun k h h' => by have := N.out; omega⟩⟩
  case round =>
    obtain ⟨lo, hi, rfl, rfl, hlh, hin, hgg, HB, I⟩ := hrel
    by_cases hlt : lo < hi
    · have hm : (lo + hi) / 2 < l.length := by rw [N.out]; omega
      obtain ⟨h1, h2, h3⟩ := hR.2 ((lo + hi) / 2) hm
      have c1 := (HB.out.cell (p := ⟨g, (lo + hi) / 2 * 3, none⟩) hg).trans h1
      have c2 := (HB.out.cell (p := ⟨g, (lo + hi) / 2 * 3 + 1, none⟩) hg).trans h2
      have c3 := (HB.out.cell (p := ⟨g, (lo + hi) / 2 * 3 + 2, none⟩) hg).trans h3
      clear h1 h2 h3
      generalize hy : l[(lo + hi) / 2] = y at c1 c2 c3
      have Y := Go.Lib.hid hy
      clear hy
      obtain ⟨ya, yb, yc⟩ := y
      dsimp only at c1 c2 c3
      have hc := compare_any (ya, yb, yc) p wr
      generalize hv : cmpOf (ya, yb, yc) p = v at hc
      have V := Go.Lib.hid hv
      clear hv
      unfold spanV at hc
      dsimp only at hc
      by_cases hyx : v < 0
      · go_wp2_with (go_at_call 45; refine hc.mono ?_; rintro e w' ⟨rfl, hb⟩)
        go_roundg (hi - ((lo + hi) / 2 + 1))
        case measure => omega
        case rel =>
          refine ⟨(lo + hi) / 2 + 1, hi, by rw [show ((lo : Int) + (hi : Int)) / 2 + 1 = (((lo + hi) / 2 + 1 : Nat) : Int) by omega], rfl, by omega, hin, Nat.le_refl _, Go.Lib.hid (HB.out.trans (hb.mono HB.out.size)), Go.Lib.hid ⟨fun k h h' => ?_, I.out.2⟩⟩
          have e1 := up_le l U.out k ((lo + hi) / 2) (by omega) hm
          have e2 := (cmpOf_neg (ya, yb, yc) p).1 (by rw [V.out]; exact hyx)
          rw [Y.out] at e1
          dsimp only at e1 e2
          omega
      · go_wp2_with (go_at_call 45; refine hc.mono ?_; rintro e w' ⟨rfl, hb⟩)
        go_roundg ((lo + hi) / 2 - lo)
        case measure => omega
        case rel =>
          refine ⟨lo, (lo + hi) / 2, rfl, by rw [show ((lo : Int) + (hi : Int)) / 2 = (((lo + hi) / 2 : Nat) : Int) by omega], by omega, by omega, Nat.le_refl _, Go.Lib.hid (HB.out.trans (hb.mono HB.out.size)), Go.Lib.hid ⟨I.out.1, fun k h h' => ?_⟩⟩
          have e1 := up_le l U.out ((lo + hi) / 2) k h' h
          have e2 := (not_congr (cmpOf_neg (ya, yb, yc) p)).1 (by rw [V.out]; omega)
          rw [Y.out] at e1
          dsimp only at e1 e2
          omega
    · obtain rfl : lo = hi := by omega
      have PT : Parted l p lo := ⟨by rw [N.out]; exact hin, I.out.1, I.out.2⟩
      have PH := Go.Lib.hid PT
      clear PT
      by_cases hn : lo < n
      · have hm : lo < l.length := by rw [N.out]; omega
        obtain ⟨h1, h2, h3⟩ := hR.2 lo hm
        have c1 := (HB.out.cell (p := ⟨g, lo * 3, none⟩) hg).trans h1
        have c2 := (HB.out.cell (p := ⟨g, lo * 3 + 1, none⟩) hg).trans h2
        have c3 := (HB.out.cell (p := ⟨g, lo * 3 + 2, none⟩) hg).trans h3
        clear h1 h2 h3
        have hle := PH.out.2.2 lo hm (Nat.le_refl _)
        have LE := Go.Lib.hid hle
        clear hle
        generalize hy : l[lo] = y at c1 c2 c3 LE
        have Y := Go.Lib.hid hy
        clear hy
        obtain ⟨ya, yb, yc⟩ := y
        dsimp only at c1 c2 c3
        have hc := compare_any (ya, yb, yc) p wr
        have Z := Go.Lib.hid (cmpOf_zero (ya, yb, yc) p LE.out)
        generalize hv : cmpOf (ya, yb, yc) p = v at hc Z
        clear hv
        unfold spanV at hc
        dsimp only at hc
        by_cases hyx : v = 0
        · go_wp2_with (go_at_call 45; refine hc.mono ?_; rintro e w' ⟨rfl, hb⟩)
          go_ret2
          refine ⟨lo, PH.out, HB.out.trans (hb.mono HB.out.size), ?_⟩
          rw [decide_eq_true (show ∃ h : lo < l.length, l[lo].1 ≤ p from ⟨hm, by rw [Y.out]; exact Z.out.1 hyx⟩)]
          simp
        · go_wp2_with (go_at_call 45; refine hc.mono ?_; rintro e w' ⟨rfl, hb⟩)
          go_ret2
          refine ⟨lo, PH.out, HB.out.trans (hb.mono HB.out.size), ?_⟩
          rw [decide_eq_false (show ¬ ∃ h : lo < l.length, l[lo].1 ≤ p from fun ⟨_, h⟩ => hyx (Z.out.2 (by rw [Y.out] at h; exact h)))]
          simp [hyx]
      · go_wp2
        go_ret2
        refine ⟨lo, PH.out, HB.out, ?_⟩
        rw [decide_eq_false (show ¬ ∃ h : lo < l.length, l[lo].1 ≤ p from fun ⟨h, _⟩ => by have := N.out; omega)]
        simp
end Go.Proofs.YtigbmhddkcgjfaaDoor
