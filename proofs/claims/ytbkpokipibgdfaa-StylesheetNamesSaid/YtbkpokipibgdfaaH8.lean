/- Layer 7: the search over properties. -/
import Derived.Test.YtbkpokipibgdfaaH6
import Derived.Test.YtbkpokipibgdfaaH2
namespace Go.Proofs.Ytbkpokipibgdfaa
open Go.RowKit Go.Lib

def SortP (l : List Pr) : Prop := ∀ i j (hi : i < l.length) (hj : j < l.length), i < j → l[i].1 < l[j].1
theorem SortP.le {l : List Pr} (h : SortP l) (i j : Nat) (hi : i < l.length) (hj : j < l.length) (hij : i ≤ j) : l[i].1 ≤ l[j].1 := by
  rcases Nat.lt_or_eq_of_le hij with h1 | h1
  · exact Int.le_of_lt (h i j hi hj h1)
  · subst h1; exact Int.le_refl _
def PartP (l : List Pr) (p : Int) (i : Nat) : Prop := i ≤ l.length ∧ (∀ k (h : k < l.length), k < i → l[k].1 < p) ∧ (∀ k (h : k < l.length), i ≤ k → p ≤ l[k].1)
def FoundP (l : List Pr) (p : Int) (w : World) (e : Ending) (w' : World) : Prop := ∃ i : Nat, PartP l p i ∧ Below w.heap.size w w' ∧ e = .returned (.tuple #[.int .i64 i, .bool (decide (∃ h : i < l.length, l[i].1 = p))])

set_option maxRecDepth 100000 in
theorem pcmp_any (k v p : Int) (w : World) :
    Calls Try.prog 104 #[.agg #[.int .i64 k, .int .i64 v], .int .i64 p] w fun e w' => e = .returned (.int .i64 (cmpI k p)) ∧ Below w.heap.size w w' := by
  go_enter Try.func104, Try.ntmps104
  go_wp2_with (go_at_call 98; refine (cmp_any _ _ _).mono ?_; rintro e w' ⟨rfl, rfl⟩)
  go_ret
  exact ⟨rfl, (Below.refl _ w).alloc (Nat.le_refl _) _⟩

set_option maxRecDepth 100000 in
set_option maxHeartbeats 4000000 in
theorem psearch_any (l : List Pr) (hup : SortP l) (A : Option Addr) (c : Nat) (p : Int) (w : World) (hl : l.length ≤ 1000) (hA : PrAt w A l) :
    Calls Try.prog 103 #[.slice A l.length c, .int .i64 p, .func (.func 104) #[] #[]] w (FoundP l p w) := by
  have U := Go.Lib.hid hup
  have HA := Go.Lib.hid hA
  clear hA
  clear hup
  obtain ⟨n, hn⟩ : ∃ n, l.length = n := ⟨_, rfl⟩
  have N := Go.Lib.hid hn
  rw [hn] at hl ⊢
  clear hn
  go_enter Try.func103, Try.ntmps103
  go_wp2
  go_loopg [9, 10] n (fun kx s9 s10 wr => ∃ lo hi : Nat, s9 = .int .i64 lo ∧ s10 = .int .i64 hi ∧ lo ≤ hi ∧ hi ≤ n ∧ hi - lo ≤ kx ∧ Hid (Below w.heap.size w wr) ∧
    Hid ((∀ k (h : k < l.length), k < lo → l[k].1 < p) ∧ (∀ k (h : k < l.length), hi ≤ k → p ≤ l[k].1)))
  case atStart => exact ⟨0, n, rfl, rfl, Nat.zero_le _, Nat.le_refl _, by omega, Go.Lib.hid (Below.refl _ _), Go.Lib.hid ⟨fun k h h' => by omega, fun k h h' => by have := N.out; omega⟩⟩
  case round =>
    obtain ⟨lo, hi, rfl, rfl, hlh, hin, hgg, HB, I⟩ := hrel
    by_cases hlt : lo < hi
    · have hm : (lo + hi) / 2 < l.length := by rw [N.out]; omega
      rcases HA.out with hA0 | ⟨g, o, rfl, hg, hcl⟩
      · rw [hA0] at hm; exact absurd hm (Nat.not_lt_zero _)
      obtain ⟨h0, h1⟩ := hcl ((lo + hi) / 2) hm
      have c0 := (HB.out.cell (p := ⟨g, o + (lo + hi) / 2 * 2, none⟩) hg).trans h0
      have c1 := (HB.out.cell (p := ⟨g, o + (lo + hi) / 2 * 2 + 1, none⟩) hg).trans h1
      clear h0 h1 hcl
      generalize hy : l[(lo + hi) / 2] = y at c0 c1
      have Y := Go.Lib.hid hy
      clear hy
      obtain ⟨ya, yb⟩ := y
      dsimp only at c0 c1
      have hc := pcmp_any ya yb p wr
      generalize hv : cmpI ya p = v at hc
      have V := Go.Lib.hid hv
      clear hv
      by_cases hyx : v < 0
      · go_wp2_with (go_at_call 104; refine hc.mono ?_; rintro e w' ⟨rfl, hb⟩)
        go_roundg (hi - ((lo + hi) / 2 + 1))
        case measure => omega
        case rel =>
          refine ⟨(lo + hi) / 2 + 1, hi, by rw [show ((lo : Int) + (hi : Int)) / 2 + 1 = (((lo + hi) / 2 + 1 : Nat) : Int) by omega], rfl, by omega, hin, Nat.le_refl _, Go.Lib.hid (HB.out.trans (hb.mono HB.out.size)), Go.Lib.hid ⟨fun k h h' => ?_, I.out.2⟩⟩
          have e1 := U.out.le k ((lo + hi) / 2) h hm (by omega)
          have e2 := (cmpI_neg ya p).1 (by rw [V.out]; exact hyx)
          rw [Y.out] at e1
          dsimp only at e1 e2
          omega
      · go_wp2_with (go_at_call 104; refine hc.mono ?_; rintro e w' ⟨rfl, hb⟩)
        go_roundg ((lo + hi) / 2 - lo)
        case measure => omega
        case rel =>
          refine ⟨lo, (lo + hi) / 2, rfl, by rw [show ((lo : Int) + (hi : Int)) / 2 = (((lo + hi) / 2 : Nat) : Int) by omega], by omega, by omega, Nat.le_refl _, Go.Lib.hid (HB.out.trans (hb.mono HB.out.size)), Go.Lib.hid ⟨I.out.1, fun k h h' => ?_⟩⟩
          have e1 := U.out.le ((lo + hi) / 2) k hm h h'
          have e2 := (not_congr (cmpI_neg ya p)).1 (by rw [V.out]; omega)
          rw [Y.out] at e1
          dsimp only at e1 e2
          omega
    · obtain rfl : lo = hi := by omega
      have PH : Hid (PartP l p lo) := Go.Lib.hid ⟨by rw [N.out]; exact hin, I.out.1, I.out.2⟩
      by_cases hn : lo < n
      · have hm : lo < l.length := by rw [N.out]; omega
        rcases HA.out with hA0 | ⟨g, o, rfl, hg, hcl⟩
        · rw [hA0] at hm; exact absurd hm (Nat.not_lt_zero _)
        obtain ⟨h0, h1⟩ := hcl lo hm
        have c0 := (HB.out.cell (p := ⟨g, o + lo * 2, none⟩) hg).trans h0
        have c1 := (HB.out.cell (p := ⟨g, o + lo * 2 + 1, none⟩) hg).trans h1
        clear h0 h1 hcl
        generalize hy : l[lo] = y at c0 c1
        have Y := Go.Lib.hid hy
        clear hy
        obtain ⟨ya, yb⟩ := y
        dsimp only at c0 c1
        have hc := pcmp_any ya yb p wr
        have Z := Go.Lib.hid (cmpI_zero ya p)
        generalize hv : cmpI ya p = v at hc Z
        clear hv
        by_cases hyx : v = 0
        · go_wp2_with (go_at_call 104; refine hc.mono ?_; rintro e w' ⟨rfl, hb⟩)
          go_ret2
          refine ⟨lo, PH.out, HB.out.trans (hb.mono HB.out.size), ?_⟩
          rw [decide_eq_true (show ∃ h : lo < l.length, l[lo].1 = p from ⟨hm, by rw [Y.out]; exact Z.out.1 hyx⟩)]
          simp
        · go_wp2_with (go_at_call 104; refine hc.mono ?_; rintro e w' ⟨rfl, hb⟩)
          go_ret2
          refine ⟨lo, PH.out, HB.out.trans (hb.mono HB.out.size), ?_⟩
          rw [decide_eq_false (show ¬ ∃ h : lo < l.length, l[lo].1 = p from fun ⟨_, h⟩ => hyx (Z.out.2 (by rw [Y.out] at h; exact h)))]
          simp [hyx]
      · go_wp2
        go_ret2
        refine ⟨lo, PH.out, HB.out, ?_⟩
        rw [decide_eq_false (show ¬ ∃ h : lo < l.length, l[lo].1 = p from fun ⟨h, _⟩ => by have := N.out; omega)]
        simp
end Go.Proofs.Ytbkpokipibgdfaa
