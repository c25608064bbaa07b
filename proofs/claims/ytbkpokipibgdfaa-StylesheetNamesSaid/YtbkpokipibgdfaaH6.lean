/- Layer 7: the search over the rows of the table. -/
import Derived.Test.YtbkpokipibgdfaaH4
namespace Go.Proofs.Ytbkpokipibgdfaa
open Go.RowKit Go.Lib

theorem cmpI_neg (x y : Int) : cmpI x y < 0 ↔ x < y := by
  unfold cmpI
  split
  · omega
  · split <;> omega
theorem cmpI_zero (x y : Int) : cmpI x y = 0 ↔ x = y := by
  unfold cmpI
  split
  · omega
  · split <;> omega
/-- Rows in memory. -/
def RowAt (w : World) (g : Nat) (l : List Row) : Prop := g < w.heap.size ∧ ∀ k (h : k < l.length),
  w.cell? ⟨g, k * 6, none⟩ = some (.int .i64 l[k].1) ∧ w.cell? ⟨g, k * 6 + 1, none⟩ = some (.string l[k].2.1) ∧ w.cell? ⟨g, k * 6 + 2, none⟩ = some (.int .i64 l[k].2.2.1) ∧
  w.cell? ⟨g, k * 6 + 3, none⟩ = some (.int .i64 l[k].2.2.2.1) ∧ w.cell? ⟨g, k * 6 + 4, none⟩ = some (.int .i64 l[k].2.2.2.2.1) ∧ w.cell? ⟨g, k * 6 + 5, none⟩ = some (.int .i64 l[k].2.2.2.2.2)
def SortR (l : List Row) : Prop := ∀ i j (hi : i < l.length) (hj : j < l.length), i < j → l[i].1 < l[j].1
theorem SortR.le {l : List Row} (h : SortR l) (i j : Nat) (hi : i < l.length) (hj : j < l.length) (hij : i ≤ j) : l[i].1 ≤ l[j].1 := by
  rcases Nat.lt_or_eq_of_le hij with h1 | h1
  · exact Int.le_of_lt (h i j hi hj h1)
  · subst h1; exact Int.le_refl _
def PartR (l : List Row) (p : Int) (i : Nat) : Prop := i ≤ l.length ∧ (∀ k (h : k < l.length), k < i → l[k].1 < p) ∧ (∀ k (h : k < l.length), i ≤ k → p ≤ l[k].1)
def FoundR (l : List Row) (p : Int) (w : World) (e : Ending) (w' : World) : Prop := ∃ i : Nat, PartR l p i ∧ Below w.heap.size w w' ∧ e = .returned (.tuple #[.int .i64 i, .bool (decide (∃ h : i < l.length, l[i].1 = p))])

set_option maxRecDepth 100000 in
theorem rcmp_any (k : Int) (nm : ByteArray) (g lo hi d p : Int) (w : World) :
    Calls Try.prog 97 #[.agg #[.int .i64 k, .string nm, .int .i64 g, .int .i64 lo, .int .i64 hi, .int .i64 d], .int .i64 p] w fun e w' => e = .returned (.int .i64 (cmpI k p)) ∧ Below w.heap.size w w' := by
  go_enter Try.func97, Try.ntmps97
  go_wp2_with (go_at_call 98; refine (cmp_any _ _ _).mono ?_; rintro e w' ⟨rfl, rfl⟩)
  go_ret
  exact ⟨rfl, (Below.refl _ w).alloc (Nat.le_refl _) _⟩

set_option maxRecDepth 100000 in
set_option maxHeartbeats 4000000 in
theorem rsearch_any (l : List Row) (hup : SortR l) (g : Nat) (p : Int) (w : World) (hl : l.length ≤ 1000) (hR : RowAt w g l) :
    Calls Try.prog 96 #[.slice (some ⟨g, 0, none⟩) l.length l.length, .int .i64 p, .func (.func 97) #[] #[]] w (FoundR l p w) := by
  have U := Go.Lib.hid hup
  have hg := hR.1
  clear hup
  obtain ⟨n, hn⟩ : ∃ n, l.length = n := ⟨_, rfl⟩
  have N := Go.Lib.hid hn
  rw [hn] at hl ⊢
  clear hn
  go_enter Try.func96, Try.ntmps96
  go_wp2
  go_loopg [9, 10] n (fun kx s9 s10 wr => ∃ lo hi : Nat, s9 = .int .i64 lo ∧ s10 = .int .i64 hi ∧ lo ≤ hi ∧ hi ≤ n ∧ hi - lo ≤ kx ∧ Hid (Below w.heap.size w wr) ∧
    Hid ((∀ k (h : k < l.length), k < lo → l[k].1 < p) ∧ (∀ k (h : k < l.length), hi ≤ k → p ≤ l[k].1)))
  case atStart => exact ⟨0, n, rfl, rfl, Nat.zero_le _, Nat.le_refl _, by omega, Go.Lib.hid (Below.refl _ _), Go.Lib.hid ⟨fun k h h' => by omega, fun k h h' => by have := N.out; omega⟩⟩
  case round =>
    obtain ⟨lo, hi, rfl, rfl, hlh, hin, hgg, HB, I⟩ := hrel
    by_cases hlt : lo < hi
    · have hm : (lo + hi) / 2 < l.length := by rw [N.out]; omega
      obtain ⟨h0, h1, h2, h3, h4, h5⟩ := hR.2 ((lo + hi) / 2) hm
      have c0 := (HB.out.cell (p := ⟨g, (lo + hi) / 2 * 6, none⟩) hg).trans h0
      have c1 := (HB.out.cell (p := ⟨g, (lo + hi) / 2 * 6 + 1, none⟩) hg).trans h1
      have c2 := (HB.out.cell (p := ⟨g, (lo + hi) / 2 * 6 + 2, none⟩) hg).trans h2
      have c3 := (HB.out.cell (p := ⟨g, (lo + hi) / 2 * 6 + 3, none⟩) hg).trans h3
      have c4 := (HB.out.cell (p := ⟨g, (lo + hi) / 2 * 6 + 4, none⟩) hg).trans h4
      have c5 := (HB.out.cell (p := ⟨g, (lo + hi) / 2 * 6 + 5, none⟩) hg).trans h5
      clear h0 h1 h2 h3 h4 h5
      generalize hy : l[(lo + hi) / 2] = y at c0 c1 c2 c3 c4 c5
      have Y := Go.Lib.hid hy
      clear hy
      obtain ⟨ya, yb, yc, yd, ye, yf⟩ := y
      dsimp only at c0 c1 c2 c3 c4 c5
      have hc := rcmp_any ya yb yc yd ye yf p wr
      generalize hv : cmpI ya p = v at hc
      have V := Go.Lib.hid hv
      clear hv
      by_cases hyx : v < 0
      · go_wp2_with (go_at_call 97; refine hc.mono ?_; rintro e w' ⟨rfl, hb⟩)
        go_roundg (hi - ((lo + hi) / 2 + 1))
        case measure => omega
        case rel =>
          refine ⟨(lo + hi) / 2 + 1, hi, by rw [show ((lo : Int) + (hi : Int)) / 2 + 1 = (((lo + hi) / 2 + 1 : Nat) : Int) by omega], rfl, by omega, hin, Nat.le_refl _, Go.Lib.hid (HB.out.trans (hb.mono HB.out.size)), Go.Lib.hid ⟨fun k h h' => ?_, I.out.2⟩⟩
          have e1 := U.out.le k ((lo + hi) / 2) h hm (by omega)
          have e2 := (cmpI_neg ya p).1 (by rw [V.out]; exact hyx)
          rw [Y.out] at e1
          dsimp only at e1 e2
          omega
      · go_wp2_with (go_at_call 97; refine hc.mono ?_; rintro e w' ⟨rfl, hb⟩)
        go_roundg ((lo + hi) / 2 - lo)
        case measure => omega
        case rel =>
          refine ⟨lo, (lo + hi) / 2, rfl, by rw [show ((lo : Int) + (hi : Int)) / 2 = (((lo + hi) / 2 : Nat) : Int) by omega], by omega, by omega, Nat.le_refl _, Go.Lib.hid (HB.out.trans (hb.mono HB.out.size)), Go.Lib.hid ⟨I.out.1, fun k h h' => ?_⟩⟩
          have e1 := U.out.le ((lo + hi) / 2) k hm h h'
          have e2 := (not_congr (cmpI_neg ya p)).1 (by rw [V.out]; omega)
          rw [Y.out] at e1
          dsimp only at e1 e2
          omega
    · obtain rfl : lo = hi := by omega
      have PH : Hid (PartR l p lo) := Go.Lib.hid ⟨by rw [N.out]; exact hin, I.out.1, I.out.2⟩
      by_cases hn : lo < n
      · have hm : lo < l.length := by rw [N.out]; omega
        obtain ⟨h0, h1, h2, h3, h4, h5⟩ := hR.2 lo hm
        have c0 := (HB.out.cell (p := ⟨g, lo * 6, none⟩) hg).trans h0
        have c1 := (HB.out.cell (p := ⟨g, lo * 6 + 1, none⟩) hg).trans h1
        have c2 := (HB.out.cell (p := ⟨g, lo * 6 + 2, none⟩) hg).trans h2
        have c3 := (HB.out.cell (p := ⟨g, lo * 6 + 3, none⟩) hg).trans h3
        have c4 := (HB.out.cell (p := ⟨g, lo * 6 + 4, none⟩) hg).trans h4
        have c5 := (HB.out.cell (p := ⟨g, lo * 6 + 5, none⟩) hg).trans h5
        clear h0 h1 h2 h3 h4 h5
        generalize hy : l[lo] = y at c0 c1 c2 c3 c4 c5
        have Y := Go.Lib.hid hy
        clear hy
        obtain ⟨ya, yb, yc, yd, ye, yf⟩ := y
        dsimp only at c0 c1 c2 c3 c4 c5
        have hc := rcmp_any ya yb yc yd ye yf p wr
        have Z := Go.Lib.hid (cmpI_zero ya p)
        generalize hv : cmpI ya p = v at hc Z
        clear hv
        by_cases hyx : v = 0
        · go_wp2_with (go_at_call 97; refine hc.mono ?_; rintro e w' ⟨rfl, hb⟩)
          go_ret2
          refine ⟨lo, PH.out, HB.out.trans (hb.mono HB.out.size), ?_⟩
          rw [decide_eq_true (show ∃ h : lo < l.length, l[lo].1 = p from ⟨hm, by rw [Y.out]; exact Z.out.1 hyx⟩)]
          simp
        · go_wp2_with (go_at_call 97; refine hc.mono ?_; rintro e w' ⟨rfl, hb⟩)
          go_ret2
          refine ⟨lo, PH.out, HB.out.trans (hb.mono HB.out.size), ?_⟩
          rw [decide_eq_false (show ¬ ∃ h : lo < l.length, l[lo].1 = p from fun ⟨_, h⟩ => hyx (Z.out.2 (by rw [Y.out] at h; exact h)))]
          simp [hyx]
      · go_wp2
        go_ret2
        refine ⟨lo, PH.out, HB.out, ?_⟩
        rw [decide_eq_false (show ¬ ∃ h : lo < l.length, l[lo].1 = p from fun ⟨h, _⟩ => by have := N.out; omega)]
        simp
end Go.Proofs.Ytbkpokipibgdfaa
