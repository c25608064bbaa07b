/- Layer 3: breakRules, breakKind, placeBefore. -/
import Derived.Test.YthjooopppidcfaaDoorKj
import Derived.Test.YthjooopppidcfaaDoorMO
import Derived.StillTailTactics
namespace Go.Proofs.YthjooopppidcfaaDoor
open Go.RowKit
open Gc (Span)

def fnR (k : Nat) : FuncId := [70, 71, 72, 73, 74, 75, 77, 78, 80].getD k 70
/-- The rules in memory. -/
def RulesAt (w : World) (g : Nat) : Prop := g < w.heap.size ∧ ∀ k, k < 9 → w.cell? ⟨g, k, none⟩ = some (.func (.func (fnR k)) #[] #[])
theorem RulesAt.below {w w' : World} {g n : Nat} (h : RulesAt w g) (hb : Below n w w') (hn : g < n) : RulesAt w' g :=
  ⟨Nat.lt_of_lt_of_le h.1 hb.size, fun k hk => (hb.cell (p := ⟨g, k, none⟩) hn).trans (h.2 k hk)⟩
def GetsRules (w : World) (e : Ending) (w' : World) : Prop := ∃ g, e = .returned (.slice (some ⟨g, 0, none⟩) 9 9) ∧ RulesAt w' g ∧ Below w.heap.size w w'
set_option maxRecDepth 100000 in
set_option maxHeartbeats 1000000 in
theorem rules_any (w : World) : Calls Tryd.prog 50 #[] w (GetsRules w) := by
  go_enter Tryd.func50, Tryd.ntmps50
  go_wp2
  go_ret
  refine ⟨w.heap.size, rfl, ⟨by simp, fun k hk => ?_⟩, (Below.refl _ _).alloc (Nat.le_refl _) _⟩
  have : k = 0 ∨ k = 1 ∨ k = 2 ∨ k = 3 ∨ k = 4 ∨ k = 5 ∨ k = 6 ∨ k = 7 ∨ k = 8 := by omega
  rcases this with rfl | rfl | rfl | rfl | rfl | rfl | rfl | rfl | rfl <;> simp [fnR]

theorem none_next {e a b : Int} {k : Nat} (h : ∀ j, j < k → apR j e a b = false) (hk : apR k e a b = false) : ∀ j, j < k + 1 → apR j e a b = false := fun j hj => by
  by_cases hjk : j = k
  · subst hjk; exact hk
  · exact h j (by omega)
theorem box3_cells {w wr : World} {x y z : Value} {t : TypeId} {n : Nat} (hb : Below n (w.alloc (.cells #[x, y, z] t)) wr) (hn : n = w.heap.size + 1) : wr.cell? ⟨w.heap.size, 0, none⟩ = some x ∧ wr.cell? ⟨w.heap.size, 1, none⟩ = some y ∧ wr.cell? ⟨w.heap.size, 2, none⟩ = some z := by
  subst hn
  refine ⟨(hb.cell (p := ⟨w.heap.size, 0, none⟩) (Nat.lt_succ_self _)).trans ?_, (hb.cell (p := ⟨w.heap.size, 1, none⟩) (Nat.lt_succ_self _)).trans ?_, (hb.cell (p := ⟨w.heap.size, 2, none⟩) (Nat.lt_succ_self _)).trans ?_⟩
  · simp
  · simp
  · simp

def IntPostK (v : Int) (w : World) (e : Ending) (w' : World) : Prop := e = .returned (.int .i64 v) ∧ Below w.heap.size w w'
set_option maxRecDepth 100000 in
set_option maxHeartbeats 8000000 in
theorem breakKind_any (g : Nat) (e a b : Int) (w : World) (R : RulesAt w g) :
    Calls Tryd.prog 51 #[.slice (some ⟨g, 0, none⟩) 9 9, .agg #[.int .i64 e, .int .i64 a, .int .i64 b]] w (IntPostK (Sg.kindB e a b) w) := by
  have hg := R.1
  have RR := Go.Lib.hid R
  clear R
  obtain ⟨w1, hw1⟩ : ∃ w1, w.alloc (.cells #[.int .i64 e, .int .i64 a, .int .i64 b] 90) = w1 := ⟨_, rfl⟩
  have W1 := Go.Lib.hid hw1
  clear hw1
  go_enter Tryd.func51, Tryd.ntmps51
  go_wp2
  go_loopw [11] (fun s11 wr => ∃ k : Nat, k ≤ 9 ∧ s11 = .int .i64 (k : Nat) ∧ Hid (Below (w.heap.size + 1) w1 wr) ∧ Hid (∀ j, j < k → apR j e a b = false)) (fun s11 _ => 9 - (intOf s11).toNat)
  case atStart => exact ⟨0, by omega, rfl, Go.Lib.hid (by rw [W1.out]; exact Below.refl _ _), Go.Lib.hid (fun j hj => absurd hj (Nat.not_lt_zero _))⟩
  case round =>
    obtain ⟨k, hk, rfl, HB, I⟩ := hrel
    have hb0 := HB.out
    rw [← W1.out] at hb0
    obtain ⟨hx0, hx1, hx2⟩ := box3_cells hb0 rfl
    have hbw : Below w.heap.size w wr := ((Below.refl _ w).alloc (Nat.le_refl _) _).trans (hb0.mono (Nat.le_succ _))
    have hsz := HB.out.size
    rw [← W1.out, World.size_alloc] at hsz
    have hgk := fun h9 => (hbw.cell (p := ⟨g, k, none⟩) hg).trans (RR.out.2 k h9)
    have HBW := Go.Lib.hid hbw
    clear hb0 hbw
    have hc : k = 0 ∨ k = 1 ∨ k = 2 ∨ k = 3 ∨ k = 4 ∨ k = 5 ∨ k = 6 ∨ k = 7 ∨ k = 8 ∨ k = 9 := by omega
    rcases hc with rfl | rfl | rfl | rfl | rfl | rfl | rfl | rfl | rfl | rfl
    · have hcell : wr.cell? ⟨g, 0, none⟩ = some (.func (.func 70) #[] #[]) := hgk (by decide)
      clear hgk
      have ck := rule0_any e a b wr
      unfold RuleRet at ck
      cases hv : apR 0 e a b with
      | true =>
        rw [hv] at ck
        have HK := Go.Lib.hid (kind_at0 e a b I.out hv)
        clear hv
        unfold knd at ck
        simp only [List.getD_cons_zero] at ck
        go_wp2_with (go_at_call 70; (with_reducible refine ck.mono ?_); rintro en w2 ⟨rfl, hb2⟩)
        go_ret
        rw [HK.out]
        exact ⟨rfl, HBW.out.trans (hb2.mono (by omega))⟩
      | false =>
        rw [hv] at ck
        have HN := Go.Lib.hid (none_next I.out hv)
        clear hv
        unfold knd at ck
        simp only [List.getD_cons_zero] at ck
        go_wp2_with (go_at_call 70; (with_reducible refine ck.mono ?_); rintro en w2 ⟨rfl, hb2⟩)
        go_roundw
        case rel => exact ⟨1, by omega, rfl, Go.Lib.hid (HB.out.trans (hb2.mono hsz)), HN⟩
        case measure => simp [intOf]
    · have hcell : wr.cell? ⟨g, 1, none⟩ = some (.func (.func 71) #[] #[]) := hgk (by decide)
      clear hgk
      have ck := rule1_any e a b wr
      unfold RuleRet at ck
      cases hv : apR 1 e a b with
      | true =>
        rw [hv] at ck
        have HK := Go.Lib.hid (kind_at1 e a b I.out hv)
        clear hv
        unfold knd at ck
        simp only [List.getD_cons_zero, List.getD_cons_succ] at ck
        go_wp2_with (go_at_call 71; (with_reducible refine ck.mono ?_); rintro en w2 ⟨rfl, hb2⟩)
        go_ret
        rw [HK.out]
        exact ⟨rfl, HBW.out.trans (hb2.mono (by omega))⟩
      | false =>
        rw [hv] at ck
        have HN := Go.Lib.hid (none_next I.out hv)
        clear hv
        unfold knd at ck
        simp only [List.getD_cons_zero, List.getD_cons_succ] at ck
        go_wp2_with (go_at_call 71; (with_reducible refine ck.mono ?_); rintro en w2 ⟨rfl, hb2⟩)
        go_roundw
        case rel => exact ⟨2, by omega, rfl, Go.Lib.hid (HB.out.trans (hb2.mono hsz)), HN⟩
        case measure => simp [intOf]
    · have hcell : wr.cell? ⟨g, 2, none⟩ = some (.func (.func 72) #[] #[]) := hgk (by decide)
      clear hgk
      have ck := rule2_any e a b wr
      unfold RuleRet at ck
      cases hv : apR 2 e a b with
      | true =>
        rw [hv] at ck
        have HK := Go.Lib.hid (kind_at2 e a b I.out hv)
        clear hv
        unfold knd at ck
        simp only [List.getD_cons_zero, List.getD_cons_succ] at ck
        go_wp2_with (go_at_call 72; (with_reducible refine ck.mono ?_); rintro en w2 ⟨rfl, hb2⟩)
        go_ret
        rw [HK.out]
        exact ⟨rfl, HBW.out.trans (hb2.mono (by omega))⟩
      | false =>
        rw [hv] at ck
        have HN := Go.Lib.hid (none_next I.out hv)
        clear hv
        unfold knd at ck
        simp only [List.getD_cons_zero, List.getD_cons_succ] at ck
        go_wp2_with (go_at_call 72; (with_reducible refine ck.mono ?_); rintro en w2 ⟨rfl, hb2⟩)
        go_roundw
        case rel => exact ⟨3, by omega, rfl, Go.Lib.hid (HB.out.trans (hb2.mono hsz)), HN⟩
        case measure => simp [intOf]
    · have hcell : wr.cell? ⟨g, 3, none⟩ = some (.func (.func 73) #[] #[]) := hgk (by decide)
      clear hgk
      have ck := rule3_any e a b wr
      unfold RuleRet at ck
      cases hv : apR 3 e a b with
      | true =>
        rw [hv] at ck
        have HK := Go.Lib.hid (kind_at3 e a b I.out hv)
        clear hv
        unfold knd at ck
        simp only [List.getD_cons_zero, List.getD_cons_succ] at ck
        go_wp2_with (go_at_call 73; (with_reducible refine ck.mono ?_); rintro en w2 ⟨rfl, hb2⟩)
        go_ret
        rw [HK.out]
        exact ⟨rfl, HBW.out.trans (hb2.mono (by omega))⟩
      | false =>
        rw [hv] at ck
        have HN := Go.Lib.hid (none_next I.out hv)
        clear hv
        unfold knd at ck
        simp only [List.getD_cons_zero, List.getD_cons_succ] at ck
        go_wp2_with (go_at_call 73; (with_reducible refine ck.mono ?_); rintro en w2 ⟨rfl, hb2⟩)
        go_roundw
        case rel => exact ⟨4, by omega, rfl, Go.Lib.hid (HB.out.trans (hb2.mono hsz)), HN⟩
        case measure => simp [intOf]
    · have hcell : wr.cell? ⟨g, 4, none⟩ = some (.func (.func 74) #[] #[]) := hgk (by decide)
      clear hgk
      have ck := rule4_any e a b wr
      unfold RuleRet at ck
      cases hv : apR 4 e a b with
      | true =>
        rw [hv] at ck
        have HK := Go.Lib.hid (kind_at4 e a b I.out hv)
        clear hv
        unfold knd at ck
        simp only [List.getD_cons_zero, List.getD_cons_succ] at ck
        go_wp2_with (go_at_call 74; (with_reducible refine ck.mono ?_); rintro en w2 ⟨rfl, hb2⟩)
        go_ret
        rw [HK.out]
        exact ⟨rfl, HBW.out.trans (hb2.mono (by omega))⟩
      | false =>
        rw [hv] at ck
        have HN := Go.Lib.hid (none_next I.out hv)
        clear hv
        unfold knd at ck
        simp only [List.getD_cons_zero, List.getD_cons_succ] at ck
        go_wp2_with (go_at_call 74; (with_reducible refine ck.mono ?_); rintro en w2 ⟨rfl, hb2⟩)
        go_roundw
        case rel => exact ⟨5, by omega, rfl, Go.Lib.hid (HB.out.trans (hb2.mono hsz)), HN⟩
        case measure => simp [intOf]
    · have hcell : wr.cell? ⟨g, 5, none⟩ = some (.func (.func 75) #[] #[]) := hgk (by decide)
      clear hgk
      have ck := rule5_any e a b wr
      unfold RuleRet at ck
      cases hv : apR 5 e a b with
      | true =>
        rw [hv] at ck
        have HK := Go.Lib.hid (kind_at5 e a b I.out hv)
        clear hv
        unfold knd at ck
        simp only [List.getD_cons_zero, List.getD_cons_succ] at ck
        go_wp2_with (go_at_call 75; (with_reducible refine ck.mono ?_); rintro en w2 ⟨rfl, hb2⟩)
        go_ret
        rw [HK.out]
        exact ⟨rfl, HBW.out.trans (hb2.mono (by omega))⟩
      | false =>
        rw [hv] at ck
        have HN := Go.Lib.hid (none_next I.out hv)
        clear hv
        unfold knd at ck
        simp only [List.getD_cons_zero, List.getD_cons_succ] at ck
        go_wp2_with (go_at_call 75; (with_reducible refine ck.mono ?_); rintro en w2 ⟨rfl, hb2⟩)
        go_roundw
        case rel => exact ⟨6, by omega, rfl, Go.Lib.hid (HB.out.trans (hb2.mono hsz)), HN⟩
        case measure => simp [intOf]
    · have hcell : wr.cell? ⟨g, 6, none⟩ = some (.func (.func 77) #[] #[]) := hgk (by decide)
      clear hgk
      have ck := rule6_any e a b wr
      unfold RuleRet at ck
      cases hv : apR 6 e a b with
      | true =>
        rw [hv] at ck
        have HK := Go.Lib.hid (kind_at6 e a b I.out hv)
        clear hv
        unfold knd at ck
        simp only [List.getD_cons_zero, List.getD_cons_succ] at ck
        go_wp2_with (go_at_call 77; (with_reducible refine ck.mono ?_); rintro en w2 ⟨rfl, hb2⟩)
        go_ret
        rw [HK.out]
        exact ⟨rfl, HBW.out.trans (hb2.mono (by omega))⟩
      | false =>
        rw [hv] at ck
        have HN := Go.Lib.hid (none_next I.out hv)
        clear hv
        unfold knd at ck
        simp only [List.getD_cons_zero, List.getD_cons_succ] at ck
        go_wp2_with (go_at_call 77; (with_reducible refine ck.mono ?_); rintro en w2 ⟨rfl, hb2⟩)
        go_roundw
        case rel => exact ⟨7, by omega, rfl, Go.Lib.hid (HB.out.trans (hb2.mono hsz)), HN⟩
        case measure => simp [intOf]
    · have hcell : wr.cell? ⟨g, 7, none⟩ = some (.func (.func 78) #[] #[]) := hgk (by decide)
      clear hgk
      have ck := rule7_any e a b wr
      unfold RuleRet at ck
      cases hv : apR 7 e a b with
      | true =>
        rw [hv] at ck
        have HK := Go.Lib.hid (kind_at7 e a b I.out hv)
        clear hv
        unfold knd at ck
        simp only [List.getD_cons_zero, List.getD_cons_succ] at ck
        go_wp2_with (go_at_call 78; (with_reducible refine ck.mono ?_); rintro en w2 ⟨rfl, hb2⟩)
        go_ret
        rw [HK.out]
        exact ⟨rfl, HBW.out.trans (hb2.mono (by omega))⟩
      | false =>
        rw [hv] at ck
        have HN := Go.Lib.hid (none_next I.out hv)
        clear hv
        unfold knd at ck
        simp only [List.getD_cons_zero, List.getD_cons_succ] at ck
        go_wp2_with (go_at_call 78; (with_reducible refine ck.mono ?_); rintro en w2 ⟨rfl, hb2⟩)
        go_roundw
        case rel => exact ⟨8, by omega, rfl, Go.Lib.hid (HB.out.trans (hb2.mono hsz)), HN⟩
        case measure => simp [intOf]
    · have hcell : wr.cell? ⟨g, 8, none⟩ = some (.func (.func 80) #[] #[]) := hgk (by decide)
      clear hgk
      have ck := rule8_any e a b wr
      unfold RuleRet at ck
      cases hv : apR 8 e a b with
      | true =>
        rw [hv] at ck
        have HK := Go.Lib.hid (kind_at8 e a b I.out hv)
        clear hv
        unfold knd at ck
        simp only [List.getD_cons_zero, List.getD_cons_succ] at ck
        go_wp2_with (go_at_call 80; (with_reducible refine ck.mono ?_); rintro en w2 ⟨rfl, hb2⟩)
        go_ret
        rw [HK.out]
        exact ⟨rfl, HBW.out.trans (hb2.mono (by omega))⟩
      | false =>
        rw [hv] at ck
        have HN := Go.Lib.hid (none_next I.out hv)
        clear hv
        unfold knd at ck
        simp only [List.getD_cons_zero, List.getD_cons_succ] at ck
        go_wp2_with (go_at_call 80; (with_reducible refine ck.mono ?_); rintro en w2 ⟨rfl, hb2⟩)
        go_roundw
        case rel => exact ⟨9, by omega, rfl, Go.Lib.hid (HB.out.trans (hb2.mono hsz)), HN⟩
        case measure => simp [intOf]
    · clear hgk
      have HK := Go.Lib.hid (kind_none e a b I.out)
      go_wp2
      go_ret
      rw [HK.out]
      exact ⟨rfl, HBW.out⟩

end Go.Proofs.YthjooopppidcfaaDoor
