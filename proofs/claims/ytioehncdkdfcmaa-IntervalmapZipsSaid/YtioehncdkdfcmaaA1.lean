/- Layer 5: runs in memory; comparing; the small functions. -/
import Derived.Test.YtioehncdkdfcmaaRows
import Derived.WalkKit
import Derived.WalkSpells
import Derived.Lib.Hide
import Derived.Deep.QuietTactic
import Derived.BigQuiet
namespace Go.Proofs.Ytioehncdkdfcmaa
open Go.RowKit Go.Lib

/-- A run: from, to, value. -/
abbrev Rn := Int × Int × Int
def rnV (x : Rn) : Value := .agg #[.int .i64 x.1, .int .i64 x.2.1, .int .i64 x.2.2]
/-- Runs in memory. -/
def RnAt (w : World) (A : Option Addr) (l : List Rn) : Prop := l = [] ∨ ∃ g o, A = some ⟨g, o, none⟩ ∧ g < w.heap.size ∧
  ∀ k (h : k < l.length), w.cell? ⟨g, o + k * 3, none⟩ = some (.int .i64 l[k].1) ∧ w.cell? ⟨g, o + k * 3 + 1, none⟩ = some (.int .i64 l[k].2.1) ∧ w.cell? ⟨g, o + k * 3 + 2, none⟩ = some (.int .i64 l[k].2.2)
theorem RnAt.below {w w' : World} {A : Option Addr} {l : List Rn} (h : RnAt w A l) (hb : Below w.heap.size w w') : RnAt w' A l := by
  rcases h with h | ⟨g, o, h1, h2, h3⟩
  · exact .inl h
  · refine .inr ⟨g, o, h1, Nat.lt_of_lt_of_le h2 hb.size, fun k hk => ?_⟩
    obtain ⟨c0, c1, c2⟩ := h3 k hk
    exact ⟨(hb.cell (p := ⟨g, o + k * 3, none⟩) h2).trans c0, (hb.cell (p := ⟨g, o + k * 3 + 1, none⟩) h2).trans c1, (hb.cell (p := ⟨g, o + k * 3 + 2, none⟩) h2).trans c2⟩
set_option maxRecDepth 100000 in
theorem nan_any (x : Int) (w : World) : Calls Try.prog 53 #[.int .i64 x] w fun e w' => e = .returned (.bool false) ∧ w = w' := by
  go_enter Try.func53, Try.ntmps53
  go_wp2
  go_ret
  exact ⟨by simp, rfl⟩
def cmpI (x y : Int) : Int := if x < y then -1 else if y < x then 1 else 0
set_option maxRecDepth 100000 in
set_option maxHeartbeats 4000000 in
theorem cmp_any (x y : Int) (w : World) : Calls Try.prog 50 #[.int .i64 x, .int .i64 y] w fun e w' => e = .returned (.int .i64 (cmpI x y)) ∧ w = w' := by
  unfold cmpI
  by_cases h1 : x < y
  · rw [if_pos h1]
    go_enter Try.func50, Try.ntmps50
    go_wp2_with (go_at_call 53; refine (nan_any _ _).mono ?_; rintro e w' ⟨rfl, rfl⟩)
    go_ret
    exact ⟨rfl, rfl⟩
  · rw [if_neg h1]
    by_cases h2 : y < x
    · rw [if_pos h2]
      go_enter Try.func50, Try.ntmps50
      go_wp2_with (go_at_call 53; refine (nan_any _ _).mono ?_; rintro e w' ⟨rfl, rfl⟩)
      go_ret
      exact ⟨rfl, rfl⟩
    · rw [if_neg h2]
      go_enter Try.func50, Try.ntmps50
      go_wp2_with (go_at_call 53; refine (nan_any _ _).mono ?_; rintro e w' ⟨rfl, rfl⟩)
      go_ret
      exact ⟨rfl, rfl⟩
set_option maxRecDepth 100000 in
set_option maxHeartbeats 4000000 in
theorem from_any (x : Rn) (p : Int) (w : World) : Calls Try.prog 42 #[rnV x, .int .i64 p] w fun e w' => e = .returned (.int .i64 (cmpI x.1 p)) ∧ Below w.heap.size w w' := by
  obtain ⟨a, b, c⟩ := x
  unfold rnV
  go_enter Try.func42, Try.ntmps42
  go_wp2_with (go_at_call 50; refine (cmp_any _ _ _).mono ?_; rintro e w' ⟨rfl, rfl⟩)
  go_ret
  exact ⟨rfl, (Below.refl _ w).alloc (Nat.le_refl _) _⟩
set_option maxRecDepth 100000 in
set_option maxHeartbeats 4000000 in
theorem to_any (x : Rn) (p : Int) (w : World) : Calls Try.prog 49 #[rnV x, .int .i64 p] w fun e w' => e = .returned (.int .i64 (cmpI x.2.1 p)) ∧ Below w.heap.size w w' := by
  obtain ⟨a, b, c⟩ := x
  unfold rnV
  go_enter Try.func49, Try.ntmps49
  go_wp2_with (go_at_call 50; refine (cmp_any _ _ _).mono ?_; rintro e w' ⟨rfl, rfl⟩)
  go_ret
  exact ⟨rfl, (Below.refl _ w).alloc (Nat.le_refl _) _⟩
set_option maxRecDepth 100000 in
theorem right_any (n a b : Int) (w : World) : Calls Try.prog 24 #[.int .i64 n, .int .i64 a, .int .i64 b] w fun e w' => e = .returned (.bool (decide (0 ≤ a ∧ a ≤ b ∧ b ≤ n))) ∧ w = w' := by
  by_cases h1 : 0 ≤ a <;> by_cases h2 : a ≤ b <;> by_cases h3 : b ≤ n
  all_goals
    go_enter Try.func24, Try.ntmps24
    go_wp2
    go_ret
    exact ⟨by simp [h1, h2, h3], rfl⟩
end Go.Proofs.Ytioehncdkdfcmaa
