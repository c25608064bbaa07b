/- Layer 3: the rules for breaks. -/
import Derived.Test.YthjooopppidcfaaDoorMO
namespace Go.Proofs.YthjooopppidcfaaDoor
open Go.RowKit

def clingB (b : Int) : Bool := decide (b = 4 ∨ b = 9 ∨ b = 10 ∨ b = 11 ∨ b = 12 ∨ b = 13)
set_option maxRecDepth 100000 in
theorem clings_any (b : Int) (w : World) : Calls Tryd.prog 76 #[.int .i64 b] w fun e w' => e = .returned (.bool (clingB b)) ∧ w = w' := by
  by_cases h : b = 4 ∨ b = 9 ∨ b = 10 ∨ b = 11 ∨ b = 12 ∨ b = 13
  · have e : clingB b = true := decide_eq_true h
    rw [e]
    clear e
    rcases h with rfl | rfl | rfl | rfl | rfl | rfl
    all_goals
      go_enter Tryd.func76, Tryd.ntmps76
      go_wp2
      go_ret
      exact ⟨rfl, rfl⟩
  · have e : clingB b = false := decide_eq_false h
    rw [e]
    have k4 := neB (fun h' : b = 4 => h (.inl h'))
    have k9 := neB (fun h' : b = 9 => h (.inr (.inl h')))
    have k10 := neB (fun h' : b = 10 => h (.inr (.inr (.inl h'))))
    have k11 := neB (fun h' : b = 11 => h (.inr (.inr (.inr (.inl h')))))
    have k12 := neB (fun h' : b = 12 => h (.inr (.inr (.inr (.inr (.inl h'))))))
    have k13 := neB (fun h' : b = 13 => h (.inr (.inr (.inr (.inr (.inr h'))))))
    clear e h
    go_enter Tryd.func76, Tryd.ntmps76
    go_wp2
    go_ret
    exact ⟨rfl, rfl⟩

/-- Which kind a rule gives, and whether it applies. -/
def knd (k : Nat) : Int := [2, 0, 0, 1, 3, 0, 1, 1, 1].getD k 0
def apR (k : Nat) (e a b : Int) : Bool :=
  match k with
  | 0 => decide (a = 1)
  | 1 => decide (b = 1 ∨ b = 2)
  | 2 => decide (a = 3 ∨ b = 3)
  | 3 => decide (a = 2)
  | 4 => decide (a = 4)
  | 5 => decide (a = 8 ∨ b = 4 ∨ b = 9 ∨ b = 10 ∨ b = 11 ∨ b = 12 ∨ b = 13)
  | 6 => decide (a = 13)
  | 7 => decide (a = 12 ∧ b = 5 ∧ (e = 5 ∨ e = 6))
  | _ => decide (a = 7 ∨ b = 7)
def RuleRet (k : Nat) (e a b : Int) (w : World) (en : Ending) (w' : World) : Prop := en = .returned (.tuple #[.int .i64 (knd k), .bool (apR k e a b)]) ∧ Below w.heap.size w w'
theorem rule_ret {k : Nat} {e a b : Int} {v : Bool} {w w' : World} {en : Ending} (h : apR k e a b = v) (he : en = .returned (.tuple #[.int .i64 (knd k), .bool v])) (hb : Below w.heap.size w w') : RuleRet k e a b w en w' := ⟨by rw [h]; exact he, hb⟩

set_option maxRecDepth 100000 in
set_option maxHeartbeats 1000000 in
theorem rule0_any (e a b : Int) (w : World) : Calls Tryd.prog 70 #[.agg #[.int .i64 e, .int .i64 a, .int .i64 b]] w (RuleRet 0 e a b w) := by
  by_cases h : a = 1
  · subst h
    go_enter Tryd.func70, Tryd.ntmps70
    go_wp2
    go_quiet (fail)
    go_wp2
    go_ret2
    exact rule_ret (rfl) rfl (bdrew ((Below.refl _ _).alloc (Nat.le_refl _) _) _)
  · have e1 : apR 0 e a b = false := decide_eq_false h
    have k1 := neB h
    have E1 := Go.Lib.hid e1
    clear e1 h
    go_enter Tryd.func70, Tryd.ntmps70
    go_wp2
    go_quiet (fail)
    go_wp2
    go_ret2
    exact rule_ret (E1.out) rfl (bdrew ((Below.refl _ _).alloc (Nat.le_refl _) _) _)

set_option maxRecDepth 100000 in
set_option maxHeartbeats 1000000 in
theorem rule1_any (e a b : Int) (w : World) : Calls Tryd.prog 71 #[.agg #[.int .i64 e, .int .i64 a, .int .i64 b]] w (RuleRet 1 e a b w) := by
  by_cases h : b = 1
  · subst h
    have e1 : apR 1 e a 1 = true := by unfold apR; simp
    have E1 := Go.Lib.hid e1
    clear e1
    go_enter Tryd.func71, Tryd.ntmps71
    go_wp2
    go_quiet (fail)
    go_wp2
    go_ret2
    exact rule_ret (E1.out) rfl (bdrew ((Below.refl _ _).alloc (Nat.le_refl _) _) _)
  · have k1 := neB h
    by_cases h2 : b = 2
    · subst h2
      have e1 : apR 1 e a 2 = true := by unfold apR; simp
      have E1 := Go.Lib.hid e1
      clear e1 h
      go_enter Tryd.func71, Tryd.ntmps71
      go_wp2
      go_quiet (fail)
      go_wp2
      go_ret2
      exact rule_ret (E1.out) rfl (bdrew ((Below.refl _ _).alloc (Nat.le_refl _) _) _)
    · have k2 := neB h2
      have e1 : apR 1 e a b = false := decide_eq_false (fun h' => h'.elim h h2)
      have E1 := Go.Lib.hid e1
      clear e1 h h2
      go_enter Tryd.func71, Tryd.ntmps71
      go_wp2
      go_quiet (fail)
      go_wp2
      go_ret2
      exact rule_ret (E1.out) rfl (bdrew ((Below.refl _ _).alloc (Nat.le_refl _) _) _)

set_option maxRecDepth 100000 in
set_option maxHeartbeats 1000000 in
theorem rule2_any (e a b : Int) (w : World) : Calls Tryd.prog 72 #[.agg #[.int .i64 e, .int .i64 a, .int .i64 b]] w (RuleRet 2 e a b w) := by
  by_cases h : a = 3
  · subst h
    have e1 : apR 2 e 3 b = true := by unfold apR; simp
    have E1 := Go.Lib.hid e1
    clear e1
    go_enter Tryd.func72, Tryd.ntmps72
    go_wp2
    go_quiet (fail)
    go_wp2
    go_ret2
    exact rule_ret (E1.out) rfl (bdrew ((Below.refl _ _).alloc (Nat.le_refl _) _) _)
  · have k1 := neB h
    by_cases h2 : b = 3
    · subst h2
      have e1 : apR 2 e a 3 = true := by unfold apR; simp
      have E1 := Go.Lib.hid e1
      clear e1 h
      go_enter Tryd.func72, Tryd.ntmps72
      go_wp2
      go_quiet (fail)
      go_wp2
      go_ret2
      exact rule_ret (E1.out) rfl (bdrew ((Below.refl _ _).alloc (Nat.le_refl _) _) _)
    · have k2 := neB h2
      have e1 : apR 2 e a b = false := decide_eq_false (fun h' => h'.elim h h2)
      have E1 := Go.Lib.hid e1
      clear e1 h h2
      go_enter Tryd.func72, Tryd.ntmps72
      go_wp2
      go_quiet (fail)
      go_wp2
      go_ret2
      exact rule_ret (E1.out) rfl (bdrew ((Below.refl _ _).alloc (Nat.le_refl _) _) _)

set_option maxRecDepth 100000 in
set_option maxHeartbeats 1000000 in
theorem rule3_any (e a b : Int) (w : World) : Calls Tryd.prog 73 #[.agg #[.int .i64 e, .int .i64 a, .int .i64 b]] w (RuleRet 3 e a b w) := by
  by_cases h : a = 2
  · subst h
    go_enter Tryd.func73, Tryd.ntmps73
    go_wp2
    go_quiet (fail)
    go_wp2
    go_ret2
    exact rule_ret (rfl) rfl (bdrew ((Below.refl _ _).alloc (Nat.le_refl _) _) _)
  · have e1 : apR 3 e a b = false := decide_eq_false h
    have k1 := neB h
    have E1 := Go.Lib.hid e1
    clear e1 h
    go_enter Tryd.func73, Tryd.ntmps73
    go_wp2
    go_quiet (fail)
    go_wp2
    go_ret2
    exact rule_ret (E1.out) rfl (bdrew ((Below.refl _ _).alloc (Nat.le_refl _) _) _)

set_option maxRecDepth 100000 in
set_option maxHeartbeats 1000000 in
theorem rule4_any (e a b : Int) (w : World) : Calls Tryd.prog 74 #[.agg #[.int .i64 e, .int .i64 a, .int .i64 b]] w (RuleRet 4 e a b w) := by
  by_cases h : a = 4
  · subst h
    go_enter Tryd.func74, Tryd.ntmps74
    go_wp2
    go_quiet (fail)
    go_wp2
    go_ret2
    exact rule_ret (rfl) rfl (bdrew ((Below.refl _ _).alloc (Nat.le_refl _) _) _)
  · have e1 : apR 4 e a b = false := decide_eq_false h
    have k1 := neB h
    have E1 := Go.Lib.hid e1
    clear e1 h
    go_enter Tryd.func74, Tryd.ntmps74
    go_wp2
    go_quiet (fail)
    go_wp2
    go_ret2
    exact rule_ret (E1.out) rfl (bdrew ((Below.refl _ _).alloc (Nat.le_refl _) _) _)

set_option maxRecDepth 100000 in
set_option maxHeartbeats 1000000 in
theorem rule5_any (e a b : Int) (w : World) : Calls Tryd.prog 75 #[.agg #[.int .i64 e, .int .i64 a, .int .i64 b]] w (RuleRet 5 e a b w) := by
  by_cases h : a = 8
  · subst h
    have e1 : apR 5 e 8 b = true := by unfold apR; simp
    have E1 := Go.Lib.hid e1
    clear e1
    go_enter Tryd.func75, Tryd.ntmps75
    go_wp2
    go_ret2
    exact rule_ret (E1.out) rfl ((Below.refl _ _).alloc (Nat.le_refl _) _)
  · have k1 := neB h
    have cc := clings_any b
    have e1 : apR 5 e a b = clingB b := by unfold apR clingB; simp [h]
    have E1 := Go.Lib.hid e1
    clear e1 h
    generalize clingB b = v at cc E1
    go_enter Tryd.func75, Tryd.ntmps75
    go_wp2_with (go_at_call 76; refine (cc _).mono ?_; rintro e w' ⟨rfl, rfl⟩)
    go_ret2
    exact rule_ret (E1.out) rfl ((Below.refl _ _).alloc (Nat.le_refl _) _)

set_option maxRecDepth 100000 in
set_option maxHeartbeats 1000000 in
theorem rule6_any (e a b : Int) (w : World) : Calls Tryd.prog 77 #[.agg #[.int .i64 e, .int .i64 a, .int .i64 b]] w (RuleRet 6 e a b w) := by
  by_cases h : a = 13
  · subst h
    go_enter Tryd.func77, Tryd.ntmps77
    go_wp2
    go_quiet (fail)
    go_wp2
    go_ret2
    exact rule_ret (rfl) rfl (bdrew ((Below.refl _ _).alloc (Nat.le_refl _) _) _)
  · have e1 : apR 6 e a b = false := decide_eq_false h
    have k1 := neB h
    have E1 := Go.Lib.hid e1
    clear e1 h
    go_enter Tryd.func77, Tryd.ntmps77
    go_wp2
    go_quiet (fail)
    go_wp2
    go_ret2
    exact rule_ret (E1.out) rfl (bdrew ((Below.refl _ _).alloc (Nat.le_refl _) _) _)

set_option maxRecDepth 100000 in
set_option maxHeartbeats 1000000 in
theorem rule7_any (e a b : Int) (w : World) : Calls Tryd.prog 78 #[.agg #[.int .i64 e, .int .i64 a, .int .i64 b]] w (RuleRet 7 e a b w) := by
  by_cases h : a = 12
  · subst h
    by_cases h2 : b = 5
    · subst h2
      have cc := isWordy_any e
      have e1 : apR 7 e 12 5 = Sg.wordy e := by unfold apR Sg.wordy; simp [Bool.decide_or]
      have E1 := Go.Lib.hid e1
      clear e1
      generalize Sg.wordy e = v at cc E1
      go_enter Tryd.func78, Tryd.ntmps78
      go_wp2_with (go_at_call 79; refine (cc _).mono ?_; rintro e w' ⟨rfl, rfl⟩)
      go_ret2
      exact rule_ret (E1.out) rfl ((Below.refl _ _).alloc (Nat.le_refl _) _)
    · have k2 := neB h2
      have e1 : apR 7 e 12 b = false := decide_eq_false (fun h' => h2 h'.2.1)
      have E1 := Go.Lib.hid e1
      clear e1 h2
      go_enter Tryd.func78, Tryd.ntmps78
      go_wp2
      go_ret2
      exact rule_ret (E1.out) rfl ((Below.refl _ _).alloc (Nat.le_refl _) _)
  · have k1 := neB h
    have e1 : apR 7 e a b = false := decide_eq_false (fun h' => h h'.1)
    have E1 := Go.Lib.hid e1
    clear e1 h
    go_enter Tryd.func78, Tryd.ntmps78
    go_wp2
    go_ret2
    exact rule_ret (E1.out) rfl ((Below.refl _ _).alloc (Nat.le_refl _) _)

set_option maxRecDepth 100000 in
set_option maxHeartbeats 1000000 in
theorem rule8_any (e a b : Int) (w : World) : Calls Tryd.prog 80 #[.agg #[.int .i64 e, .int .i64 a, .int .i64 b]] w (RuleRet 8 e a b w) := by
  by_cases h : a = 7
  · subst h
    have e1 : apR 8 e 7 b = true := by unfold apR; simp
    have E1 := Go.Lib.hid e1
    clear e1
    go_enter Tryd.func80, Tryd.ntmps80
    go_wp2
    go_quiet (fail)
    go_wp2
    go_ret2
    exact rule_ret (E1.out) rfl (bdrew ((Below.refl _ _).alloc (Nat.le_refl _) _) _)
  · have k1 := neB h
    by_cases h2 : b = 7
    · subst h2
      have e1 : apR 8 e a 7 = true := by unfold apR; simp
      have E1 := Go.Lib.hid e1
      clear e1 h
      go_enter Tryd.func80, Tryd.ntmps80
      go_wp2
      go_quiet (fail)
      go_wp2
      go_ret2
      exact rule_ret (E1.out) rfl (bdrew ((Below.refl _ _).alloc (Nat.le_refl _) _) _)
    · have k2 := neB h2
      have e1 : apR 8 e a b = false := decide_eq_false (fun h' => h'.elim h h2)
      have E1 := Go.Lib.hid e1
      clear e1 h h2
      go_enter Tryd.func80, Tryd.ntmps80
      go_wp2
      go_quiet (fail)
      go_wp2
      go_ret2
      exact rule_ret (E1.out) rfl (bdrew ((Below.refl _ _).alloc (Nat.le_refl _) _) _)

theorem kind_none (e a b : Int) (h : ∀ j, j < 9 → apR j e a b = false) : Sg.kindB e a b = 0 := by
  have h0 := of_decide_eq_false (h 0 (by decide))
  have h1 := of_decide_eq_false (h 1 (by decide))
  have h2 := of_decide_eq_false (h 2 (by decide))
  have h3 := of_decide_eq_false (h 3 (by decide))
  have h4 := of_decide_eq_false (h 4 (by decide))
  have h5 := of_decide_eq_false (h 5 (by decide))
  have h6 := of_decide_eq_false (h 6 (by decide))
  have h7 := of_decide_eq_false (h 7 (by decide))
  have h8 := of_decide_eq_false (h 8 (by decide))
  unfold Sg.kindB
  rw [if_neg h0, if_neg h1, if_neg h2, if_neg h3, if_neg h4, if_neg h5, if_neg h6, if_neg h7, if_neg h8]
theorem kind_at0 (e a b : Int) (_h : ∀ j, j < 0 → apR j e a b = false) (hk : apR 0 e a b = true) : Sg.kindB e a b = knd 0 := by
  have hk := of_decide_eq_true hk
  unfold Sg.kindB
  rw [if_pos hk]; rfl
theorem kind_at1 (e a b : Int) (h : ∀ j, j < 1 → apR j e a b = false) (hk : apR 1 e a b = true) : Sg.kindB e a b = knd 1 := by
  have h0 := of_decide_eq_false (h 0 (by decide))
  have hk := of_decide_eq_true hk
  unfold Sg.kindB
  rw [if_neg h0, if_pos hk]; rfl
theorem kind_at2 (e a b : Int) (h : ∀ j, j < 2 → apR j e a b = false) (hk : apR 2 e a b = true) : Sg.kindB e a b = knd 2 := by
  have h0 := of_decide_eq_false (h 0 (by decide))
  have h1 := of_decide_eq_false (h 1 (by decide))
  have hk := of_decide_eq_true hk
  unfold Sg.kindB
  rw [if_neg h0, if_neg h1, if_pos hk]; rfl
theorem kind_at3 (e a b : Int) (h : ∀ j, j < 3 → apR j e a b = false) (hk : apR 3 e a b = true) : Sg.kindB e a b = knd 3 := by
  have h0 := of_decide_eq_false (h 0 (by decide))
  have h1 := of_decide_eq_false (h 1 (by decide))
  have h2 := of_decide_eq_false (h 2 (by decide))
  have hk := of_decide_eq_true hk
  unfold Sg.kindB
  rw [if_neg h0, if_neg h1, if_neg h2, if_pos hk]; rfl
theorem kind_at4 (e a b : Int) (h : ∀ j, j < 4 → apR j e a b = false) (hk : apR 4 e a b = true) : Sg.kindB e a b = knd 4 := by
  have h0 := of_decide_eq_false (h 0 (by decide))
  have h1 := of_decide_eq_false (h 1 (by decide))
  have h2 := of_decide_eq_false (h 2 (by decide))
  have h3 := of_decide_eq_false (h 3 (by decide))
  have hk := of_decide_eq_true hk
  unfold Sg.kindB
  rw [if_neg h0, if_neg h1, if_neg h2, if_neg h3, if_pos hk]; rfl
theorem kind_at5 (e a b : Int) (h : ∀ j, j < 5 → apR j e a b = false) (hk : apR 5 e a b = true) : Sg.kindB e a b = knd 5 := by
  have h0 := of_decide_eq_false (h 0 (by decide))
  have h1 := of_decide_eq_false (h 1 (by decide))
  have h2 := of_decide_eq_false (h 2 (by decide))
  have h3 := of_decide_eq_false (h 3 (by decide))
  have h4 := of_decide_eq_false (h 4 (by decide))
  have hk := of_decide_eq_true hk
  unfold Sg.kindB
  rw [if_neg h0, if_neg h1, if_neg h2, if_neg h3, if_neg h4, if_pos hk]; rfl
theorem kind_at6 (e a b : Int) (h : ∀ j, j < 6 → apR j e a b = false) (hk : apR 6 e a b = true) : Sg.kindB e a b = knd 6 := by
  have h0 := of_decide_eq_false (h 0 (by decide))
  have h1 := of_decide_eq_false (h 1 (by decide))
  have h2 := of_decide_eq_false (h 2 (by decide))
  have h3 := of_decide_eq_false (h 3 (by decide))
  have h4 := of_decide_eq_false (h 4 (by decide))
  have h5 := of_decide_eq_false (h 5 (by decide))
  have hk := of_decide_eq_true hk
  unfold Sg.kindB
  rw [if_neg h0, if_neg h1, if_neg h2, if_neg h3, if_neg h4, if_neg h5, if_pos hk]; rfl
theorem kind_at7 (e a b : Int) (h : ∀ j, j < 7 → apR j e a b = false) (hk : apR 7 e a b = true) : Sg.kindB e a b = knd 7 := by
  have h0 := of_decide_eq_false (h 0 (by decide))
  have h1 := of_decide_eq_false (h 1 (by decide))
  have h2 := of_decide_eq_false (h 2 (by decide))
  have h3 := of_decide_eq_false (h 3 (by decide))
  have h4 := of_decide_eq_false (h 4 (by decide))
  have h5 := of_decide_eq_false (h 5 (by decide))
  have h6 := of_decide_eq_false (h 6 (by decide))
  have hk := of_decide_eq_true hk
  unfold Sg.kindB
  rw [if_neg h0, if_neg h1, if_neg h2, if_neg h3, if_neg h4, if_neg h5, if_neg h6, if_pos hk]; rfl
theorem kind_at8 (e a b : Int) (h : ∀ j, j < 8 → apR j e a b = false) (hk : apR 8 e a b = true) : Sg.kindB e a b = knd 8 := by
  have h0 := of_decide_eq_false (h 0 (by decide))
  have h1 := of_decide_eq_false (h 1 (by decide))
  have h2 := of_decide_eq_false (h 2 (by decide))
  have h3 := of_decide_eq_false (h 3 (by decide))
  have h4 := of_decide_eq_false (h 4 (by decide))
  have h5 := of_decide_eq_false (h 5 (by decide))
  have h6 := of_decide_eq_false (h 6 (by decide))
  have h7 := of_decide_eq_false (h 7 (by decide))
  have hk := of_decide_eq_true hk
  unfold Sg.kindB
  rw [if_neg h0, if_neg h1, if_neg h2, if_neg h3, if_neg h4, if_neg h5, if_neg h6, if_neg h7, if_pos hk]; rfl
end Go.Proofs.YthjooopppidcfaaDoor
