import Derived.Test.YtblabbeaaajlkaaRows
import Derived.Test.YtblabbeaaajlkaaUtf
import Derived.WalkKit
import Derived.WalkSpells
import Derived.WalkLawsBesides
import Derived.Lib.Hide
namespace Go.Proofs.Ytblabbeaaajlkaa
open Go.RowKit
open U

theorem ret_int {k : IntKind} {a b : Int} (h : a = b) : Ending.returned (.int k a) = .returned (.int k b) := by rw [h]
theorem ret_bool {a b : Bool} (h : a = b) : Ending.returned (.bool a) = .returned (.bool b) := by rw [h]

set_option maxRecDepth 100000 in
set_option maxHeartbeats 400000 in
theorem width_any (b : Nat) (hb : b < 256) (w : World) :
    Calls Try.prog 38 #[.int .u8 b] w fun e w' => e = .returned (.int .i64 (wid b : Nat)) ∧ w = w' := by
  unfold wid
  by_cases h1 : b < 128
  · rw [if_pos h1]
    go_enter Try.func38, Try.ntmps38
    go_wp2
    go_ret
    exact ⟨rfl, rfl⟩
  rw [if_neg h1]
  by_cases h2 : b < 194
  · rw [if_pos h2]
    go_enter Try.func38, Try.ntmps38
    go_wp2
    go_ret
    exact ⟨rfl, rfl⟩
  rw [if_neg h2]
  by_cases h3 : b < 224
  · rw [if_pos h3]
    go_enter Try.func38, Try.ntmps38
    go_wp2
    go_ret
    exact ⟨rfl, rfl⟩
  rw [if_neg h3]
  by_cases h4 : b < 240
  · rw [if_pos h4]
    go_enter Try.func38, Try.ntmps38
    go_wp2
    go_ret
    exact ⟨rfl, rfl⟩
  rw [if_neg h4]
  by_cases h5 : b < 245
  · rw [if_pos h5]
    go_enter Try.func38, Try.ntmps38
    go_wp2
    go_ret
    exact ⟨rfl, rfl⟩
  · rw [if_neg h5]
    go_enter Try.func38, Try.ntmps38
    go_wp2
    go_ret
    exact ⟨rfl, rfl⟩


def ptB (p : Int) : Bool := decide (0 ≤ p ∧ p ≤ 1114111 ∧ (p < 55296 ∨ 57343 < p))
theorem ptB_true {p : Int} (h : 0 ≤ p ∧ p ≤ 1114111 ∧ (p < 55296 ∨ 57343 < p)) : ptB p = true := decide_eq_true h
theorem ptB_false {p : Int} (h : ¬ (0 ≤ p ∧ p ≤ 1114111 ∧ (p < 55296 ∨ 57343 < p))) : ptB p = false := decide_eq_false h

set_option maxRecDepth 100000 in
set_option maxHeartbeats 400000 in
theorem second_any (b : Nat) (hb : b < 256) (w : World) :
    Calls Try.prog 47 #[.int .u8 b] w fun e w' => e = .returned (.tuple #[.int .u8 (lo2 b : Nat), .int .u8 (hi2 b : Nat)]) ∧ w = w' := by
  by_cases h1 : b = 224
  · subst h1
    go_enter Try.func47, Try.ntmps47
    go_wp2
    go_ret2
    exact ⟨rfl, rfl⟩
  by_cases h2 : b = 237
  · subst h2
    go_enter Try.func47, Try.ntmps47
    go_wp2
    go_ret2
    exact ⟨rfl, rfl⟩
  by_cases h3 : b = 240
  · subst h3
    go_enter Try.func47, Try.ntmps47
    go_wp2
    go_ret2
    exact ⟨rfl, rfl⟩
  by_cases h4 : b = 244
  · subst h4
    go_enter Try.func47, Try.ntmps47
    go_wp2
    go_ret2
    exact ⟨rfl, rfl⟩
  · have e1 : lo2 b = 128 := by unfold lo2; rw [if_neg h1, if_neg h3]
    have e2 : hi2 b = 191 := by unfold hi2; rw [if_neg h2, if_neg h4]
    rw [e1, e2]
    have k1 : ((b : Int) == 224) = false := by rw [beq_eq_false_iff_ne]; omega
    have k2 : ((b : Int) == 237) = false := by rw [beq_eq_false_iff_ne]; omega
    have k3 : ((b : Int) == 240) = false := by rw [beq_eq_false_iff_ne]; omega
    have k4 : ((b : Int) == 244) = false := by rw [beq_eq_false_iff_ne]; omega
    clear e1 e2
    go_enter Try.func47, Try.ntmps47
    go_wp2
    go_ret2
    exact ⟨rfl, rfl⟩

set_option maxRecDepth 100000 in
set_option maxHeartbeats 400000 in
theorem isPoint_any (p : Int) (w : World) :
    Calls Try.prog 14 #[.int .i64 p] w fun e w' => e = .returned (.bool (ptB p)) ∧ w = w' := by
  go_enter Try.func14, Try.ntmps14
  go_wp2
  · go_ret
    refine ⟨ret_bool ?_, rfl⟩
    rw [Bool.eq_iff_iff, bne_iff_ne]
    unfold ptB
    rw [decide_eq_true_iff]; omega
  · go_ret
    exact ⟨ret_bool (ptB_false (by omega)).symm, rfl⟩
  · go_ret
    exact ⟨ret_bool (ptB_false (by omega)).symm, rfl⟩
set_option maxRecDepth 100000 in
set_option maxHeartbeats 400000 in
theorem refIsPoint_any (p : Int) (w : World) :
    Calls Try.prog 15 #[.int .i64 p] w fun e w' => e = .returned (.bool (ptB p)) ∧ w = w' := by
  go_enter Try.func15, Try.ntmps15
  go_wp2
  · go_ret
    refine ⟨ret_bool ?_, rfl⟩
    rw [Bool.eq_iff_iff]
    unfold ptB
    simp only [decide_eq_true_iff, Bool.or_eq_true]; omega
  · go_ret
    exact ⟨ret_bool (ptB_true (by omega)).symm, rfl⟩
  · go_ret
    exact ⟨ret_bool (ptB_false (by omega)).symm, rfl⟩
  · go_ret
    exact ⟨ret_bool (ptB_false (by omega)).symm, rfl⟩
end Go.Proofs.Ytblabbeaaajlkaa
