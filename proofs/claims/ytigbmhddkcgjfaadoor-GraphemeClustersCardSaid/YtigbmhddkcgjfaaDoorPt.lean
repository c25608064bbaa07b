import Derived.Test.YtigbmhddkcgjfaaDoorRg
import Derived.Test.YtigbmhddkcgjfaaDoorPd
namespace Go.Proofs.YtigbmhddkcgjfaaDoor
open Go.RowKit Go.Shelf
open Gc

set_option maxRecDepth 100000 in
set_option maxHeartbeats 2000000 in
theorem shape_any (c : UInt8) (w : World) : Calls Tryd.prog 38 #[.int .u8 (c.toNat : Nat)] w fun e w' => e = .returned (.tuple #[.int .i64 ((U.sh c.toNat).1 : Nat), .int .i64 ((U.sh c.toNat).2 : Nat)]) ∧ w = w' := by
  have hc := c.toNat_lt
  generalize c.toNat = n at hc ⊢
  have hi : (0 : Int) ≤ (n : Int) := by omega
  have hi2 : (n : Int) < 256 := by omega
  by_cases h1 : n < 128
  · rw [U.sh1 h1]
    have h1z : (n : Int) < 128 := by omega
    go_enter Tryd.func38, Tryd.ntmps38
    go_wp2
    go_ret2
    exact ⟨rfl, rfl⟩
  by_cases h2 : 194 ≤ n ∧ n ≤ 223
  · rw [U.sh2 h2.1 h2.2]
    obtain ⟨h2, h3⟩ := h2
    have e : ((n - 192 : Nat) : Int) = (n : Int) - 192 := by omega
    dsimp only
    rw [e]
    clear e
    have g1 : (194 : Int) ≤ (n : Int) := by omega
    have g2 : (n : Int) ≤ 223 := by omega
    have g3 : ¬ (n : Int) < 128 := by omega
    go_enter Tryd.func38, Tryd.ntmps38
    go_wp2
    go_ret2
    exact ⟨rfl, rfl⟩
  by_cases h3 : 224 ≤ n ∧ n ≤ 239
  · rw [U.sh3 h3.1 h3.2]
    obtain ⟨h2, h3⟩ := h3
    have e : ((n - 224 : Nat) : Int) = (n : Int) - 224 := by omega
    dsimp only
    rw [e]
    clear e
    have g1 : (224 : Int) ≤ (n : Int) := by omega
    have g2 : (n : Int) ≤ 239 := by omega
    have g3 : ¬ (n : Int) < 128 := by omega
    have g4 : ¬ (n : Int) ≤ 223 := by omega
    go_enter Tryd.func38, Tryd.ntmps38
    go_wp2
    go_ret2
    exact ⟨rfl, rfl⟩
  by_cases h4 : 240 ≤ n ∧ n ≤ 244
  · rw [U.sh4 h4.1 h4.2]
    obtain ⟨h2, h3⟩ := h4
    have e : ((n - 240 : Nat) : Int) = (n : Int) - 240 := by omega
    dsimp only
    rw [e]
    clear e
    have g1 : (240 : Int) ≤ (n : Int) := by omega
    have g2 : (n : Int) ≤ 244 := by omega
    have g3 : ¬ (n : Int) < 128 := by omega
    have g4 : ¬ (n : Int) ≤ 223 := by omega
    have g5 : ¬ (n : Int) ≤ 239 := by omega
    go_enter Tryd.func38, Tryd.ntmps38
    go_wp2
    go_ret2
    exact ⟨rfl, rfl⟩
  · rw [U.sh0 h1 h2 h3 h4]
    have g3 : ¬ (n : Int) < 128 := by omega
    by_cases k1 : n < 194
    · have g4 : ¬ (194 : Int) ≤ (n : Int) := by omega
      have g5 : ¬ (224 : Int) ≤ (n : Int) := by omega
      have g6 : ¬ (240 : Int) ≤ (n : Int) := by omega
      go_enter Tryd.func38, Tryd.ntmps38
      go_wp2
      go_ret2
      exact ⟨rfl, rfl⟩
    · have g0 : (194 : Int) ≤ (n : Int) := by omega
      have g1 : (224 : Int) ≤ (n : Int) := by omega
      have g2 : (240 : Int) ≤ (n : Int) := by omega
      have g4 : ¬ (n : Int) ≤ 223 := by omega
      have g5 : ¬ (n : Int) ≤ 239 := by omega
      have g6 : ¬ (n : Int) ≤ 244 := by omega
      go_enter Tryd.func38, Tryd.ntmps38
      go_wp2
      go_ret2
      exact ⟨rfl, rfl⟩
end Go.Proofs.YtigbmhddkcgjfaaDoor
