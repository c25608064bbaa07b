/- Layer 9, plainly: all Roman numerals, by the kernel. -/
import Derived.Test.YteahingapnijcaaDoorN1
namespace Nu9
set_option maxRecDepth 100000 in
theorem unrmn_rmn : ∀ n : Nat, n < 4000 → unrmn (rmn n) = n := by
  have : ∀ n : Fin 4000, unrmn (rmn n.1) = n.1 := by decide +kernel
  exact fun n h => this ⟨n, h⟩
set_option maxRecDepth 100000 in
theorem rsum_rmn : ∀ n : Nat, n < 4000 → rsum 20 (rmn n) = n := by
  have : ∀ n : Fin 4000, rsum 20 (rmn n.1) = n.1 := by decide +kernel
  exact fun n h => this ⟨n, h⟩
set_option maxRecDepth 100000 in
theorem rsum_up : ∀ n : Nat, n < 4000 → rsum 20 ((rmn n).map up) = n := by
  have : ∀ n : Fin 4000, rsum 20 ((rmn n.1).map up) = n.1 := by decide +kernel
  exact fun n h => this ⟨n, h⟩
set_option maxRecDepth 100000 in
theorem rmn_len : ∀ n : Nat, n < 4000 → (rmn n).length ≤ 15 := by
  have : ∀ n : Fin 4000, (rmn n.1).length ≤ 15 := by decide +kernel
  exact fun n h => this ⟨n, h⟩
set_option maxRecDepth 100000 in
theorem rmn_runs : ∀ n : Nat, n < 4000 → runs4 (rmn n) 0 0 = true := by
  have : ∀ n : Fin 4000, runs4 (rmn n.1) 0 0 = true := by decide +kernel
  exact fun n h => this ⟨n, h⟩
end Nu9
