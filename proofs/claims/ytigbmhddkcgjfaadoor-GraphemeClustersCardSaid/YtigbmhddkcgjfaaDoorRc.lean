import Derived.Test.YtigbmhddkcgjfaaDoorRb
namespace Go.Proofs.YtigbmhddkcgjfaaDoor
open Go.RowKit Go.Shelf
open Gc

set_option maxRecDepth 100000 in
set_option maxHeartbeats 2000000 in
theorem regionals_any (cs : List Int) (g cap n at' : Nat) (hn : cs.length = n) (hl : n ≤ 100000) (h2 : at' ≤ n) (w : World) (hC : Cs w g cs) :
    Calls Tryd.prog 53 #[.slice (some ⟨g, 0, none⟩) n cap, .int .i64 (at' : Nat)] w fun e w' => e = .returned (.int .i64 (regs (rv cs at') : Nat)) ∧ w = w' := by
  have HC := Go.Lib.hid hC
  clear hC
  have N := Go.Lib.hid hn
  clear hn
  generalize hR : regs (rv cs at') = R
  have HR := Go.Lib.hid hR
  clear hR
  go_enter Tryd.func53, Tryd.ntmps53
  go_wp2
  go_loop [5] (fun i => ∃ m q : Nat, at' = m + q ∧ i = .int .i64 (m : Nat) ∧ Hid (R = m + regs (rv cs q))) (fun i => at' - (intOf i).toNat)
  case atStart => exact ⟨0, at', by omega, rfl, Go.Lib.hid (by rw [← HR.out]; omega)⟩
  case round =>
    obtain ⟨m, q, hq, rfl, HP⟩ := hrel
    cases q with
    | zero =>
      have hm : at' = m := by omega
      have hr : R = m := by have := HP.out; rw [rv_zero] at this; simpa [regs] using this
      subst hr
      have hnl : ¬ R < at' := by omega
      go_wp2
      go_ret
      exact ⟨rfl, rfl⟩
    | succ q =>
      have hlt : m < at' := by omega
      have hk : q < cs.length := by have := N.out; omega
      have hck := HC.out.2 q hk
      have hp := rv_succ cs q hk
      have hi : ((at' : Int) - 1 - (m : Int)) = (q : Int) := by omega
      have hq2 : q < n := by omega
      generalize cs[q] = y at hck hp
      by_cases hy : y = 13
      · subst hy
        have H2 := Go.Lib.hid (show R = (m + 1) + regs (rv cs q) by rw [HP.out, hp]; simp [regs]; omega)
        clear hp hq
        go_wp2
        go_round
        case rel => exact ⟨m + 1, q, by omega, by go_num, H2⟩
        case measure => simp [intOf]; omega
      · have b4 : (y == 13) = false := by simp [hy]
        have hr : R = m := by rw [HP.out, hp]; simp [regs, hy]
        subst hr
        clear hp hq hy
        go_wp2
        go_ret
        exact ⟨rfl, rfl⟩
end Go.Proofs.YtigbmhddkcgjfaaDoor
