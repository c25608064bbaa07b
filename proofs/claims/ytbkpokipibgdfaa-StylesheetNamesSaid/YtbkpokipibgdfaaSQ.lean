/- Layer 8: pick (55). -/
import Derived.Test.YtbkpokipibgdfaaSP
namespace Go.Proofs.Ytbkpokipibgdfaa
open Go.RowKit Go.Lib
set_option linter.unusedVariables false

set_option maxRecDepth 100000 in
set_option maxHeartbeats 8000000 in
theorem pick_any (gr : Int) (l : List Pr) (n c : Nat) (hn : l.length = n) (h1000 : n ≤ 1000) (A : Option Addr) (hc : n ≤ c ∧ c ≤ maxLen) (w : World) (hA : PrAt w A l) :
    Calls Try.prog 55 #[.int .i64 gr, .slice A n c] w fun e w' => ∃ B k cap, e = .returned (.slice B k cap) ∧ (keepP gr l).length = k ∧ w'.ownsRow w.heap.size 55 2 (.slice B k cap) k (rowP (keepP gr l)) ∧ Below w.heap.size w w' := by
  have hb0 := (Below.refl w.heap.size w).alloc (Nat.le_refl _) (.cells #[.int .i64 gr] 3)
  have b0 := Boxed.new w 3 (.int .i64 gr)
  have s0 := hb0.size
  have cC := clone_any A n c l hn hc h1000 (w.alloc (.cells #[.int .i64 gr] 3)) (hA.below hb0 (Nat.le_refl _))
  have CD := Lib.hid (fun B cap w1 (hb : w.heap.size + 1 ≤ w1.heap.size) (ho : w1.ownsRow (w.heap.size + 1) 55 2 (.slice B n cap) n (rowP l)) hg => delfunc_any l n cap hn h1000 B (w.heap.size + 1) gr w.heap.size (by omega) w1 hb ho hg)
  clear hA hn
  go_enter Try.func55, Try.ntmps55
  go_wp2_with fail
  (with_reducible refine cC.mono ?_)
  rintro e w1 ⟨B, cb, rfl, hown, k1⟩
  have hs1 := k1.size
  rw [World.size_alloc] at hs1 hown k1
  have g1 := (boxed_below b0 (by rw [World.size_alloc]; exact k1)).cell
  have cD := CD.out B cb w1 hs1 hown g1
  have K1 := Lib.hid (hb0.trans (k1.mono (by omega)))
  clear cC b0 hb0 k1 g1
  go_wp2_with fail
  (with_reducible refine cD.mono ?_)
  rintro e w2 ⟨k, rfl, hk, hr, k2⟩
  clear cD
  go_wp2
  go_ret
  exact ⟨B, k, cb, rfl, hk, own_lower hr (by omega), K1.out.trans (k2.mono (by omega))⟩
end Go.Proofs.Ytbkpokipibgdfaa
