/- Layer 7: Fits. -/
import Derived.Test.YtbkpokipibgdfaaHa
import Derived.Test.YtbkpokipibgdfaaH9
namespace Go.Proofs.Ytbkpokipibgdfaa
open Go.RowKit Go.Lib

set_option maxRecDepth 100000 in
set_option maxHeartbeats 2000000 in
theorem fits_no (x p : Int) (hx : ¬ ∃ r ∈ tabP, r.1 = p) (w : World) : Calls Try.prog 71 #[.int .i64 x, .int .i64 p] w fun e w' => e = .returned (.bool false) ∧ Below w.heap.size w w' := by
  have cF := fun w' => find_no p hx w'
  clear hx
  go_enter Try.func71, Try.ntmps71
  go_wp2_with (go_at_call 88; (with_reducible refine (cF _).mono ?_); rintro e w1 ⟨rfl, hb1⟩)
  go_ret
  exact ⟨rfl, hb1.alloc hb1.size _⟩
set_option maxRecDepth 100000 in
set_option maxHeartbeats 2000000 in
theorem fits_yes (x p : Int) (hx : ∃ r ∈ tabP, r.1 = p) (w : World) : Calls Try.prog 71 #[.int .i64 x, .int .i64 p] w fun e w' => (∃ r ∈ tabP, r.1 = p ∧ e = .returned (.bool (hasG x r.2.2.1))) ∧ Below w.heap.size w w' := by
  have cF := fun w' => find_yes p hx w'
  have cG := fun g w' => hasG_any x g w'
  clear hx
  go_enter Try.func71, Try.ntmps71
  go_wp2_with (first
    | (go_at_call 88; (with_reducible refine (cF _).mono ?_); rintro e w1 ⟨⟨⟨ra, rb, rc, rd, re, rf⟩, hr, hk, rfl⟩, hb1⟩; have HR := Go.Lib.hid hr; have HK := Go.Lib.hid hk; clear hr hk; dsimp only)
    | (go_at_call 89; (with_reducible refine (cG _ _).mono ?_); rintro e w2 ⟨rfl, rfl⟩))
  go_ret
  exact ⟨⟨_, HR.out, HK.out, rfl⟩, hb1.alloc hb1.size _⟩
end Go.Proofs.Ytbkpokipibgdfaa
