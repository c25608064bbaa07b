import Derived.Test.YthjooopppidcfaaDoorKu
namespace Go.Proofs.YthjooopppidcfaaDoor
open Go.RowKit Go.Shelf
open Gc

set_option maxRecDepth 100000 in
set_option maxHeartbeats 2000000 in
theorem law_classes (p : Int) (w : World) (hT : Tabs w) : Calls Tryd.prog 3 #[.int .i64 p] w (BoolPost true w) := by
  have cK := known_any w hT
  have cA := fun w => sclass_any p w
  have cB := fun w => refClass3_any p w
  generalize Sg.classOf p = c at cA cB
  go_enter Tryd.func3, Tryd.ntmps3
  go_wp2_with (first
    | (go_at_call 12; (with_reducible refine cK.mono ?_); rintro e w1 ⟨rfl, b1⟩)
    | (go_at_call 13; (with_reducible refine (cA _).mono ?_); rintro e w2 ⟨rfl, b2⟩)
    | (go_at_call 14; (with_reducible refine (cB _).mono ?_); rintro e w3 ⟨rfl, b3⟩))
  go_ret
  exact ⟨ret_bool' (by simp), (b1.trans (b2.mono b1.size)).trans (b3.mono (Nat.le_trans b1.size b2.size))⟩
end Go.Proofs.YthjooopppidcfaaDoor
