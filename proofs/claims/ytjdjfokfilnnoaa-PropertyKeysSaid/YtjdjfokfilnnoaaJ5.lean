/- Layer 7: Bounds; the law of keys. -/
import Derived.Test.YtjdjfokfilnnoaaJ3
import Derived.Test.YtjdjfokfilnnoaaHd
import Derived.Deep.QuietTactic
import Derived.BigQuiet
namespace Go.Proofs.Ytjdjfokfilnnoaa
open Go.RowKit Go.Lib

set_option maxRecDepth 100000 in
set_option maxHeartbeats 2000000 in
theorem bounds_no (p : Int) (hx : ¬ ∃ r ∈ tabP, r.1 = p) (w : World) : Calls Try.prog 15 #[.int .i64 p] w fun e w' => e = .returned (.tuple #[.int .i64 0, .int .i64 0, .int .i64 4]) ∧ Below w.heap.size w w' := by
  have cF := fun w' => find_no p hx w'
  clear hx
  go_enter Try.func15, Try.ntmps15
  go_wp2_with (go_at_call 46; (with_reducible refine (cF _).mono ?_); rintro e w1 ⟨rfl, hb1⟩)
  go_quiet (fail)
  go_wp2
  go_ret3
  exact ⟨rfl, bdrew (hb1.alloc hb1.size _) _⟩
set_option maxRecDepth 100000 in
set_option maxHeartbeats 2000000 in
theorem bounds_row (ra : Int) (rb : ByteArray) (rc rd re rf : Int) (hm : (ra, rb, rc, rd, re, rf) ∈ tabP) (w : World) : Calls Try.prog 15 #[.int .i64 ra] w fun e w' => e = .returned (.tuple #[.int .i64 rd, .int .i64 re, .int .i64 0]) ∧ Below w.heap.size w w' := by
  have cF := fun w' => find_row ra rb rc rd re rf hm w'
  clear hm
  go_enter Try.func15, Try.ntmps15
  go_wp2_with (go_at_call 46; (with_reducible refine (cF _).mono ?_); rintro e w1 ⟨rfl, hb1⟩)
  go_quiet (fail)
  go_wp2
  go_ret3
  exact ⟨rfl, bdrew (hb1.alloc hb1.size _) _⟩
end Go.Proofs.Ytjdjfokfilnnoaa
