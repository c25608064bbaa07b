/- Layer 7: Group, Default, Name. -/
import Derived.Test.YtbkpokipibgdfaaHa
namespace Go.Proofs.Ytbkpokipibgdfaa
open Go.RowKit Go.Lib

set_option maxRecDepth 100000 in
set_option maxHeartbeats 2000000 in
theorem group_no (p : Int) (hx : ¬ ∃ r ∈ tabP, r.1 = p) (w : World) : Calls Try.prog 77 #[.int .i64 p] w fun e w' => e = .returned (.tuple #[.int .i64 0, .int .i64 4]) ∧ Below w.heap.size w w' := by
  have cF := fun w' => find_no p hx w'
  clear hx
  go_enter Try.func77, Try.ntmps77
  go_wp2_with (go_at_call 88; (with_reducible refine (cF _).mono ?_); rintro e w1 ⟨rfl, hb1⟩)
  first
    | go_ret2
    | go_ret
    | (refine bodyPost_ret (results_tmp3 rfl _ _ _) rfl ?_)
  exact ⟨rfl, hb1.alloc hb1.size _⟩
set_option maxRecDepth 100000 in
set_option maxHeartbeats 2000000 in
theorem group_yes (p : Int) (hx : ∃ r ∈ tabP, r.1 = p) (w : World) : Calls Try.prog 77 #[.int .i64 p] w fun e w' => (∃ r ∈ tabP, r.1 = p ∧ e = .returned (.tuple #[.int .i64 r.2.2.1, .int .i64 0])) ∧ Below w.heap.size w w' := by
  have cF := fun w' => find_yes p hx w'
  clear hx
  go_enter Try.func77, Try.ntmps77
  go_wp2_with fail
  refine (cF _).mono ?_
  rintro e w1 ⟨⟨⟨ra, rb, rc, rd, re, rf⟩, hr, hk, rfl⟩, hb1⟩
  have HR := Go.Lib.hid hr
  have HK := Go.Lib.hid hk
  clear hr hk cF
  go_wp2
  first
    | go_ret2
    | go_ret
    | (refine bodyPost_ret (results_tmp3 rfl _ _ _) rfl ?_)
  exact ⟨⟨(ra, rb, rc, rd, re, rf), HR.out, HK.out, rfl⟩, hb1.alloc hb1.size _⟩
set_option maxRecDepth 100000 in
set_option maxHeartbeats 2000000 in
theorem preset_no (p : Int) (hx : ¬ ∃ r ∈ tabP, r.1 = p) (w : World) : Calls Try.prog 82 #[.int .i64 p] w fun e w' => e = .returned (.tuple #[.int .i64 0, .int .i64 4]) ∧ Below w.heap.size w w' := by
  have cF := fun w' => find_no p hx w'
  clear hx
  go_enter Try.func82, Try.ntmps82
  go_wp2_with (go_at_call 88; (with_reducible refine (cF _).mono ?_); rintro e w1 ⟨rfl, hb1⟩)
  first
    | go_ret2
    | go_ret
    | (refine bodyPost_ret (results_tmp3 rfl _ _ _) rfl ?_)
  exact ⟨rfl, hb1.alloc hb1.size _⟩
set_option maxRecDepth 100000 in
set_option maxHeartbeats 2000000 in
theorem preset_yes (p : Int) (hx : ∃ r ∈ tabP, r.1 = p) (w : World) : Calls Try.prog 82 #[.int .i64 p] w fun e w' => (∃ r ∈ tabP, r.1 = p ∧ e = .returned (.tuple #[.int .i64 r.2.2.2.2.2, .int .i64 0])) ∧ Below w.heap.size w w' := by
  have cF := fun w' => find_yes p hx w'
  clear hx
  go_enter Try.func82, Try.ntmps82
  go_wp2_with fail
  refine (cF _).mono ?_
  rintro e w1 ⟨⟨⟨ra, rb, rc, rd, re, rf⟩, hr, hk, rfl⟩, hb1⟩
  have HR := Go.Lib.hid hr
  have HK := Go.Lib.hid hk
  clear hr hk cF
  go_wp2
  first
    | go_ret2
    | go_ret
    | (refine bodyPost_ret (results_tmp3 rfl _ _ _) rfl ?_)
  exact ⟨⟨(ra, rb, rc, rd, re, rf), HR.out, HK.out, rfl⟩, hb1.alloc hb1.size _⟩
end Go.Proofs.Ytbkpokipibgdfaa
