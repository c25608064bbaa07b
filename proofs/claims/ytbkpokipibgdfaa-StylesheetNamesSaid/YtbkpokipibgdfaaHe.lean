/- Layer 7: CheckValue; Group, Bounds, Default, Name. -/
import Derived.Test.YtbkpokipibgdfaaHa
namespace Go.Proofs.Ytbkpokipibgdfaa
open Go.RowKit Go.Lib

/-- The error of a value of a row. -/
def valE (r : Row) (v : Int) : Int := if v < r.2.2.2.1 ∨ r.2.2.2.2.1 < v then 5 else 0
set_option maxRecDepth 100000 in
set_option maxHeartbeats 2000000 in
theorem checkv_no (p v : Int) (hx : ¬ ∃ r ∈ tabP, r.1 = p) (w : World) : Calls Try.prog 72 #[.int .i64 p, .int .i64 v] w fun e w' => e = .returned (.int .i64 4) ∧ Below w.heap.size w w' := by
  have cF := fun w' => find_no p hx w'
  clear hx
  go_enter Try.func72, Try.ntmps72
  go_wp2_with (go_at_call 88; (with_reducible refine (cF _).mono ?_); rintro e w1 ⟨rfl, hb1⟩)
  go_ret
  exact ⟨rfl, hb1.alloc hb1.size _⟩
set_option maxRecDepth 100000 in
set_option maxHeartbeats 2000000 in
theorem checkv_yes (p v : Int) (hx : ∃ r ∈ tabP, r.1 = p) (w : World) : Calls Try.prog 72 #[.int .i64 p, .int .i64 v] w fun e w' => (∃ r ∈ tabP, r.1 = p ∧ e = .returned (.int .i64 (valE r v))) ∧ Below w.heap.size w w' := by
  have cF := fun w' => find_yes p hx w'
  clear hx
  go_enter Try.func72, Try.ntmps72
  go_wp2_with fail
  refine (cF _).mono ?_
  rintro e w1 ⟨⟨⟨ra, rb, rc, rd, re, rf⟩, hr, hk, rfl⟩, hb1⟩
  have HR := Go.Lib.hid hr
  have HK := Go.Lib.hid hk
  clear hr hk
  clear cF
  by_cases h1 : v < rd
  · go_wp2
    go_ret
    exact ⟨⟨(ra, rb, rc, rd, re, rf), HR.out, HK.out, by unfold valE; rw [if_pos (.inl h1)]; rfl⟩, hb1.alloc hb1.size _⟩
  · by_cases h2 : re < v
    · go_wp2
      go_ret
      exact ⟨⟨(ra, rb, rc, rd, re, rf), HR.out, HK.out, by unfold valE; rw [if_pos (.inr h2)]; rfl⟩, hb1.alloc hb1.size _⟩
    · go_wp2
      go_ret
      exact ⟨⟨(ra, rb, rc, rd, re, rf), HR.out, HK.out, by unfold valE; rw [if_neg (by dsimp only; omega)]; rfl⟩, hb1.alloc hb1.size _⟩
end Go.Proofs.Ytbkpokipibgdfaa
