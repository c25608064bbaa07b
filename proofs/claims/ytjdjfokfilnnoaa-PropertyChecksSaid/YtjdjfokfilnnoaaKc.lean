/- Layer 7: the law of Check. -/
import Derived.Test.YtjdjfokfilnnoaaJJ
import Derived.Test.YtjdjfokfilnnoaaKe
namespace Go.Proofs.Ytjdjfokfilnnoaa
open Go.RowKit Go.Lib

set_option maxRecDepth 100000 in
set_option maxHeartbeats 4000000 in
theorem check_bad (x : Int) (A : Option Addr) (len c : Nat) (l : List Pr) (hx : ¬ (1 ≤ x ∧ x ≤ 10)) (w : World) :
    Calls Try.prog 27 #[.int .i64 x, .slice A len c] w fun e w' => e = .returned (.int .i64 (chkP x l)) ∧ Below w.heap.size w w' := by
  have cE := fun w' => elem_any x w'
  have hb : (decide (1 ≤ x) && decide (x ≤ 10)) = false := by
    cases h1 : decide (1 ≤ x) with
    | false => rfl
    | true =>
      cases h2 : decide (x ≤ 10) with
      | false => rfl
      | true => exact absurd ⟨of_decide_eq_true h1, of_decide_eq_true h2⟩ hx
  rw [hb] at cE
  have HR := Go.Lib.hid (chk_bad (l := l) hx)
  clear hx hb
  go_enter Try.func27, Try.ntmps27
  go_wp2_with (go_at_call 50; (with_reducible refine (cE _).mono ?_); rintro e w1 ⟨rfl, rfl⟩)
  go_ret
  exact ⟨ret_int' HR.out.symm, Below.refl _ _⟩
set_option maxRecDepth 100000 in
set_option maxHeartbeats 4000000 in
theorem rcheck_bad (x : Int) (A : Option Addr) (len c : Nat) (l : List Pr) (hx : ¬ (1 ≤ x ∧ x ≤ 10)) (w : World) :
    Calls Try.prog 28 #[.int .i64 x, .slice A len c] w fun e w' => e = .returned (.int .i64 (chkP x l)) ∧ Below w.heap.size w w' := by
  have HR := Go.Lib.hid (chk_bad (l := l) hx)
  by_cases h1 : x < 1
  · clear hx
    go_enter Try.func28, Try.ntmps28
    go_wp2
    go_ret
    exact ⟨ret_int' HR.out.symm, Below.refl _ _⟩
  · have h1' : decide (x < 1) = false := decide_eq_false h1
    have h2 : 10 < x := by omega
    clear hx
    go_enter Try.func28, Try.ntmps28
    go_wp2
    go_ret
    exact ⟨ret_int' HR.out.symm, Below.refl _ _⟩
theorem check_any (x : Int) (A : Option Addr) (len c : Nat) (l : List Pr) (hl : l.length = len) (hc : len ≤ c ∧ c ≤ maxLen) (w : World) (hA : PrAt w A l) :
    Calls Try.prog 27 #[.int .i64 x, .slice A len c] w fun e w' => e = .returned (.int .i64 (chkP x l)) ∧ Below w.heap.size w w' := by
  by_cases hx : 1 ≤ x ∧ x ≤ 10
  · exact check_in x A len c l hl hc hx w hA
  · exact check_bad x A len c l hx w
theorem rcheck_any (x : Int) (A : Option Addr) (len c : Nat) (l : List Pr) (hl : l.length = len) (hc : len ≤ c ∧ c ≤ maxLen) (w : World) (hA : PrAt w A l) :
    Calls Try.prog 28 #[.int .i64 x, .slice A len c] w fun e w' => e = .returned (.int .i64 (chkP x l)) ∧ Below w.heap.size w w' := by
  by_cases hx : 1 ≤ x ∧ x ≤ 10
  · exact rcheck_in x A len c l hl hc hx w hA
  · exact rcheck_bad x A len c l hx w
set_option maxRecDepth 100000 in
set_option maxHeartbeats 8000000 in
theorem checks_in (x : Int) (A : Option Addr) (n n1 c : Nat) (l : List Pr) (hl : l.length = n1) (hn : n ≤ c) (hn1 : n1 ≤ n) (hc : c ≤ maxLen) (e1 : (n1 = n ∧ n ≤ 100) ∨ (n1 = 100 ∧ 100 < n)) (w : World) (hA : PrAt w A l) :
    Calls Try.prog 6 #[.int .i64 x, .slice A n c] w fun e w' => e = .returned (.bool true) ∧ Below w.heap.size w w' := by
  have cK := fun w' => known_any w'
  have cC := fun w' hA => check_any x A n1 c l hl ⟨by omega, hc⟩ w' hA
  have cR := fun w' hA => rcheck_any x A n1 c l hl ⟨by omega, hc⟩ w' hA
  generalize chkP x l = v at cC cR
  have hc' := hc
  unfold maxLen at hc'
  clear hl
  rcases e1 with ⟨rfl, h1⟩ | ⟨rfl, h1⟩
  have g1 : min (n1 : Int) 100 = (n1 : Int) := by omega
  rotate_left
  have g1 : min (n : Int) 100 = 100 := by omega
  all_goals
    go_enter Try.func6, Try.ntmps6
    go_wp2_with fail
    refine (cK _).mono ?_
    rintro e w1 ⟨rfl, hb1⟩
    have hA1 := hA.below hb1 (Nat.le_refl _)
    go_wp2_with fail
    refine (cC _ hA1).mono ?_
    rintro e w2 ⟨rfl, hb2⟩
    have hA2 := hA1.below hb2 (Nat.le_refl _)
    go_wp2_with fail
    refine (cR _ hA2).mono ?_
    rintro e w3 ⟨rfl, hb3⟩
    go_wp2
    go_ret
    exact ⟨ret_bool' (by simp), (hb1.trans (hb2.mono hb1.size)).trans (hb3.mono (Nat.le_trans hb1.size hb2.size))⟩
theorem law_checks (x : Int) (A : Option Addr) (len c : Nat) (l : List Pr) (w : World) (hA : PropsIn w A len c l) : Calls Try.prog 6 #[.int .i64 x, .slice A len c] w fun e w' => e = .returned (.bool true) ∧ Below w.heap.size w w' := by
  obtain ⟨n1, h1, h2, h3, _⟩ := hA.cut 100
  exact checks_in x A len n1 c _ h1 hA.2.1 h3 hA.2.2.1 h2 w (hA.2.2.2.1.take _)
end Go.Proofs.Ytjdjfokfilnnoaa
