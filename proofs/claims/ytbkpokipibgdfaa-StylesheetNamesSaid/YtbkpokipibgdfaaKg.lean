/- Layer 7: Value; the law of Get. -/
import Derived.Test.YtbkpokipibgdfaaJ8
import Derived.Deep.RegionHeld3
namespace Go.Proofs.Ytbkpokipibgdfaa
open Go.RowKit Go.Lib

/-- What hands back a list of n properties. -/
def OutP (o : List Pr) (n : Nat) (w : World) (e : Ending) (w' : World) : Prop := ∃ B cb, e = .returned (.slice B n cb) ∧ n ≤ cb ∧ cb ≤ maxLen ∧ PrAt w' B o ∧ Below w.heap.size w w'
theorem PRet.out {o : List Pr} {n : Nat} {w w' : World} {e : Ending} (h : PRet o w e w') (hn : o.length = n) : OutP o n w e w' := by
  obtain ⟨v, rfl, ⟨A, c, rfl, h1, h2, h3⟩, h4⟩ := h
  subst hn
  exact ⟨A, c, rfl, h1, h2, h3, h4⟩
section
variable (o : List Pr) (hs : SortP o) (B : Option Addr) (n cb : Nat) (ho : o.length = n) (hn : n ≤ 1000) (hc : n ≤ cb ∧ cb ≤ maxLen) (p : Int)
include hs ho hn hc
set_option maxRecDepth 100000 in
set_option maxHeartbeats 4000000 in
theorem value_yes (hb : getB o p = true) (w : World) (hB : PrAt w B o) : Calls Try.prog 73 #[.slice B n cb, .int .i64 p] w fun e w' => e = .returned (.int .i64 (getV o p)) ∧ Below w.heap.size w w' := by
  have cG := fun w' hB => get_any o hs B n cb ho hn hc p w' hB
  rw [hb] at cG
  clear hb ho
  go_enter Try.func73, Try.ntmps73
  go_wp2_with (go_at_call 90; (with_reducible refine (cG _ hB).mono ?_); rintro e w1 ⟨rfl, hb1⟩)
  go_ret
  exact ⟨rfl, hb1⟩
set_option maxRecDepth 100000 in
set_option maxHeartbeats 4000000 in
theorem value_no (hb : getB o p = false) (d e0 : Int) (cD : ∀ w', Calls Try.prog 82 #[.int .i64 p] w' fun e w'' => e = .returned (.tuple #[.int .i64 d, .int .i64 e0]) ∧ Below w'.heap.size w' w'') (w : World) (hB : PrAt w B o) :
    Calls Try.prog 73 #[.slice B n cb, .int .i64 p] w fun e w' => e = .returned (.int .i64 d) ∧ Below w.heap.size w w' := by
  have cG := fun w' hB => get_any o hs B n cb ho hn hc p w' hB
  rw [hb] at cG
  clear hb ho
  go_enter Try.func73, Try.ntmps73
  go_wp2_with (first
    | (go_at_call 90; (with_reducible refine (cG _ hB).mono ?_); rintro e w1 ⟨rfl, hb1⟩)
    | (go_at_call 82; (with_reducible refine (cD _).mono ?_); rintro e w2 ⟨rfl, hb2⟩))
  go_ret
  exact ⟨rfl, hb1.trans (hb2.mono hb1.size)⟩
end

end Go.Proofs.Ytbkpokipibgdfaa
