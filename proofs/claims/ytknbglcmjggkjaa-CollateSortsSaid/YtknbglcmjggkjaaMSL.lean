/- Layer 6: a row of strings that came in, opened. -/
import Derived.Test.YtknbglcmjggkjaaMSI
import Derived.Test.YtknbglcmjggkjaaKO
import Derived.Deep.Strs
namespace Go.Proofs.Ytknbglcmjggkjaa
open Go.RowKit Go.Shelf Go.Lib Go.ChangeShapes Go.WideShapes

theorem cells9 : Try.prog.cellsOf 9 = 1 := by kernel_rfl
set_option maxRecDepth 100000 in
theorem open_strsIn {H : Type} {enc : TypeId × Value → H} {w : World} {base : Nat} {v : Value} {d : DataW H} {p : List MemPlace} (hv : Value.okWide Try.prog w .any base 56 v)
    (h : DataW.Trod enc Try.prog w 0 (fun _ => true) true 56 v d p) : StrsIn w v := by
  obtain ⟨A, len, cap, rfl⟩ := okWide_slice Try.underlying56 hv
  obtain ⟨fuel, hf⟩ := h
  rcases Go.Deep.open_strs (e := 9) Try.underlying56 Try.underlying9 cells9 hf with ⟨h0, _⟩ | ⟨a, len', cap', m, S, h0, _, hl, hm, hmm, hx, hc⟩
  · left
    simpa [Value.cells] using h0
  · right
    have h0' : len = len' ∧ cap = cap' ∧ A = some a := by
      simp [Value.cells] at h0
      exact ⟨h0.2.1, h0.2.2, h0.1⟩
    obtain ⟨rfl, rfl, rfl⟩ := h0'
    simp only [if_true] at hmm
    subst hmm
    refine ⟨a, len, m, S, rfl, fun h0 => ?_, hl, hm, fun i hi => hc i (by omega)⟩
    exact World.block_lt_of_cell? w _ (by have := (hc 0 (by omega)).1; simpa [Addr.add] using this)
end Go.Proofs.Ytknbglcmjggkjaa
