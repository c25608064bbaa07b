/- Layer 12: a table as an argument. -/
import Derived.Test.YtkdhffidkopmcaaK5
import Derived.WalkKit
import Derived.ProofKit
import Derived.OpenShut
import Derived.ChangeOld
import Derived.Below
namespace Go.Proofs.Ytkdhffidkopmcaa
open Go.RowKit Go.Lib Go.ChangeShapes Go.WideShapes Go.ChangeAt
set_option maxRecDepth 100000 in
theorem open_rowsIn {H : Type} {enc : TypeId × Value → H} {w : World} {base : Nat} {v : Value} {d : DataW H} {p : List MemPlace} (hv : Value.okWide Try.prog w .any base 22 v)
    (h : DataW.Trod enc Try.prog w 0 (fun _ => true) true 22 v d p) : ∃ (A : Option Addr) (c : Nat) (T : List (List Cl)), v = .slice A T.length c ∧ T.length ≤ c ∧ c ≤ maxLen ∧ TbAt w A T := by
  obtain ⟨A, len, cap, rfl⟩ := okWide_slice Try.underlying22 hv
  obtain ⟨fuel, hf⟩ := h
  obtain ⟨A', c, T, h0, h1, h2, h3⟩ := open_rows hf
  have h0' : A = A' ∧ len = T.length ∧ cap = c := by simpa [Value.cells] using h0
  obtain ⟨rfl, rfl, rfl⟩ := h0'
  exact ⟨A, cap, T, rfl, h1, h2, h3⟩
end Go.Proofs.Ytkdhffidkopmcaa
