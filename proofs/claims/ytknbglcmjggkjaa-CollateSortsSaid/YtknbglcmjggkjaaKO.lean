/- Layer 6: options and three strings as arguments. -/
import Derived.Test.YtknbglcmjggkjaaK2
import Derived.Lib.SmallJoins
namespace Go.Proofs.Ytknbglcmjggkjaa
open Go.RowKit Go.Lib Co

set_option maxRecDepth 100000 in
theorem open_opts {H : Type} {enc : TypeId × Value → H} {w : World} {r : Reach} {b0 : Nat} {v : Value} {d : DataW H} {p : List MemPlace} (hv : Value.okWide Try.prog w r b0 23 v) (h : DataW.Trod enc Try.prog w 0 (fun _ => true) true 23 v d p) : ∃ (st : Int) (nu ig uf : Bool), v = opV st nu ig uf := by
  obtain ⟨v0, v1, v2, v3, y0, y1, y2, y3, n, rfl, _, _, t0, t1, t2, t3⟩ := Go.Joins.open_agg4 Try.underlying23 (by kernel_rfl) (by kernel_rfl) hv h
  obtain ⟨z0, e0, _, u0⟩ := DataW.trod_int Try.underlying3 t0
  obtain ⟨z1, e1, _⟩ := DataW.trod_bool Try.underlying4 t1
  obtain ⟨z2, e2, _⟩ := DataW.trod_bool Try.underlying4 t2
  obtain ⟨z3, e3, _⟩ := DataW.trod_bool Try.underlying4 t3
  simp only [List.cons.injEq, and_true] at e0 e1 e2 e3
  exact ⟨z0, z1, z2, z3, by rw [e0, e1, e2, e3]; rfl⟩
set_option maxRecDepth 100000 in
theorem open_three {H : Type} {enc : TypeId × Value → H} {w : World} {r : Reach} {b0 : Nat} {v : Value} {d : DataW H} {p : List MemPlace} (hv : Value.okWide Try.prog w r b0 49 v) (h : DataW.Trod enc Try.prog w 0 (fun _ => true) true 49 v d p) : ∃ a b c : ByteArray, v = .agg #[.string a, .string b, .string c] ∧ a.size ≤ maxLen ∧ b.size ≤ maxLen ∧ c.size ≤ maxLen := by
  obtain ⟨v0, v1, v2, y0, y1, y2, n, rfl, _, _, t0, t1, t2⟩ := Go.Joins.open_agg3 Try.underlying49 (by kernel_rfl) (by kernel_rfl) hv h
  obtain ⟨z0, e0, _, u0⟩ := DataW.trod_string Try.underlying9 t0
  obtain ⟨z1, e1, _, u1⟩ := DataW.trod_string Try.underlying9 t1
  obtain ⟨z2, e2, _, u2⟩ := DataW.trod_string Try.underlying9 t2
  simp only [List.cons.injEq, and_true] at e0 e1 e2
  exact ⟨z0, z1, z2, by rw [e0, e1, e2], u0, u1, u2⟩
end Go.Proofs.Ytknbglcmjggkjaa
