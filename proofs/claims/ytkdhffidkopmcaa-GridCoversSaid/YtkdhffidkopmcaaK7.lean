/- Layer 12: an area as an argument. -/
import Derived.Test.YtkdhffidkopmcaaK6
import Derived.Lib.SmallJoins
namespace Go.Proofs.Ytkdhffidkopmcaa
open Go.RowKit Go.Lib Go.ChangeShapes Go.WideShapes Go.ChangeAt
set_option maxRecDepth 100000 in
theorem open_area {H : Type} {enc : TypeId × Value → H} {w : World} {r : Reach} {b0 : Nat} {v : Value} {d : DataW H} {p : List MemPlace} (hv : Value.okWide Try.prog w r b0 48 v) (h : DataW.Trod enc Try.prog w 0 (fun _ => true) true 48 v d p) : ∃ a b c e : Int, v = .agg #[.int .i64 a, .int .i64 b, .int .i64 c, .int .i64 e] := by
  obtain ⟨v0, v1, v2, v3, y0, y1, y2, y3, n, rfl, _, _, t0, t1, t2, t3⟩ := Go.Joins.open_agg4 Try.underlying48 (by kernel_rfl) (by kernel_rfl) hv h
  obtain ⟨z0, e0, _, u0⟩ := DataW.trod_int Try.underlying3 t0
  obtain ⟨z1, e1, _, u1⟩ := DataW.trod_int Try.underlying3 t1
  obtain ⟨z2, e2, _, u2⟩ := DataW.trod_int Try.underlying3 t2
  obtain ⟨z3, e3, _, u3⟩ := DataW.trod_int Try.underlying3 t3
  simp only [List.cons.injEq, and_true] at e0 e1 e2 e3
  exact ⟨z0, z1, z2, z3, by rw [e0, e1, e2, e3]⟩
end Go.Proofs.Ytkdhffidkopmcaa
