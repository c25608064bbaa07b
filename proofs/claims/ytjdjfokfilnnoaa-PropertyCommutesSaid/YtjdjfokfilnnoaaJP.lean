/- Layer 7: arguments that are properties. -/
import Derived.Test.YtjdjfokfilnnoaaH8
import Derived.Lib.SmallJoins
import Derived.ChangeArms
namespace Go.Proofs.Ytjdjfokfilnnoaa
open Go.RowKit Go.Lib Go.ChangeShapes Go.WideShapes

theorem open_prop {H : Type} {enc : TypeId × Value → H} {w : World} {base b0 : Nat} {spare : Nat → Bool} {held : Bool} {r : Reach} {v : Value} {d : DataW H} {p : List MemPlace}
    (hv : Value.okWide Try.prog w r b0 57 v) (h : DataW.Trod enc Try.prog w base spare held 57 v d p) : ∃ a b : Int, v = .agg #[.int .i64 a, .int .i64 b] := by
  obtain ⟨v0, v1, y0, y1, n, rfl, _, _, t0, t1⟩ := Go.Joins.open_agg2 Try.underlying57 (by kernel_rfl) (by kernel_rfl) hv h
  obtain ⟨z0, e0, _, _⟩ := DataW.trod_int Try.underlying3 t0
  obtain ⟨z1, e1, _, _⟩ := DataW.trod_int Try.underlying3 t1
  simp only [List.cons.injEq, and_true] at e0 e1
  exact ⟨z0, z1, by rw [e0, e1]⟩
end Go.Proofs.Ytjdjfokfilnnoaa
