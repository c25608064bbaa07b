/- Layer 5: arguments that are arrays of numbers. -/
import Derived.Test.YtioehncdkdfcmaaJ4
import Derived.OpenShut
import Derived.Laws.IdiomArrays
namespace Go.Proofs.Ytioehncdkdfcmaa
open Go.RowKit Go.Lib Go.ChangeShapes Go.WideShapes

theorem list2 : ∀ (l : List Value), l.length = 2 → ∃ a b, l = [a, b]
  | [a, b], _ => ⟨a, b, rfl⟩
theorem list4 : ∀ (l : List Value), l.length = 4 → ∃ a b c d, l = [a, b, c, d]
  | [a, b, c, d], _ => ⟨a, b, c, d, rfl⟩
theorem cells51 : Try.prog.cellsOf 51 = 2 := by kernel_rfl
theorem cells57 : Try.prog.cellsOf 57 = 4 := by kernel_rfl
theorem cells63 : Try.prog.cellsOf 63 = 2 := by kernel_rfl
theorem cells3 : Try.prog.cellsOf 3 = 1 := by kernel_rfl
theorem cells5 : Try.prog.cellsOf 5 = 1 := by kernel_rfl
variable {H : Type} {enc : TypeId × Value → H} {w : World} {b0 : Nat} {r : Reach} {v : Value} {d : DataW H} {p : List MemPlace}
set_option maxRecDepth 100000 in
theorem open_u4 (hv : Value.okWide Try.prog w r b0 57 v) (h : DataW.Trod enc Try.prog w 0 (fun _ => true) true 57 v d p) : ∃ p0 p1 p2 p3 : Nat, v = .agg #[.int .u8 p0, .int .u8 p1, .int .u8 p2, .int .u8 p3] ∧ p0 < 256 ∧ p1 < 256 ∧ p2 < 256 ∧ p3 < 256 := by
  obtain ⟨cs, rfl, hsz, _⟩ : ∃ cs, v = .agg cs ∧ cs.size = Try.prog.cellsOf 57 ∧ Row.okWide Try.prog w r b0 57 cs := by
    simpa [Value.okWide, Try.underlying57] using hv
  rw [cells57] at hsz
  obtain ⟨l⟩ := cs
  obtain ⟨c0, c1, c2, c3, rfl⟩ := list4 l hsz
  obtain ⟨fuel, hf⟩ := h
  obtain ⟨y0, y1, y2, y3, m, _, hy0, hy1, hy2, hy3⟩ := trod_array4 Try.underlying57 cells5 hf
  obtain ⟨x0, e0, _, k0⟩ := DataW.trod_int Try.underlying5 hy0
  obtain ⟨x1, e1, _, k1⟩ := DataW.trod_int Try.underlying5 hy1
  obtain ⟨x2, e2, _, k2⟩ := DataW.trod_int Try.underlying5 hy2
  obtain ⟨x3, e3, _, k3⟩ := DataW.trod_int Try.underlying5 hy3
  simp only [List.cons.injEq, and_true] at e0 e1 e2 e3
  subst e0 e1 e2 e3
  obtain ⟨n0, rfl, j0⟩ := wf_u8 k0
  obtain ⟨n1, rfl, j1⟩ := wf_u8 k1
  obtain ⟨n2, rfl, j2⟩ := wf_u8 k2
  obtain ⟨n3, rfl, j3⟩ := wf_u8 k3
  exact ⟨n0, n1, n2, n3, rfl, j0, j1, j2, j3⟩
set_option maxRecDepth 100000 in
theorem open_two {t e : TypeId} (ht : Try.prog.underlying t = some (.array 2 e)) (hct : Try.prog.cellsOf t = 2) (hce : Try.prog.cellsOf e = 1) (hv : Value.okWide Try.prog w r b0 t v) (h : DataW.Trod enc Try.prog w 0 (fun _ => true) true t v d p) :
    ∃ c0 c1 y0 y1 m, v = .agg #[c0, c1] ∧ DataW.trod enc Try.prog w 0 (fun _ => true) true m e [c0] = some y0 ∧ DataW.trod enc Try.prog w 0 (fun _ => true) true m e [c1] = some y1 := by
  obtain ⟨cs, rfl, hsz, _⟩ : ∃ cs, v = .agg cs ∧ cs.size = Try.prog.cellsOf t ∧ Row.okWide Try.prog w r b0 t cs := by
    simpa [Value.okWide, ht] using hv
  rw [hct] at hsz
  obtain ⟨l⟩ := cs
  obtain ⟨c0, c1, rfl⟩ := list2 l hsz
  obtain ⟨fuel, hf⟩ := h
  obtain ⟨xs, m, _, _, _, hl, hel⟩ := DataW.trod_array ht hf
  match xs, hl with
  | [y0, y1], _ =>
    have g0 := hel 0 (by decide)
    have g1 := hel 1 (by decide)
    simp [hce, Value.cells] at g0 g1
    exact ⟨c0, c1, y0, y1, m, rfl, g0, g1⟩
set_option maxRecDepth 100000 in
theorem open_i2 (hv : Value.okWide Try.prog w r b0 51 v) (h : DataW.Trod enc Try.prog w 0 (fun _ => true) true 51 v d p) : ∃ x y : Int, v = .agg #[.int .i64 x, .int .i64 y] ∧ (Lit.int .i64 x).wf = true ∧ (Lit.int .i64 y).wf = true := by
  obtain ⟨c0, c1, y0, y1, m, rfl, g0, g1⟩ := open_two Try.underlying51 cells51 cells3 hv h
  obtain ⟨x0, e0, _, k0⟩ := DataW.trod_int Try.underlying3 g0
  obtain ⟨x1, e1, _, k1⟩ := DataW.trod_int Try.underlying3 g1
  simp only [List.cons.injEq, and_true] at e0 e1
  exact ⟨x0, x1, by rw [e0, e1], k0, k1⟩
set_option maxRecDepth 100000 in
theorem open_u2 (hv : Value.okWide Try.prog w r b0 63 v) (h : DataW.Trod enc Try.prog w 0 (fun _ => true) true 63 v d p) : ∃ p0 p1 : Nat, v = .agg #[.int .u8 p0, .int .u8 p1] ∧ p0 < 256 ∧ p1 < 256 := by
  obtain ⟨c0, c1, y0, y1, m, rfl, g0, g1⟩ := open_two Try.underlying63 cells63 cells5 hv h
  obtain ⟨x0, e0, _, k0⟩ := DataW.trod_int Try.underlying5 g0
  obtain ⟨x1, e1, _, k1⟩ := DataW.trod_int Try.underlying5 g1
  simp only [List.cons.injEq, and_true] at e0 e1
  obtain ⟨n0, rfl, j0⟩ := wf_u8 k0
  obtain ⟨n1, rfl, j1⟩ := wf_u8 k1
  exact ⟨n0, n1, by rw [e0, e1], j0, j1⟩
end Go.Proofs.Ytioehncdkdfcmaa
