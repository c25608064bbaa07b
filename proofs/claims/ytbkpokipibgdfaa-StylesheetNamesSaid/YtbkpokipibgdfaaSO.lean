/- Layer 8: arguments that are lists of styles. -/
import Derived.Test.YtbkpokipibgdfaaS4
import Derived.Test.YtbkpokipibgdfaaJ4
import Derived.Deep.Slices
namespace Go.Proofs.Ytbkpokipibgdfaa
open Go.RowKit Go.Lib Go.ChangeShapes Go.WideShapes
set_option linter.unusedVariables false

theorem c3' : Try.prog.cellsOf 3 = 1 := by kernel_rfl
theorem c9' : Try.prog.cellsOf 9 = 1 := by kernel_rfl
theorem c26' : Try.prog.cellsOf 26 = 1 := by kernel_rfl
theorem c28' : Try.prog.cellsOf 28 = 6 := by kernel_rfl
theorem wf_i64 {x : Int} (h : (Lit.int .i64 x).wf = true) : I64 x := by
  unfold I64
  simp [Lit.wf, IntKind.bits, IntKind.signed, IntKind.min, IntKind.max] at h
  omega
section
variable {H : Type} {enc : TypeId × Value → H} {w : World} {fuel : Nat}
theorem leaf {t e : TypeId} {cs : List Value} {x : DataW H × List MemPlace} (ht : Try.prog.underlying t = some (.slice e)) (h : DataW.trod enc Try.prog w 0 (fun _ => true) true fuel t cs = some x) : ∃ (A : Option Addr) (n c : Nat), cs = [.slice A n c] := by
  rcases Go.Deep.open_slice ht h with ⟨hcs, _⟩ | ⟨a, len', cap', m, n, D, Pl, hcs, _⟩
  · exact ⟨_, _, _, hcs⟩
  · exact ⟨_, _, _, hcs⟩
theorem addN {a : Addr} {w : World} {v : Value} (h : w.cell? (a.add 0) = some v) : a.spot = none := by simpa [Addr.add] using World.cell?_spot h
theorem add_lit' (b o i : Nat) : ((⟨b, o, none⟩ : Addr).add i) = ⟨b, o + i, none⟩ := by unfold Addr.add; split <;> simp_all
/-- What is sure of a style that came in. -/
def StIn (x : St) : Prop := I64 x.id ∧ I64 x.kind ∧ I64 x.base ∧ I64 x.next ∧ x.name.size ≤ maxLen ∧ ∀ y ∈ x.props, I64 y.1 ∧ I64 y.2
set_option maxRecDepth 100000 in
theorem open_style {cs : List Value} (hl : cs.length = 6) {x : DataW H × List MemPlace} (h : DataW.trod enc Try.prog w 0 (fun _ => true) true fuel 28 cs = some x) :
    ∃ (q : St) (B : Option Addr) (c : Nat), cs = [.int .i64 q.id, .int .i64 q.kind, .string q.name, .int .i64 q.base, .int .i64 q.next, .slice B q.props.length c] ∧ q.props.length ≤ c ∧ c ≤ maxLen ∧ PrAt w B q.props ∧ StIn q := by
  obtain ⟨xs, k, _, _, _, hxl, hf⟩ := DataW.trod_struct Try.underlying28 h
  match xs, hxl, cs, hl with
  | [y0, y1, y2, y3, y4, y5], _, [v0, v1, v2, v3, v4, v5], _ =>
    have g0 := hf 0 _ rfl
    have g1 := hf 1 _ rfl
    have g2 := hf 2 _ rfl
    have g3 := hf 3 _ rfl
    have g4 := hf 4 _ rfl
    have g5 := hf 5 _ rfl
    simp [c3', c9', c26'] at g0 g1 g2 g3 g4 g5
    obtain ⟨z0, p0, _, w0⟩ := DataW.trod_int Try.underlying3 g0
    obtain ⟨z1, p1, _, w1⟩ := DataW.trod_int Try.underlying3 g1
    obtain ⟨z2, p2, _, w2⟩ := DataW.trod_string Try.underlying9 g2
    obtain ⟨z3, p3, _, w3⟩ := DataW.trod_int Try.underlying3 g3
    obtain ⟨z4, p4, _, w4⟩ := DataW.trod_int Try.underlying3 g4
    obtain ⟨A, n, c, p5⟩ := leaf Try.underlying26 g5
    rw [p5] at g5
    obtain ⟨l, hl1, hl2, hl3, hl4, hl5⟩ := open_props g5
    simp only [List.cons.injEq, and_true] at p0 p1 p2 p3 p4 p5
    subst p0 p1 p2 p3 p4 p5 hl1
    exact ⟨⟨z0, z1, z2, z3, z4, l⟩, A, c, rfl, hl2, hl3, hl4, wf_i64 w0, wf_i64 w1, wf_i64 w3, wf_i64 w4, w2, fun y hy => ⟨wf_i64 (hl5 y hy).1, wf_i64 (hl5 y hy).2⟩⟩
set_option maxRecDepth 100000 in
theorem open_styles {cs : List Value} {x : DataW H × List MemPlace} (h : DataW.trod enc Try.prog w 0 (fun _ => true) true fuel 22 cs = some x) :
    ∃ (A : Option Addr) (c : Nat) (l : List St), cs = [.slice A l.length c] ∧ l.length ≤ c ∧ c ≤ maxLen ∧ LsAt w A l ∧ ∀ x ∈ l, StIn x := by
  rcases Go.Deep.open_slice Try.underlying22 h with ⟨hcs, _⟩ | ⟨a, len, cap, m, n, D, Pl, hcs, _, hl, hm, hmm, _, hat⟩
  · exact ⟨none, 0, [], hcs, Nat.le_refl _, by decide, .inl rfl, by simp⟩
  · simp only [if_true] at hmm
    subst hmm
    have each : ∀ i, i < len → ∃ q : St, w.cell? (a.add (i * 6)) ≠ none ∧ StIn q ∧ ∀ b o, a = ⟨b, o, none⟩ → StAt w b (o + i * 6) q := by
      intro i hi
      obtain ⟨cs', h1, h2⟩ := hat i (by omega)
      rw [c28'] at h1
      obtain ⟨_, hlen, hcell⟩ := World.cells?_some h1
      obtain ⟨q, B, c, hcs', p1, p2, p3, p4⟩ := open_style hlen h2
      subst hcs'
      refine ⟨q, ?_, p4, fun b o e => ?_⟩
      · have := hcell 0 (by omega)
        rw [Go.Deep.add_add] at this
        intro h
        rw [show i * 6 + 0 = i * 6 by omega, h] at this
        simp at this
      · subst e
        have ee := fun j (hj : j < 6) => hcell j hj
        simp only [add_lit'] at ee
        have e0 := ee 0 (by omega)
        have e1 := ee 1 (by omega)
        have e2 := ee 2 (by omega)
        have e3 := ee 3 (by omega)
        have e4 := ee 4 (by omega)
        have e5 := ee 5 (by omega)
        exact ⟨B, c, e0, e1, e2, e3, e4, e5, p1, p2, p3⟩
    obtain ⟨q, hq⟩ := Go.Deep.choose_lt each
    have hall : ∀ x ∈ (List.range len).map q, StIn x := by
      intro x hx
      obtain ⟨i, hi, rfl⟩ := List.mem_map.1 hx
      exact (hq i (List.mem_range.1 hi)).2.1
    refine ⟨some a, m, (List.range len).map q, by rw [hcs]; simp, by simpa using hl, hm, ?_, hall⟩
    by_cases h0 : len = 0
    · subst h0; exact .inl rfl
    obtain ⟨b, off, spot⟩ := a
    obtain ⟨v, hv⟩ := Option.ne_none_iff_exists'.1 (hq 0 (by omega)).1
    have hspot : spot = none := addN (a := ⟨b, off, spot⟩) (by simpa using hv)
    subst hspot
    have hg : b < w.heap.size := World.block_lt_of_cell? w ⟨b, off + 0 * 6, none⟩ (by rw [add_lit'] at hv; exact hv)
    refine .inr ⟨b, off, rfl, hg, fun k hk => ?_⟩
    have hk' : k < len := by simpa using hk
    simp only [List.getElem_map, List.getElem_range]
    exact (hq k hk').2.2 b off rfl
end
end Go.Proofs.Ytbkpokipibgdfaa
