/- Layer 12: the map of squares. -/
import Derived.Test.YtkdhffidkopmcaaA9
import Derived.Maps.Own
import Derived.Maps.OwnSet
import Derived.Maps.Views
import Derived.DeepKeys4
namespace Go.Proofs.Ytkdhffidkopmcaa
open Go.RowKit Go.Lib Go.Maps
set_option linter.unusedVariables false

theorem laidOut0 : laidOutB Try.prog = true := by kernel_rfl
theorem row90 : (90 : TypeId) < Try.prog.types.size := of_decide_eq_true (by kernel_rfl)
theorem wide90 : (match Try.prog.underlying 90 with | some (.array _ _) | some (.struct _) => true | _ => false) = true := by kernel_rfl
theorem deep90 : Try.prog.keyTypeAt 2 90 = true := by kernel_rfl
set_option maxRecDepth 100000 in
theorem keyed90 : Keyed Try.prog 90 := Keyed.of_law (deep_law_laid laidOut0 (m := 2) (by omega) row90 deep90 wide90)
def I64 (x : Int) : Prop := -9223372036854775808 ≤ x ∧ x ≤ 9223372036854775807
theorem i64_wf {x : Int} (h : I64 x) : (Lit.int .i64 x).wf = true := by
  unfold I64 at h
  simp [Lit.wf, IntKind.bits, IntKind.signed, IntKind.min, IntKind.max]
  omega
def sq (r c : Int) : Value := .agg #[.int .i64 r, .int .i64 c]
theorem type90 : Try.prog.keyType 90 = true := by kernel_rfl
theorem formed90 (r c : Int) : (sq r c).formed Try.prog 90 = true := by
  have h : Try.prog.cellsOf 90 = 2 := by kernel_rfl
  simp [Value.formed, sq, Try.underlying90, h]
theorem size_types : ∃ m, Try.prog.types.size = m + 1 := by
  have h : 90 < Try.prog.types.size := row90
  exact ⟨Try.prog.types.size - 1, by omega⟩
theorem lits90 {r c : Int} (hr : I64 r) (hc : I64 c) (n : Nat) : Try.prog.keyLits (n + 2) 90 [.int .i64 r, .int .i64 c] = some [.int .i64 r, .int .i64 c] := by
  have h2 : Try.prog.cellsOf 90 = 2 := by kernel_rfl
  have h1 : Try.prog.cellsOf 3 = 1 := by kernel_rfl
  have w1 := i64_wf hr
  have w2 := i64_wf hc
  unfold Program.keyLits
  simp only [Try.underlying90]
  rw [if_pos ⟨by rw [h2]; rfl, by kernel_rfl⟩]
  simp [Program.keyLits, Try.underlying3, h1, w1, w2]
theorem key90 {r c : Int} (hr : I64 r) (hc : I64 c) : keyOf Try.prog 90 (sq r c) = some (.string (keyBytes [.int .i64 r, .int .i64 c])) := by
  unfold keyOf
  rw [Try.underlying90]
  simp only []
  rw [if_pos (by simp [type90, formed90])]
  have h : Try.prog.types.size + 1 = (Try.prog.types.size - 1) + 2 := by obtain ⟨m, hm⟩ := size_types; omega
  rw [h, show (sq r c).cells.toList = [.int .i64 r, .int .i64 c] from rfl, lits90 hr hc]
  rfl
def kl (r c : Int) : Lit := .string (keyBytes [.int .i64 r, .int .i64 c])
theorem kl_inj {r c r' c' : Int} (hr : I64 r) (hc : I64 c) (hr' : I64 r') (hc' : I64 c') (h : kl r c = kl r' c') : r = r' ∧ c = c' := by
  have h1 := key90 hr hc
  have h2 := key90 hr' hc'
  have := keyed90.inj h1 (by rw [h2]; exact congrArg some h.symm)
  unfold sq at this
  simp at this
  exact this

/-- A map of squares that reads as f. -/
def SqAt (w : World) (b n : Nat) (f : Int → Int → Option Int) : Prop := ∃ D : DataW Unit, w.ownsMap Try.prog 90 (plainElem Try.prog 3) b n D ∧
  ∀ r c, I64 r → I64 c → has D (kl r c) = (f r c).isSome ∧ D.atKey (kl r c) (.lit (.int .i64 0)) = .lit (.int .i64 ((f r c).getD 0))
theorem sq_new (w : World) : SqAt (w.alloc (.map #[] 0)) w.heap.size 0 (fun _ _ => none) := ⟨.map [], World.ownsMap_made w _ _ _, fun r c _ _ => ⟨rfl, WideAt.atKey_none _ (by simp)⟩⟩
theorem sq_look {w : World} {b n : Nat} {f : Int → Int → Option Int} (h : SqAt w b n f) {r c : Int} (hr : I64 r) (hc : I64 c) :
    (Instr.lookup 81 (.map (some b)) (sq r c) true).run Try.prog w = .ok (.tuple #[.int .i64 ((f r c).getD 0), .bool (f r c).isSome]) w := by
  obtain ⟨D, hD, hf⟩ := h
  obtain ⟨v, ps, hr', hv⟩ := hD.look_ok keyed90 Try.underlying81 (Try.zeroValue3 w) (plainElem_int Try.underlying3 (by decide)) (key90 hr hc)
  obtain ⟨h1, h2⟩ := hf r c hr hc
  have hv' : plainElem Try.prog 3 v = some (D.atKey (kl r c) (.lit (.int .i64 0)), ps) := hv
  rw [h2] at hv'
  obtain ⟨x, rfl, hx, _⟩ := plainElem_int_inv Try.underlying3 hv'
  simp only [Prod.mk.injEq, DataW.lit.injEq, Lit.int.injEq, true_and] at hx
  rw [hr', show has D (.string (keyBytes [.int .i64 r, .int .i64 c])) = (f r c).isSome from h1, hx.1]
theorem sq_put {w : World} {b n : Nat} {f : Int → Int → Option Int} (h : SqAt w b n f) (hn : n < maxLen) {r c v : Int} (hr : I64 r) (hc : I64 c) (hv : I64 v) :
    ∃ w', (Instr.mapUpdate 81 (.map (some b)) (sq r c) (.int .i64 v)).run Try.prog w = .ok () w' ∧ SqAt w' b (n + 1) (fun r' c' => if r' = r ∧ c' = c then some v else f r' c') ∧ w.grownBy w' (some b) := by
  obtain ⟨D, hD, hf⟩ := h
  obtain ⟨w', h1, h2, h3⟩ := hD.update keyed90 Try.underlying81 hn (key90 hr hc) (plainElem_int Try.underlying3 (i64_wf hv))
  refine ⟨w', h1, ⟨_, h2, fun r' c' hr' hc' => ?_⟩, h3⟩
  by_cases e : r' = r ∧ c' = c
  · obtain ⟨rfl, rfl⟩ := e
    constructor
    · rw [show kl r' c' = .string (keyBytes [.int .i64 r', .int .i64 c']) from rfl, has_put_same hD.isMap (keyed90.key (key90 hr hc))]
      simp
    · rw [show kl r' c' = .string (keyBytes [.int .i64 r', .int .i64 c']) from rfl, atKey_put_same hD.isMap (keyed90.key (key90 hr hc))]
      simp
  · have hne : kl r' c' ≠ kl r c := fun h => e (kl_inj hr' hc' hr hc h)
    obtain ⟨g1, g2⟩ := hf r' c' hr' hc'
    constructor
    · rw [show (Lit.string (keyBytes [.int .i64 r, .int .i64 c])) = kl r c from rfl, has_put_other hne, g1]; show _ = (if r' = r ∧ c' = c then some v else f r' c').isSome; rw [if_neg e]
    · rw [show (Lit.string (keyBytes [.int .i64 r, .int .i64 c])) = kl r c from rfl, atKey_put_other hne, g2]; show _ = DataW.lit (.int .i64 ((if r' = r ∧ c' = c then some v else f r' c').getD 0)); rw [if_neg e]
theorem sq_kept {w w' : World} {b n : Nat} {f : Int → Int → Option Int} (h : SqAt w b n f) {row : Option Nat} (hg : w.grownBy w' row) (hne : some b ≠ row) : SqAt w' b n f := by
  obtain ⟨D, hD, hf⟩ := h
  exact ⟨D, hD.kept hg hne, hf⟩
theorem sq_lt {w : World} {b n : Nat} {f : Int → Int → Option Int} (h : SqAt w b n f) : b < w.heap.size := by obtain ⟨D, hD, _⟩ := h; exact hD.lt
theorem sq_below {w w' : World} {b n : Nat} {f : Int → Int → Option Int} (h : SqAt w b n f) (hb : Below w.heap.size w w') : SqAt w' b n f := by
  obtain ⟨D, ⟨es, clock, h1, h2⟩, hf⟩ := h
  exact ⟨D, ⟨es, clock, (hb.block b (Array.getElem?_eq_some_iff.1 h1).1).trans h1, h2⟩, hf⟩
theorem sq_setCell {w : World} {b n : Nat} {f : Int → Int → Option Int} (h : SqAt w b n f) {a : Addr} (ha : b ≠ a.block) (u : Value) : SqAt (w.setCell a u) b n f := by
  obtain ⟨D, hD, hf⟩ := h
  exact ⟨D, hD.setCell ha u, hf⟩
theorem sq_ne_obj {w : World} {b n : Nat} {f : Int → Int → Option Int} (h : SqAt w b n f) {g : Nat} {cs : Array Value} {t : TypeId} {z : Nat × Nat} (hg : w.heap[g]? = some (.cells cs t z)) : b ≠ g := by
  obtain ⟨D, ⟨es, clock, h1, h2⟩, hf⟩ := h
  intro e
  rw [e, hg] at h1; cases h1
theorem sq_congr {w : World} {b n : Nat} {f f' : Int → Int → Option Int} (h : SqAt w b n f) (e : ∀ r c, f r c = f' r c) : SqAt w b n f' := by
  have : f = f' := funext fun r => funext fun c => e r c
  rw [← this]; exact h
end Go.Proofs.Ytkdhffidkopmcaa
