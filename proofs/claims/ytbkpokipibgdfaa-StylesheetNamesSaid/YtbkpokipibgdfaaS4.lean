/- Layer 8: the map of indices; slices.Backward over styles (68, 87). -/
import Derived.Test.YtbkpokipibgdfaaS2
import Derived.Test.YtbkpokipibgdfaaH2
import Derived.Maps.Own
import Derived.Maps.OwnSet
import Derived.Maps.Views
namespace Go.Proofs.Ytbkpokipibgdfaa
open Go.RowKit Go.Lib Go.Maps
set_option linter.unusedVariables false

def I64 (x : Int) : Prop := -9223372036854775808 ≤ x ∧ x ≤ 9223372036854775807
theorem i64_wf {x : Int} (h : I64 x) : (Lit.int .i64 x).wf = true := by
  unfold I64 at h
  simp [Lit.wf, IntKind.bits, IntKind.signed, IntKind.min, IntKind.max]
  omega
theorem key_i {x : Int} (h : I64 x) : keyOf Try.prog 3 (.int .i64 x) = some (.int .i64 x) := keyOf_int_mk Try.underlying3 (i64_wf h)
/-- A map of numbers that reads as f. -/
def IxAt (w : World) (b n : Nat) (f : Int → Option Int) : Prop := ∃ D : DataW Unit, w.ownsMap Try.prog 3 (plainElem Try.prog 3) b n D ∧
  ∀ a, I64 a → has D (.int .i64 a) = (f a).isSome ∧ D.atKey (.int .i64 a) (.lit (.int .i64 0)) = .lit (.int .i64 ((f a).getD 0))
theorem ix_new (w : World) : IxAt (w.alloc (.map #[] 0)) w.heap.size 0 (fun _ => none) := ⟨.map [], World.ownsMap_made w _ _ _, fun a _ => ⟨rfl, WideAt.atKey_none _ (by simp)⟩⟩
theorem ix_look {w : World} {b n : Nat} {f : Int → Option Int} (h : IxAt w b n f) {a : Int} (ha : I64 a) :
    (Instr.lookup 71 (.map (some b)) (.int .i64 a) true).run Try.prog w = .ok (.tuple #[.int .i64 ((f a).getD 0), .bool (f a).isSome]) w := by
  obtain ⟨D, hD, hf⟩ := h
  obtain ⟨v, ps, hr', hv⟩ := hD.look_ok (int_keyed Try.underlying3) Try.underlying71 (Try.zeroValue3 w) (plainElem_int Try.underlying3 (by decide)) (key_i ha)
  obtain ⟨h1, h2⟩ := hf a ha
  have hv' : plainElem Try.prog 3 v = some (D.atKey (.int .i64 a) (.lit (.int .i64 0)), ps) := hv
  rw [h2] at hv'
  obtain ⟨x, rfl, hx, _⟩ := plainElem_int_inv Try.underlying3 hv'
  simp only [Prod.mk.injEq, DataW.lit.injEq, Lit.int.injEq, true_and] at hx
  rw [hr', h1, hx.1]
theorem ix_put {w : World} {b n : Nat} {f : Int → Option Int} (h : IxAt w b n f) (hn : n < maxLen) {a v : Int} (ha : I64 a) (hv : I64 v) :
    ∃ w', (Instr.mapUpdate 71 (.map (some b)) (.int .i64 a) (.int .i64 v)).run Try.prog w = .ok () w' ∧ IxAt w' b (n + 1) (fun z => if z = a then some v else f z) ∧ w.grownBy w' (some b) := by
  obtain ⟨D, hD, hf⟩ := h
  obtain ⟨w', h1, h2, h3⟩ := hD.update (int_keyed Try.underlying3) Try.underlying71 hn (key_i ha) (plainElem_int Try.underlying3 (i64_wf hv))
  refine ⟨w', h1, ⟨_, h2, fun z hz => ?_⟩, h3⟩
  by_cases e : z = a
  · subst e
    constructor
    · rw [has_put_same hD.isMap ((int_keyed Try.underlying3).key (key_i ha))]
      simp
    · rw [atKey_put_same hD.isMap ((int_keyed Try.underlying3).key (key_i ha))]
      simp
  · have hne : (Lit.int .i64 z) ≠ (Lit.int .i64 a) := by simpa using e
    obtain ⟨g1, g2⟩ := hf z hz
    constructor
    · rw [has_put_other hne, g1]; show _ = (if z = a then some v else f z).isSome; rw [if_neg e]
    · rw [atKey_put_other hne, g2]; show _ = DataW.lit (.int .i64 ((if z = a then some v else f z).getD 0)); rw [if_neg e]
theorem IxAt.kept {w w' : World} {b n : Nat} {f : Int → Option Int} (h : IxAt w b n f) {row : Option Nat} (hg : w.grownBy w' row) (hne : some b ≠ row) : IxAt w' b n f := by
  obtain ⟨D, hD, hf⟩ := h
  exact ⟨D, hD.kept hg hne, hf⟩
theorem IxAt.lt {w : World} {b n : Nat} {f : Int → Option Int} (h : IxAt w b n f) : b < w.heap.size := by obtain ⟨D, hD, _⟩ := h; exact hD.lt
theorem IxAt.below {w w' : World} {b n : Nat} {f : Int → Option Int} (h : IxAt w b n f) {m : Nat} (hm : b < m) (hb : Below m w w') : IxAt w' b n f := by
  have hlt := h.lt
  obtain ⟨D, ⟨es, clock, h1, h2⟩, hf⟩ := h
  exact ⟨D, ⟨es, clock, (hb.block b hm).trans h1, h2⟩, hf⟩
theorem IxAt.congr {w : World} {b n : Nat} {f f' : Int → Option Int} (h : IxAt w b n f) (e : ∀ a, f a = f' a) : IxAt w b n f' := by
  have : f = f' := funext e
  rw [← this]; exact h
theorem IxAt.own {T : TypeId → Bool} {β : Type} {B b : Nat} (hb : b < B) (n : β → Nat) (f : β → Int → Option Int) : OwnT T B (fun s W => IxAt W b (n s) (f s)) :=
  fun s A C row hs hg hr => hs.kept hg (fun e => by have := (hr b e.symm).1; omega)

/-- The index of the first style from k on with an id. -/
def idxD (l : List St) (k : Nat) (i : Int) : Option Int := ((l.drop k).findIdx? (isId i)).map fun j => ((k + j : Nat) : Int)
theorem idxD_end (l : List St) (i : Int) : idxD l l.length i = none := by unfold idxD; rw [List.drop_length]; rfl
theorem idxD_step (l : List St) (k : Nat) (h : k < l.length) (i : Int) : idxD l k i = if i = l[k].id then some (k : Int) else idxD l (k + 1) i := by
  unfold idxD
  rw [List.drop_eq_getElem_cons h, List.findIdx?_cons]
  by_cases e : i = l[k].id
  · have h1 : isId i l[k] = true := by unfold isId; rw [beq_iff_eq]; exact e.symm
    rw [if_pos e, if_pos h1]; rfl
  · have h1 : ¬ isId i l[k] = true := by unfold isId; rw [beq_iff_eq]; exact fun h => e h.symm
    rw [if_neg e, if_neg h1, Option.map_map]
    congr 1
    funext j
    simp only [Function.comp]
    omega
theorem idxD_zero (l : List St) (i : Int) : (idxD l 0 i).getD 0 = max (fnd (isId i) l) 0 ∧ (idxD l 0 i).isSome = decide (0 ≤ fnd (isId i) l) := by
  unfold idxD fnd
  rw [List.drop_zero]
  cases l.findIdx? (isId i) with
  | none => exact ⟨rfl, rfl⟩
  | some k => simp
/-- All numbers of the styles are numbers of the machine. -/
def LsOk (l : List St) : Prop := ∀ x ∈ l, I64 x.id ∧ I64 x.kind ∧ I64 x.base ∧ I64 x.next
end Go.Proofs.Ytbkpokipibgdfaa
