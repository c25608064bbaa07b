/- Layer 8: the map of titles. -/
import Derived.Test.YtbkpokipibgdfaaS4
import Derived.Test.YtbkpokipibgdfaaS6
import Derived.DeepKeys4
namespace Go.Proofs.Ytbkpokipibgdfaa
open Go.RowKit Go.Lib Go.Maps
set_option linter.unusedVariables false

theorem laidOut0 : laidOutB Try.prog = true := by kernel_rfl
theorem row125 : (125 : TypeId) < Try.prog.types.size := of_decide_eq_true (by kernel_rfl)
theorem wide125 : (match Try.prog.underlying 125 with | some (.array _ _) | some (.struct _) => true | _ => false) = true := by kernel_rfl
theorem deep125 : Try.prog.keyTypeAt 2 125 = true := by kernel_rfl
set_option maxRecDepth 100000 in
theorem keyed125 : Keyed Try.prog 125 := Keyed.of_law (deep_law_laid laidOut0 (m := 2) (by omega) row125 deep125 wide125)
def tt (k : Int) (s : ByteArray) : Value := .agg #[.int .i64 k, .string s]
theorem type125 : Try.prog.keyType 125 = true := by kernel_rfl
theorem formed125 (k : Int) (s : ByteArray) : (tt k s).formed Try.prog 125 = true := by
  have h : Try.prog.cellsOf 125 = 2 := by kernel_rfl
  simp [Value.formed, tt, Try.underlying125, h]
theorem size_types : ∃ m, Try.prog.types.size = m + 1 := by
  have h : 125 < Try.prog.types.size := row125
  exact ⟨Try.prog.types.size - 1, by omega⟩
theorem lits125 {k : Int} {s : ByteArray} (hk : I64 k) (hs : s.size ≤ maxLen) (n : Nat) : Try.prog.keyLits (n + 2) 125 [.int .i64 k, .string s] = some [.int .i64 k, .string s.data.toList] := by
  have h2 : Try.prog.cellsOf 125 = 2 := by kernel_rfl
  have h1 : Try.prog.cellsOf 3 = 1 := by kernel_rfl
  have h9 : Try.prog.cellsOf 9 = 1 := by kernel_rfl
  have w1 := i64_wf hk
  unfold Program.keyLits
  simp only [Try.underlying125]
  rw [if_pos ⟨by rw [h2]; rfl, by kernel_rfl⟩]
  simp [Program.keyLits, Try.underlying3, Try.underlying9, h1, h9, w1, hs]
theorem key125 {k : Int} {s : ByteArray} (hk : I64 k) (hs : s.size ≤ maxLen) : keyOf Try.prog 125 (tt k s) = some (.string (keyBytes [.int .i64 k, .string s.data.toList])) := by
  unfold keyOf
  rw [Try.underlying125]
  simp only []
  rw [if_pos (by simp [type125, formed125])]
  have h : Try.prog.types.size + 1 = (Try.prog.types.size - 1) + 2 := by obtain ⟨m, hm⟩ := size_types; omega
  rw [h, show (tt k s).cells.toList = [.int .i64 k, .string s] from rfl, lits125 hk hs]
  rfl
def tl (k : Int) (s : ByteArray) : Lit := .string (keyBytes [.int .i64 k, .string s.data.toList])
theorem tl_inj {k k' : Int} {s s' : ByteArray} (hk : I64 k) (hs : s.size ≤ maxLen) (hk' : I64 k') (hs' : s'.size ≤ maxLen) (h : tl k s = tl k' s') : k = k' ∧ s = s' := by
  have h1 := key125 hk hs
  have h2 := key125 hk' hs'
  have := keyed125.inj h1 (by rw [h2]; exact congrArg some h.symm)
  unfold tt at this
  simp at this
  exact this
set_option maxRecDepth 100000 in
theorem bool_inv {v : Value} {z : DataW Unit × List MemPlace} (h : plainElem Try.prog 4 v = some z) : ∃ x, v = .bool x ∧ z = (.lit (.bool x), []) := by
  unfold plainElem at h
  rw [Try.underlying4] at h
  cases v <;> simp at h
  exact ⟨_, rfl, h.symm⟩
/-- A map of titles that reads as f. -/
def TtAt (w : World) (b n : Nat) (f : Int → ByteArray → Bool) : Prop := ∃ D : DataW Unit, w.ownsMap Try.prog 125 (plainElem Try.prog 4) b n D ∧
  ∀ k s, I64 k → s.size ≤ maxLen → D.atKey (tl k s) (.lit (.bool false)) = .lit (.bool (f k s))
theorem tt_new (w : World) : TtAt (w.alloc (.map #[] 0)) w.heap.size 0 (fun _ _ => false) := ⟨.map [], World.ownsMap_made w _ _ _, fun k s _ _ => WideAt.atKey_none _ (by simp)⟩
theorem tt_look {w : World} {b n : Nat} {f : Int → ByteArray → Bool} (h : TtAt w b n f) {k : Int} {s : ByteArray} (hk : I64 k) (hs : s.size ≤ maxLen) :
    (Instr.lookup 123 (.map (some b)) (.agg #[.int .i64 k, .string s]) false).run Try.prog w = .ok (.bool (f k s)) w := by
  obtain ⟨D, hD, hf⟩ := h
  obtain ⟨v, ps, hr, hv⟩ := hD.lookup keyed125 Try.underlying123 (Try.zeroValue4 w) (plainElem_bool Try.underlying4 false) (key125 hk hs)
  have hv' : plainElem Try.prog 4 v = some (D.atKey (tl k s) (.lit (.bool false)), ps) := hv
  rw [hf k s hk hs] at hv'
  obtain ⟨x, rfl, hx⟩ := bool_inv hv'
  simp only [Prod.mk.injEq, DataW.lit.injEq, Lit.bool.injEq] at hx
  rw [hx.1]; exact hr
theorem tt_put {w : World} {b n : Nat} {f : Int → ByteArray → Bool} (h : TtAt w b n f) (hn : n < maxLen) {k : Int} {s : ByteArray} (hk : I64 k) (hs : s.size ≤ maxLen) :
    ∃ w', (Instr.mapUpdate 123 (.map (some b)) (.agg #[.int .i64 k, .string s]) (.bool true)).run Try.prog w = .ok () w' ∧ TtAt w' b (n + 1) (fun k' s' => if k' = k ∧ s' = s then true else f k' s') ∧ w.grownBy w' (some b) := by
  obtain ⟨D, hD, hf⟩ := h
  obtain ⟨w', h1, h2, h3⟩ := hD.update keyed125 Try.underlying123 hn (key125 hk hs) (plainElem_bool Try.underlying4 true)
  refine ⟨w', h1, ⟨_, h2, fun k' s' hk' hs' => ?_⟩, h3⟩
  by_cases e : k' = k ∧ s' = s
  · obtain ⟨rfl, rfl⟩ := e
    rw [show tl k' s' = .string (keyBytes [.int .i64 k', .string s'.data.toList]) from rfl, atKey_put_same hD.isMap (keyed125.key (key125 hk hs))]
    simp
  · have hne : tl k' s' ≠ tl k s := fun h => e (tl_inj hk' hs' hk hs h)
    rw [show (Lit.string (keyBytes [.int .i64 k, .string s.data.toList])) = tl k s from rfl, atKey_put_other hne, hf k' s' hk' hs']
    show _ = DataW.lit (.bool (if k' = k ∧ s' = s then true else f k' s'))
    rw [if_neg e]
theorem TtAt.kept {w w' : World} {b n : Nat} {f : Int → ByteArray → Bool} (h : TtAt w b n f) {row : Option Nat} (hg : w.grownBy w' row) (hne : some b ≠ row) : TtAt w' b n f := by
  obtain ⟨D, hD, hf⟩ := h
  exact ⟨D, hD.kept hg hne, hf⟩
theorem TtAt.lt {w : World} {b n : Nat} {f : Int → ByteArray → Bool} (h : TtAt w b n f) : b < w.heap.size := by obtain ⟨D, hD, _⟩ := h; exact hD.lt
theorem TtAt.below {w w' : World} {b n : Nat} {f : Int → ByteArray → Bool} (h : TtAt w b n f) {m : Nat} (hm : b < m) (hb : Below m w w') : TtAt w' b n f := by
  obtain ⟨D, ⟨es, clock, h1, h2⟩, hf⟩ := h
  exact ⟨D, ⟨es, clock, (hb.block b hm).trans h1, h2⟩, hf⟩
theorem TtAt.congr {w : World} {b n : Nat} {f f' : Int → ByteArray → Bool} (h : TtAt w b n f) (e : ∀ k s, f k s = f' k s) : TtAt w b n f' := by
  have : f = f' := funext fun k => funext fun s => e k s
  rw [← this]; exact h
theorem make123 (m : Nat) (w : World) : (Instr.makeMap 123 (some (.int .i64 (m : Nat)))).run Try.prog w = .ok (.map (some w.heap.size)) (w.alloc (.map #[] 0)) := by
  simp [Instr.makeMap, run_underlying Try.underlying123, Result.andThen]
  rfl

/-- Has a title come ahead of the k-th style? -/
def seenT (l : List St) (k : Nat) (kd : Int) (s : ByteArray) : Bool := (l.take k).any fun y => decide (y.kind = kd ∧ y.name = s)
theorem seenT_zero (l : List St) (kd : Int) (s : ByteArray) : seenT l 0 kd s = false := rfl
theorem seenT_step (l : List St) (k : Nat) (h : k < l.length) (kd : Int) (s : ByteArray) : seenT l (k + 1) kd s = if kd = l[k].kind ∧ s = l[k].name then true else seenT l k kd s := by
  unfold seenT
  rw [List.take_succ_eq_append_getElem h, List.any_append]
  by_cases e : kd = l[k].kind ∧ s = l[k].name
  · rw [if_pos e]
    have : decide (l[k].kind = kd ∧ l[k].name = s) = true := decide_eq_true ⟨e.1.symm, e.2.symm⟩
    simp only [List.any_cons, this, Bool.true_or, Bool.or_true]
  · rw [if_neg e]
    have : decide (l[k].kind = kd ∧ l[k].name = s) = false := decide_eq_false fun h => e ⟨h.1.symm, h.2.symm⟩
    simp only [List.any_cons, List.any_nil, this, Bool.or_false]
/-- The id ahead of the k-th style. -/
def lastI (l : List St) (k : Nat) : Int := if k = 0 then 0 else (l.getD (k - 1) default).id
theorem lastI_succ (l : List St) (k : Nat) (h : k < l.length) : lastI l (k + 1) = l[k].id := by
  unfold lastI
  rw [if_neg (by omega), Nat.add_sub_cancel, List.getD_eq_getElem?_getD, List.getElem?_eq_getElem h]; rfl
/-- The first error of the k-th style. -/
noncomputable def fldX (x : St) (last : Int) (seen : Bool) : Int :=
  if x.id < 1 ∨ 1073741824 < x.id then 18 else if x.id = last then 7 else if x.id < last then 6 else if x.kind ≠ 1 ∧ x.kind ≠ 2 then 3 else if nmB x.name = false then 13
  else if seen = true then 7 else ckP x.kind x.props
noncomputable def fldK (l : List St) (k : Nat) : Int := fldX (l.getD k default) (lastI l k) (seenT l k (l.getD k default).kind (l.getD k default).name)
theorem fldK_at (l : List St) (k : Nat) (h : k < l.length) : fldK l k = fldX l[k] (lastI l k) (seenT l k l[k].kind l[k].name) := by
  unfold fldK
  rw [List.getD_eq_getElem?_getD, List.getElem?_eq_getElem h]; rfl
noncomputable def fldP (l : List St) : Int := (((List.range l.length).map (fldK l)).find? (fun e => e != 0)).getD 0
end Go.Proofs.Ytbkpokipibgdfaa
