/- Layer 8: the sheet; has (61), checkLinks (85). -/
import Derived.Test.YtbkpokipibgdfaaS5
namespace Go.Proofs.Ytbkpokipibgdfaa
open Go.RowKit Go.Lib Go.Maps
set_option linter.unusedVariables false

/-- The place of the style with an id. -/
def plc (l : List St) (i : Int) : Option Nat := l.findIdx? (isId i)
theorem plc_idx (l : List St) (i : Int) : idxD l 0 i = (plc l i).map (fun k => ((k : Nat) : Int)) := by
  unfold idxD plc
  rw [List.drop_zero]
  simp
theorem plc_lt {l : List St} {i : Int} {k : Nat} (h : plc l i = some k) : ∃ hk : k < l.length, l[k].id = i := by
  obtain ⟨hk, hp, _⟩ := List.findIdx?_eq_some_iff_getElem.1 h
  exact ⟨hk, by unfold isId at hp; simpa using hp⟩
/-- Is there a style of a kind with an id? -/
def hasB (l : List St) (kind i : Int) : Bool := match plc l i with
  | some k => (l.getD k default).kind == kind
  | none => false
theorem hasB_some {l : List St} {kind i : Int} {k : Nat} (h : plc l i = some k) (hk : k < l.length) : hasB l kind i = (l[k].kind == kind) := by
  unfold hasB
  rw [h]
  show ((l.getD k default).kind == kind) = _
  rw [List.getD_eq_getElem?_getD, List.getElem?_eq_getElem hk]; rfl
theorem hasB_none {l : List St} {kind i : Int} (h : plc l i = none) : hasB l kind i = false := by unfold hasB; rw [h]
/-- The sheet of a list. -/
structure ShAt (w : World) (A : Option Addr) (m d b : Nat) (l : List St) : Prop where
  len : l.length = m
  small : m ≤ 1000
  list : LsAt w A l
  idx : ∃ n, IxAt w b n (idxD l 0)
abbrev shV (A : Option Addr) (m d b : Nat) : Value := .agg #[.slice A m d, .map (some b)]
theorem ShAt.below {w w' : World} {A : Option Addr} {m d b : Nat} {l : List St} (h : ShAt w A m d b l) (hb : Below w.heap.size w w') : ShAt w' A m d b l := by
  obtain ⟨n, hn⟩ := h.idx
  exact ⟨h.len, h.small, h.list.below hb, n, hn.below hn.lt hb⟩
theorem ShAt.look {w : World} {A : Option Addr} {m d b : Nat} {l : List St} (h : ShAt w A m d b l) {i : Int} (hi : I64 i) :
    (Instr.lookup 71 (.map (some b)) (.int .i64 i) true).run Try.prog w = .ok (.tuple #[.int .i64 (((plc l i).map (fun k => ((k : Nat) : Int))).getD 0), .bool (plc l i).isSome]) w := by
  obtain ⟨n, hn⟩ := h.idx
  rw [ix_look hn hi, plc_idx]
  simp

set_option maxRecDepth 100000 in
set_option maxHeartbeats 8000000 in
theorem has_any (l : List St) (A : Option Addr) (m d b : Nat) (kind i : Int) (hi : I64 i) (w : World) (h : ShAt w A m d b l) :
    Calls Try.prog 61 #[.agg #[.slice A m d, .map (some b)], .int .i64 kind, .int .i64 i] w fun e w' => e = .returned (.bool (hasB l kind i)) ∧ Below w.heap.size w w' := by
  have hb := (Below.refl w.heap.size w).alloc (Nat.le_refl _) (.cells #[.slice A m d, .map (some b)] 73)
  have hl := (h.below hb).look hi
  have HB := Lib.hid hb
  have HH := Lib.hid h
  clear hb h
  cases hp : plc l i with
  | none =>
    rw [hp] at hl
    dsimp only [Option.map_none, Option.getD_none, Option.isSome_none] at hl
    have HE := Lib.hid (hasB_none (kind := kind) hp)
    clear hp
    go_enter Try.func61, Try.ntmps61
    go_wp2
    go_ret
    exact ⟨ret_bool' HE.out.symm, HB.out⟩
  | some k =>
    rw [hp] at hl
    dsimp only [Option.map_some, Option.getD_some, Option.isSome_some] at hl
    obtain ⟨hk, _⟩ := plc_lt hp
    have HE := Lib.hid (hasB_some (kind := kind) hp hk)
    obtain ⟨g, o, hA, hg, hcl⟩ := HH.out.list.pos (by omega)
    obtain ⟨B, c, _, h1, _⟩ := hcl k hk
    have z1 := (HB.out.cell (p := ⟨g, o + k * 6 + 1, none⟩) hg).trans h1
    have f1 : (k : Int) < (m : Int) := by have := HH.out.len; omega
    have f0 : (0 : Int) ≤ (k : Int) := by omega
    subst hA
    clear hp hcl h1
    generalize l[k].kind = v at z1 HE
    go_enter Try.func61, Try.ntmps61
    go_wp2
    go_ret
    exact ⟨ret_bool' HE.out.symm, HB.out⟩
end Go.Proofs.Ytbkpokipibgdfaa
