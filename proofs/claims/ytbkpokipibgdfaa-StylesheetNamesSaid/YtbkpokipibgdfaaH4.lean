/- Layer 7: the table of keys. -/
import Derived.Test.YtbkpokipibgdfaaH3
import Derived.Laws.Tables
import Derived.Laws.Rows
import Derived.Deep.WholeRow
import Derived.Deep.DeepCutAuto
namespace Go.Proofs.Ytbkpokipibgdfaa
open Go.RowKit Go.Lib

abbrev Row := Int × ByteArray × Int × Int × Int × Int
/-- The rows: key, name, group, least, greatest, preset value. -/
def tabP : List Row := [
  (1, ⟨#[99, 104, 97, 114, 97, 99, 116, 101, 114, 45, 115, 116, 121, 108, 101]⟩, 1, 0, 1073741824, 0),
  (2, ⟨#[98, 111, 108, 100]⟩, 1, 0, 1, 0),
  (3, ⟨#[105, 116, 97, 108, 105, 99]⟩, 1, 0, 1, 0),
  (4, ⟨#[117, 110, 100, 101, 114, 108, 105, 110, 101]⟩, 1, 0, 3, 0),
  (5, ⟨#[115, 105, 122, 101]⟩, 1, 2, 1638, 22),
  (6, ⟨#[99, 111, 108, 111, 114]⟩, 1, 0, 16777215, 0),
  (7, ⟨#[102, 111, 110, 116]⟩, 1, 0, 63, 0),
  (8, ⟨#[108, 97, 110, 103, 117, 97, 103, 101]⟩, 1, 0, 255, 0),
  (9, ⟨#[114, 97, 105, 115, 101]⟩, 1, -400, 400, 0),
  (10, ⟨#[104, 105, 100, 100, 101, 110]⟩, 1, 0, 1, 0),
  (20, ⟨#[112, 97, 114, 97, 103, 114, 97, 112, 104, 45, 115, 116, 121, 108, 101]⟩, 2, 0, 1073741824, 0),
  (21, ⟨#[97, 108, 105, 103, 110]⟩, 2, 0, 3, 0),
  (22, ⟨#[108, 101, 102, 116]⟩, 2, -31680, 31680, 0),
  (23, ⟨#[114, 105, 103, 104, 116]⟩, 2, -31680, 31680, 0),
  (24, ⟨#[102, 105, 114, 115, 116]⟩, 2, -31680, 31680, 0),
  (25, ⟨#[98, 101, 102, 111, 114, 101]⟩, 2, 0, 31680, 0),
  (26, ⟨#[97, 102, 116, 101, 114]⟩, 2, 0, 31680, 0),
  (27, ⟨#[108, 101, 97, 100, 105, 110, 103]⟩, 2, 0, 31680, 0),
  (28, ⟨#[107, 101, 101, 112, 45, 110, 101, 120, 116]⟩, 2, 0, 1, 0),
  (29, ⟨#[107, 101, 101, 112, 45, 108, 105, 110, 101, 115]⟩, 2, 0, 1, 0),
  (30, ⟨#[119, 105, 100, 111, 119]⟩, 2, 0, 1, 1),
  (31, ⟨#[112, 97, 103, 101, 45, 98, 101, 102, 111, 114, 101]⟩, 2, 0, 1, 0),
  (32, ⟨#[111, 117, 116, 108, 105, 110, 101]⟩, 2, 0, 9, 0),
  (33, ⟨#[108, 105, 115, 116]⟩, 2, 0, 1073741824, 0),
  (34, ⟨#[108, 101, 118, 101, 108]⟩, 2, 1, 9, 1),
  (35, ⟨#[114, 101, 115, 116, 97, 114, 116]⟩, 2, 0, 32767, 0),
  (36, ⟨#[116, 97, 98, 45, 115, 116, 111, 112]⟩, 2, 1, 31680, 720),
  (37, ⟨#[104, 121, 112, 104, 101, 110, 97, 116, 101]⟩, 2, 0, 1, 0),
  (40, ⟨#[112, 97, 103, 101, 45, 119, 105, 100, 116, 104]⟩, 3, 720, 31680, 12240),
  (41, ⟨#[112, 97, 103, 101, 45, 104, 101, 105, 103, 104, 116]⟩, 3, 720, 31680, 15840),
  (42, ⟨#[116, 111, 112]⟩, 3, 0, 31680, 1440),
  (43, ⟨#[98, 111, 116, 116, 111, 109]⟩, 3, 0, 31680, 1440),
  (44, ⟨#[105, 110, 110, 101, 114]⟩, 3, 0, 31680, 1440),
  (45, ⟨#[111, 117, 116, 101, 114]⟩, 3, 0, 31680, 1440),
  (46, ⟨#[102, 105, 114, 115, 116, 45, 112, 97, 103, 101]⟩, 3, 0, 32767, 0),
  (47, ⟨#[112, 97, 103, 101, 45, 102, 111, 114, 109, 97, 116]⟩, 3, 1, 6, 1),
  (50, ⟨#[104, 101, 97, 100, 101, 114]⟩, 4, 0, 1, 0),
  (51, ⟨#[99, 97, 110, 116, 45, 115, 112, 108, 105, 116]⟩, 4, 0, 1, 0),
  (52, ⟨#[114, 111, 119, 45, 104, 101, 105, 103, 104, 116]⟩, 4, 0, 31680, 0),
  (60, ⟨#[99, 111, 108, 117, 109, 110, 45, 115, 112, 97, 110]⟩, 5, 1, 32, 1),
  (61, ⟨#[118, 101, 114, 116, 105, 99, 97, 108, 45, 109, 101, 114, 103, 101]⟩, 5, 0, 2, 0),
  (62, ⟨#[99, 101, 108, 108, 45, 119, 105, 100, 116, 104]⟩, 5, 0, 31680, 0),
  (63, ⟨#[115, 104, 97, 100, 101]⟩, 5, 0, 16777215, 16777215),
  (70, ⟨#[116, 97, 98, 108, 101, 45, 119, 105, 100, 116, 104]⟩, 6, 0, 31680, 0),
  (71, ⟨#[116, 97, 98, 108, 101, 45, 97, 108, 105, 103, 110]⟩, 6, 0, 2, 0)]
def rowC6 (r : Row) : List Value := [.int .i64 r.1, .string r.2.1, .int .i64 r.2.2.1, .int .i64 r.2.2.2.1, .int .i64 r.2.2.2.2.1, .int .i64 r.2.2.2.2.2]
def rowV (r : Row) : Value := .agg (rowC6 r).toArray
def cellsT : Array Value := (tabP.flatMap rowC6).toArray
theorem built70 (k : Int) (nm : ByteArray) (g lo hi d : Int) : Program.built Try.prog 118 [(0, .int .i64 k), (1, .string nm), (2, .int .i64 g), (3, .int .i64 lo), (4, .int .i64 hi), (5, .int .i64 d)] = some (rowC6 (k, nm, g, lo, hi, d)).toArray := by kernel_rfl
def mkRow (pos : String) (x : Nat × Row) : Oper :=
  { dst := some x.1, op := .build 118 #[(0, .const (.int .i64 x.2.1)), (1, .const (.string x.2.2.1)), (2, .const (.int .i64 x.2.2.2.1)), (3, .const (.int .i64 x.2.2.2.2.1)), (4, .const (.int .i64 x.2.2.2.2.2.1)), (5, .const (.int .i64 x.2.2.2.2.2.2))], type := 118, pos := pos, after := #[], guard := none }
def putAll (a : Act) (l : List (Nat × Row)) : Act := l.foldl (fun a x => a.put (some x.1) (rowV x.2)) a
theorem wpList_rows {ops : Array Oper} {Q : Exit → Act → World → Prop} {rest : List Oper} {w : World} (pos : String)
    (l : List (Nat × Row)) (a : Act) (h : wpList Try.prog ops Q rest (putAll a l) w) : wpList Try.prog ops Q (l.map (mkRow pos) ++ rest) a w := by
  induction l generalizing a with
  | nil => exact h
  | cons x l ih =>
    obtain ⟨i, k, nm, g, lo, hi, d⟩ := x
    have e := built70 k nm g lo hi d
    refine wpList_build rfl 118 _ rfl (by simpa [Act.eval] using congrArg Option.isSome e) ?_
    have e' : (Program.built Try.prog 118 ((#[(0, Operand.const (.int .i64 k)), (1, .const (.string nm)), (2, .const (.int .i64 g)), (3, .const (.int .i64 lo)), (4, .const (.int .i64 hi)), (5, .const (.int .i64 d))] : Array (Nat × Operand)).map fun (i, x) => (i, a.eval x)).toList).getD #[] = (rowC6 (k, nm, g, lo, hi, d)).toArray := by
      simpa [Act.eval] using congrArg (·.getD #[]) e
    rw [e']
    exact ih _ h
theorem putAll_defers (a : Act) (l : List (Nat × Row)) : (putAll a l).defers = a.defers := by
  unfold putAll
  induction l generalizing a with
  | nil => rfl
  | cons x l ih => rw [List.foldl_cons, ih]; rfl
theorem putAll_size (a : Act) (l : List (Nat × Row)) : (putAll a l).tmps.size = a.tmps.size := by
  unfold putAll
  induction l generalizing a with
  | nil => rfl
  | cons x l ih => rw [List.foldl_cons, ih]; simp [Act.put]
theorem putAll_get (l : List Row) (i0 : Nat) (a : Act) (h : i0 + l.length ≤ a.tmps.size) (k : Nat) :
    (putAll a ((l.zipIdx i0).map fun x => (x.2, x.1))).tmps[k]? = if i0 ≤ k ∧ k < i0 + l.length then (l[k - i0]?).map rowV else a.tmps[k]? := by
  induction l generalizing i0 a with
  | nil =>
    rw [if_neg (by simp only [List.length_nil]; omega)]; rfl
  | cons s l ih =>
    have hl : (s :: l).length = l.length + 1 := rfl
    have e : putAll a (((s :: l).zipIdx i0).map fun x => (x.2, x.1)) = putAll (a.put (some i0) (rowV s)) ((l.zipIdx (i0 + 1)).map fun x => (x.2, x.1)) := rfl
    have hsz : (a.put (some i0) (rowV s)).tmps.size = a.tmps.size := by simp [Act.put]
    rw [e, ih (i0 + 1) _ (by rw [hsz]; omega)]
    by_cases h1 : k = i0
    · subst h1
      rw [if_neg (by omega), if_pos (by omega), Nat.sub_self]
      simp [Act.put, Array.getElem?_setIfInBounds]
      omega
    · by_cases h2 : i0 + 1 ≤ k ∧ k < i0 + 1 + l.length
      · rw [if_pos h2, if_pos (by omega)]
        have e2 : k - i0 = (k - (i0 + 1)) + 1 := by omega
        rw [e2, List.getElem?_cons_succ]
      · rw [if_neg h2, if_neg (by omega)]
        simp [Act.put, Ne.symm h1]
noncomputable def opsT : List Oper := match Try.f95.body with
  | some (.seq _ (.seq (.region _ o _) _)) => o.toList
  | _ => []
def slotsT : List (Nat × Row) := (tabP.zipIdx 1).map fun x => (x.2, x.1)
noncomputable def lastT : Oper := (opsT.drop 45).headD { dst := none, op := .assign (.const undef), type := 0, pos := "", after := #[], guard := none }
noncomputable def endT : Oper := (opsT.drop 46).headD { dst := none, op := .assign (.const undef), type := 0, pos := "", after := #[], guard := none }
set_option maxRecDepth 1000000 in
theorem opsT_eq : opsT = slotsT.map (mkRow "table.go:33") ++ [lastT, endT] := by kernel_rfl
noncomputable def partsT : Array (Nat × Operand) := match lastT.op with
  | .build _ p => p
  | _ => #[]
set_option maxRecDepth 1000000 in
theorem lastT_op : lastT.op = .build 126 partsT := by kernel_rfl
theorem lastT_guard : lastT.guard = none := by kernel_rfl
theorem lastT_dst : lastT.dst = some 46 := by kernel_rfl
theorem endT_op : endT.op = .store 126 (.tmp 0) (.tmp 46) := by kernel_rfl
theorem endT_guard : endT.guard = none := by kernel_rfl
theorem endT_dst : endT.dst = none := by kernel_rfl
set_option maxRecDepth 1000000 in
theorem partsT_eq : partsT.toList = (List.range 45).map fun i => (i, Operand.tmp (i + 1)) := by kernel_rfl
set_option maxRecDepth 1000000 in
theorem builtT : Program.built Try.prog 126 (((tabP.map rowV).zipIdx 0).map fun x => (x.2, x.1)) = some cellsT := by kernel_rfl
set_option maxRecDepth 1000000 in
theorem sizeT : (Try.prog.info? 126).map (·.size) = some 270 := by kernel_rfl
set_option maxRecDepth 1000000 in
theorem cellsT_size : cellsT.size = 270 := by kernel_rfl
set_option maxRecDepth 1000000 in
theorem cellsT_one : cellsT.all (·.oneCell') = true := by kernel_rfl
theorem parts_rows (a : Act) (l : List Row) (parts : Array (Nat × Operand)) (n : Nat) (hn : l.length = n) (hp : parts.toList = (List.range n).map fun i => (i, Operand.tmp (i + 1)))
    (ha : ∀ k (h : k < l.length), a.tmps[k + 1]? = some (rowV l[k])) : (parts.map fun (i, x) => (i, a.eval x)).toList = ((l.map rowV).zipIdx 0).map fun x => (x.2, x.1) := by
  rw [Array.toList_map, hp]
  apply List.ext_getElem
  · simp [hn]
  · intro k h1 h2
    have hk : k < l.length := by simpa using h2
    have e := ha k hk
    simp only [List.getElem_map, List.getElem_range, List.getElem_zipIdx, Nat.zero_add]
    have : a.eval (Operand.tmp (k + 1)) = rowV l[k] := by
      simp [Act.eval, e]
    rw [this]

set_option maxRecDepth 1000000 in
set_option maxHeartbeats 4000000 in
theorem table_any (w : World) : Calls Try.prog 95 #[] w fun e w' => e = .returned (.agg cellsT) ∧ Below w.heap.size w w' := by
  go_enter Try.func95, Try.ntmps95
  go_upto_region 1 with (fail)
  refine wp_region_list ?_
  change wpList Try.prog _ _ opsT _ _
  rw [opsT_eq]
  refine wpList_rows "table.go:33" slotsT _ ?_
  have hsz : ∀ a : Act, (putAll a slotsT).tmps.size = a.tmps.size := fun a => putAll_size a slotsT
  have e0 : ∀ a : Act, a.tmps.size = 47 → (putAll a slotsT).tmps[0]? = a.tmps[0]? := fun a ha => by
    unfold slotsT
    rw [putAll_get tabP 1 a (by rw [ha]; show 1 + 45 ≤ 47; omega) 0, if_neg (by omega)]
  have h0 : ∀ (a : Act) (v : Value), a.tmps.size = 47 → ((putAll a slotsT).put (some 46) v).eval (.tmp 0) = a.tmps[0]?.getD undef := fun a v ha => by
    have h1 := e0 a ha
    simp [Act.eval, Act.put, h1]
  have h46 : ∀ (a : Act) (v : Value), a.tmps.size = 47 → ((putAll a slotsT).put (some 46) v).eval (.tmp 46) = v := fun a v ha => by
    have h1 := hsz a
    simp [Act.eval, Act.put, h1, ha]
  have hn0 : ∀ (a : Act) (v u : Value), a.tmps.size = 47 → (((putAll a slotsT).put (some 46) v).put none u).tmps.getD 0 undef = a.tmps[0]?.getD undef := fun a v u ha => by
    have h1 := e0 a ha
    simp [Act.put, h1]
  have hdf : ∀ (a : Act) (v u : Value), ((a.put (some 46) v).put none u).defers = a.defers := fun _ _ _ => rfl
  refine wpList_build lastT_guard 126 partsT lastT_op ?_ ?_
  · rw [parts_rows _ tabP partsT 45 rfl partsT_eq (fun k hk => ?_), builtT]; rfl
    have hk' : k < 45 := hk
    unfold slotsT
    rw [putAll_get tabP 1 _ (by show 1 + 45 ≤ 47; omega) (k + 1), if_pos ⟨by omega, by show k + 1 < 1 + 45; omega⟩, Nat.add_sub_cancel, List.getElem?_eq_getElem hk]
    rfl
  · rw [parts_rows _ tabP partsT 45 rfl partsT_eq (fun k hk => ?_), builtT]
    · rw [lastT_dst]
      refine wpList_store_row endT_guard 126 (.tmp 0) (.tmp 46) endT_op w.heap.size cellsT ?_ ?_ 126 _ (heap_alloc_last w _) (by rw [sizeT, cellsT_size]) ?_ cellsT_one (wpList_nil ?_)
      · rw [h0 _ _ (by rfl)]; rfl
      · rw [h46 _ _ (by rfl)]; rfl
      · rw [cellsT_size]; kernel_rfl
      · rename_i Q' K hK
        rw [World.setRow_alloc_new]
        refine hK _ _ (wp_ret (bodyPost_ret (v := .agg cellsT) ?_ ?_ ⟨rfl, (Below.refl _ w).alloc (Nat.le_refl _) _⟩))
        · rw [endT_dst]
          refine results_cell_row Try.results95 _ _ w.heap.size 126 cellsT (0, 0) _ ?_ (heap_alloc_last w _) Try.underlying126 rfl (by rw [sizeT, cellsT_size])
          rw [hn0 _ _ _ (by rfl)]; rfl
        · rw [endT_dst, hdf, putAll_defers]
    · have hk' : k < 45 := hk
      unfold slotsT
      rw [putAll_get tabP 1 _ (by show 1 + 45 ≤ 47; omega) (k + 1), if_pos ⟨by omega, by show k + 1 < 1 + 45; omega⟩, Nat.add_sub_cancel, List.getElem?_eq_getElem hk]
      rfl
end Go.Proofs.Ytbkpokipibgdfaa
