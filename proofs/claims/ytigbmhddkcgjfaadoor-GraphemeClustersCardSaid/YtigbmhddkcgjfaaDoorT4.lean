import Derived.Test.YtigbmhddkcgjfaaDoorT3
namespace Go.Proofs.YtigbmhddkcgjfaaDoor
open Go.RowKit
open Gc

theorem wpList_assign' {P : Program} {ops : Array Oper} {Q : Exit → Act → World → Prop} {rest : List Oper} {w : World} {o : Oper} {a : Act} (hg : o.guard = none) (x : Operand) (h : o.op = .assign x)
    (hk : wpList P ops Q rest (a.put o.dst (a.eval x)) w) : wpList P ops Q (o :: rest) a w :=
  wpList_plain hg fun _ hK => by unfold Oper.wp execOp; rw [h]; exact hK _ _ hk

/-- A list of operations that begins with the builds of a table. -/
theorem wpList_table {P : Program} {ops : Array Oper} {Q : Exit → Act → World → Prop} {w : World} (t : TypeId) (pos : String)
    (hb : ∀ a b c : Int, Program.built P t [(0, .int .i64 a), (1, .int .i64 b), (2, .int .i64 c)] = some #[.int .i64 a, .int .i64 b, .int .i64 c])
    (l : List (Nat × Span)) (os : List Oper) (o1 o2 : Oper) (hos : os = l.map (mkSpan t pos) ++ [o1, o2]) (a : Act)
    (h : wpList P ops Q [o1, o2] (putAll a l) w) : wpList P ops Q os a w := by
  rw [hos]
  exact wpList_spans t pos hb l a h

noncomputable def ops18 : List Oper := match Tryd.f32.body with
  | some (.seq _ (.seq (.region _ o _) _)) => o.toList
  | _ => []
def slots18 : List (Nat × Span) := (tabA.zipIdx 1).map fun x => (x.2, x.1)
noncomputable def last18 : Oper := (ops18.drop 94).headD { dst := none, op := .assign (.const undef), type := 0, pos := "", after := #[], guard := none }
noncomputable def end18 : Oper := (ops18.drop 95).headD { dst := none, op := .assign (.const undef), type := 0, pos := "", after := #[], guard := none }
set_option maxRecDepth 1000000 in
theorem ops18_eq : ops18 = slots18.map (mkSpan 73 "class.go:42") ++ [last18, end18] := by kernel_rfl
noncomputable def parts18 : Array (Nat × Operand) := match last18.op with
  | .buildSlice _ _ p => p
  | _ => #[]
set_option maxRecDepth 1000000 in
theorem last18_op : last18.op = .buildSlice 55 94 parts18 := by kernel_rfl
theorem last18_guard : last18.guard = none := by kernel_rfl
theorem last18_dst : last18.dst = some 95 := by kernel_rfl
theorem end18_op : end18.op = .assign (.tmp 95) := by kernel_rfl
theorem end18_guard : end18.guard = none := by kernel_rfl
theorem end18_dst : end18.dst = some 0 := by kernel_rfl
set_option maxRecDepth 1000000 in
theorem parts18_eq : parts18.toList = (List.range 94).map fun i => (i, Operand.tmp (i + 1)) := by kernel_rfl

theorem info73 : (Tryd.prog.info? 73).map (fun i => (i.zero, i.size)) = some (some (.agg #[.int .i64 0, .int .i64 0, .int .i64 0]), 3) := by kernel_rfl

/-- What the last build of a table of spans lays. -/
theorem fill_spans (l : List Span) (z : Array Value) (hz : z.size = l.length * 3) :
    Instr.fill (fun i => some (i * 3, 3)) z (((l.map spanV).zipIdx 0).map fun x => (x.2, x.1)) = some (rowOf l) := by
  rw [Great.fill_whole (by decide) (l.map spanV) z (fun v hv => by obtain ⟨s, _, rfl⟩ := List.mem_map.1 hv; rfl) (by rw [List.length_map, hz])]
  congr 2
  rw [List.flatMap_map]
  rfl


theorem parts_spans (a : Act) (l : List Span) (parts : Array (Nat × Operand)) (n : Nat) (hn : l.length = n) (hp : parts.toList = (List.range n).map fun i => (i, Operand.tmp (i + 1)))
    (ha : ∀ k (h : k < l.length), a.tmps[k + 1]? = some (spanV l[k])) : (parts.map fun (i, x) => (i, a.eval x)).toList = ((l.map spanV).zipIdx 0).map fun x => (x.2, x.1) := by
  rw [Array.toList_map, hp]
  apply List.ext_getElem
  · simp [hn]
  · intro k h1 h2
    have hk : k < l.length := by simpa using h2
    have e := ha k hk
    simp only [List.getElem_map, List.getElem_range, List.getElem_zipIdx, Nat.zero_add]
    have : a.eval (Operand.tmp (k + 1)) = spanV l[k] := by
      simp [Act.eval, e]
    rw [this]

theorem table_end {ops : Array Oper} {Q : Exit → Act → World → Prop} {w : World} (a : Act) (l : List Span) (n : Nat) (parts : Array (Nat × Operand)) (o1 o2 : Oper) (d1 : Tmp)
    (hn : l.length = n) (h0 : 0 < n) (hsm : n ≤ 1000) (hp : parts.toList = (List.range n).map fun i => (i, Operand.tmp (i + 1)))
    (g1 : o1.guard = none) (e1 : o1.op = .buildSlice 55 n parts) (t1 : o1.dst = some d1) (g2 : o2.guard = none) (e2 : o2.op = .assign (.tmp d1))
    (ha : ∀ k (h : k < l.length), a.tmps[k + 1]? = some (spanV l[k])) (hd : d1 < a.tmps.size)
    (h : Q .normal ((a.put (some d1) (.slice (some ⟨w.heap.size, 0, none⟩) n n)).put o2.dst (.slice (some ⟨w.heap.size, 0, none⟩) n n)) (w.alloc (.cells (rowOf l) 73))) : wpList Tryd.prog ops Q [o1, o2] a w := by
  have hi := info73
  cases hie : Tryd.prog.info? 73 with
  | none => rw [hie] at hi; cases hi
  | some ie =>
    rw [hie] at hi
    simp only [Option.map_some, Option.some.injEq, Prod.mk.injEq] at hi
    obtain ⟨hz, hs⟩ := hi
    refine wpList_buildSlice g1 55 73 n parts e1 (rowOf l) ie _ Tryd.underlying55 hie hz (by rw [hs]; omega) (by rw [hs]; omega) ?_ ?_
    · rw [hs, parts_spans a l parts n hn hp ha]
      exact fill_spans l _ (by simp [hn])
    · rw [t1]
      refine wpList_assign' g2 _ e2 (wpList_nil ?_)
      have : (a.put (some d1) (.slice (some ⟨w.heap.size, 0, none⟩) n n)).eval (.tmp d1) = .slice (some ⟨w.heap.size, 0, none⟩) n n := by
        simp [Act.eval, Act.put, hd]
      rw [this]
      exact h

theorem ret_slot0 {P : Program} {fn : Func} {R : Ending → World → Prop} {a : Act} {w : World} {v : Value} (hr : fn.results = #[.tmp 0]) (h0 : 0 < a.tmps.size) (hd : a.defers = []) (hR : R (.returned v) w) :
    Code.ret.wp P (bodyPost P fn R) (a.put (some 0) v) w := by
  refine wp_ret (bodyPost_ret (v := v) ?_ hd hR)
  rw [results_tmp hr]
  simp [Act.put, h0]

set_option maxRecDepth 1000000 in
set_option maxHeartbeats 4000000 in
theorem classTable_any (w : World) :
    Calls Tryd.prog 32 #[] w fun e w' => e = .returned (.slice (some ⟨w.heap.size, 0, none⟩) 94 94) ∧ w' = w.alloc (.cells (rowOf tabA) 73) := by
  go_enter Tryd.func32, Tryd.ntmps32
  refine wp_seq (wp_region_list (wpList_assign' rfl _ rfl (wpList_nil ?_)))
  refine wp_seq (wp_region_list (wpList_table 73 "class.go:42" built73 slots18 _ last18 end18 ops18_eq _ ?_))
  refine table_end _ tabA 94 parts18 last18 end18 95 rfl (by decide) (by decide) parts18_eq last18_guard last18_op last18_dst end18_guard end18_op ?_ ?_ ?_
  · intro k hk
    have hk' : k < 94 := hk
    unfold slots18
    rw [putAll_get tabA 1 _ (by decide) (k + 1), if_pos ⟨by omega, by omega⟩, Nat.add_sub_cancel, List.getElem?_eq_getElem hk]
    rfl
  · rw [putAll_size]; decide
  · rw [end18_dst]
    dsimp only [Exit.then]
    refine ret_slot0 rfl ?_ ?_ ⟨rfl, rfl⟩
    · simp only [Act.put, Array.size_setIfInBounds, putAll_size]; decide
    · rw [show ∀ (a : Act) v, (a.put (some 95) v).defers = a.defers from fun _ _ => rfl, putAll_defers]; rfl
end Go.Proofs.YtigbmhddkcgjfaaDoor
