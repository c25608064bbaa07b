/- Layer 7: the reference's table of keys, and what finds a row in it. -/
import Derived.Test.YtbkpokipibgdfaaHa
import Derived.Great.BuildSlice
namespace Go.Proofs.Ytbkpokipibgdfaa
open Go.RowKit Go.Lib

/-- A row as the reference lays it: key, group, least, greatest, preset value, name. -/
def rowR6 (r : Row) : List Value := [.int .i64 r.1, .int .i64 r.2.2.1, .int .i64 r.2.2.2.1, .int .i64 r.2.2.2.2.1, .int .i64 r.2.2.2.2.2, .string r.2.1]
def rowRV (r : Row) : Value := .agg (rowR6 r).toArray
def cellsR : Array Value := (tabP.flatMap rowR6).toArray
theorem built30 (k : Int) (nm : ByteArray) (g lo hi d : Int) : Program.built Try.prog 57 [(0, .int .i64 k), (1, .int .i64 g), (2, .int .i64 lo), (3, .int .i64 hi), (4, .int .i64 d), (5, .string nm)] = some (rowR6 (k, nm, g, lo, hi, d)).toArray := by kernel_rfl
def mkRowR (pos : String) (x : Nat × Row) : Oper :=
  { dst := some x.1, op := .build 57 #[(0, .const (.int .i64 x.2.1)), (1, .const (.int .i64 x.2.2.2.1)), (2, .const (.int .i64 x.2.2.2.2.1)), (3, .const (.int .i64 x.2.2.2.2.2.1)), (4, .const (.int .i64 x.2.2.2.2.2.2)), (5, .const (.string x.2.2.1))], type := 57, pos := pos, after := #[], guard := none }
def putAllR (a : Act) (l : List (Nat × Row)) : Act := l.foldl (fun a x => a.put (some x.1) (rowRV x.2)) a
theorem wpList_rowsR {ops : Array Oper} {Q : Exit → Act → World → Prop} {rest : List Oper} {w : World} (pos : String)
    (l : List (Nat × Row)) (a : Act) (h : wpList Try.prog ops Q rest (putAllR a l) w) : wpList Try.prog ops Q (l.map (mkRowR pos) ++ rest) a w := by
  induction l generalizing a with
  | nil => exact h
  | cons x l ih =>
    obtain ⟨i, k, nm, g, lo, hi, d⟩ := x
    have e := built30 k nm g lo hi d
    refine wpList_build rfl 57 _ rfl (by simpa [Act.eval] using congrArg Option.isSome e) ?_
    have e' : (Program.built Try.prog 57 ((#[(0, Operand.const (.int .i64 k)), (1, .const (.int .i64 g)), (2, .const (.int .i64 lo)), (3, .const (.int .i64 hi)), (4, .const (.int .i64 d)), (5, .const (.string nm))] : Array (Nat × Operand)).map fun (i, x) => (i, a.eval x)).toList).getD #[] = (rowR6 (k, nm, g, lo, hi, d)).toArray := by
      simpa [Act.eval] using congrArg (·.getD #[]) e
    rw [e']
    exact ih _ h
theorem putAllR_defers (a : Act) (l : List (Nat × Row)) : (putAllR a l).defers = a.defers := by
  unfold putAllR
  induction l generalizing a with
  | nil => rfl
  | cons x l ih => rw [List.foldl_cons, ih]; rfl
theorem putAllR_size (a : Act) (l : List (Nat × Row)) : (putAllR a l).tmps.size = a.tmps.size := by
  unfold putAllR
  induction l generalizing a with
  | nil => rfl
  | cons x l ih => rw [List.foldl_cons, ih]; simp [Act.put]
theorem putAllR_get (l : List Row) (i0 : Nat) (a : Act) (h : i0 + l.length ≤ a.tmps.size) (k : Nat) :
    (putAllR a ((l.zipIdx i0).map fun x => (x.2, x.1))).tmps[k]? = if i0 ≤ k ∧ k < i0 + l.length then (l[k - i0]?).map rowRV else a.tmps[k]? := by
  induction l generalizing i0 a with
  | nil =>
    rw [if_neg (by simp only [List.length_nil]; omega)]; rfl
  | cons s l ih =>
    have hl : (s :: l).length = l.length + 1 := rfl
    have e : putAllR a (((s :: l).zipIdx i0).map fun x => (x.2, x.1)) = putAllR (a.put (some i0) (rowRV s)) ((l.zipIdx (i0 + 1)).map fun x => (x.2, x.1)) := rfl
    have hsz : (a.put (some i0) (rowRV s)).tmps.size = a.tmps.size := by simp [Act.put]
    rw [e, ih (i0 + 1) _ (by rw [hsz]; omega)]
    by_cases h1 : k = i0
    · subst h1
      rw [if_neg (by omega), if_pos (by omega), Nat.sub_self]
      simp [Act.put, Array.getElem?_setIfInBounds]
      omega
    · by_cases h2 : i0 + 1 ≤ k ∧ k < i0 + 1 + l.length
      · rw [if_pos h2, if_pos (by omega)]
        have e2 : k - i0 = (k - (i0 + 1)) + 1 := by omega
        rw [e2, List.getElem?_cons_succ]
      · rw [if_neg h2, if_neg (by omega)]
        simp [Act.put, Ne.symm h1]
theorem wpList_assignR {P : Program} {ops : Array Oper} {Q : Exit → Act → World → Prop} {rest : List Oper} {w : World} {o : Oper} {a : Act} (hg : o.guard = none) (x : Operand) (h : o.op = .assign x)
    (hk : wpList P ops Q rest (a.put o.dst (a.eval x)) w) : wpList P ops Q (o :: rest) a w :=
  wpList_plain hg fun _ hK => by unfold Oper.wp execOp; rw [h]; exact hK _ _ hk
noncomputable def opsR : List Oper := match Try.f42.body with
  | some (.seq _ (.seq (.region _ o _) _)) => o.toList
  | _ => []
def slotsR : List (Nat × Row) := (tabP.zipIdx 1).map fun x => (x.2, x.1)
noncomputable def lastR : Oper := (opsR.drop 45).headD { dst := none, op := .assign (.const undef), type := 0, pos := "", after := #[], guard := none }
noncomputable def endR : Oper := (opsR.drop 46).headD { dst := none, op := .assign (.const undef), type := 0, pos := "", after := #[], guard := none }
set_option maxRecDepth 1000000 in
theorem opsR_eq : opsR = slotsR.map (mkRowR "ref.go:14") ++ [lastR, endR] := by kernel_rfl
noncomputable def partsR : Array (Nat × Operand) := match lastR.op with
  | .buildSlice _ _ p => p
  | _ => #[]
set_option maxRecDepth 1000000 in
theorem lastR_op : lastR.op = .buildSlice 68 45 partsR := by kernel_rfl
theorem lastR_guard : lastR.guard = none := by kernel_rfl
theorem lastR_dst : lastR.dst = some 46 := by kernel_rfl
theorem endR_op : endR.op = .assign (.tmp 46) := by kernel_rfl
theorem endR_guard : endR.guard = none := by kernel_rfl
theorem endR_dst : endR.dst = some 0 := by kernel_rfl
set_option maxRecDepth 1000000 in
theorem partsR_eq : partsR.toList = (List.range 45).map fun i => (i, Operand.tmp (i + 1)) := by kernel_rfl
theorem info30 : (Try.prog.info? 57).map (fun i => (i.zero, i.size)) = some (some (.agg #[.int .i64 0, .int .i64 0, .int .i64 0, .int .i64 0, .int .i64 0, .string ⟨#[]⟩]), 6) := by kernel_rfl
theorem fill_rowsR (l : List Row) (z : Array Value) (hz : z.size = l.length * 6) :
    Instr.fill (fun i => some (i * 6, 6)) z (((l.map rowRV).zipIdx 0).map fun x => (x.2, x.1)) = some (l.flatMap rowR6).toArray := by
  rw [Great.fill_whole (by decide) (l.map rowRV) z (fun v hv => by obtain ⟨s, _, rfl⟩ := List.mem_map.1 hv; rfl) (by rw [List.length_map, hz])]
  congr 2
  rw [List.flatMap_map]
  rfl
theorem parts_rowsR (a : Act) (l : List Row) (parts : Array (Nat × Operand)) (n : Nat) (hn : l.length = n) (hp : parts.toList = (List.range n).map fun i => (i, Operand.tmp (i + 1)))
    (ha : ∀ k (h : k < l.length), a.tmps[k + 1]? = some (rowRV l[k])) : (parts.map fun (i, x) => (i, a.eval x)).toList = ((l.map rowRV).zipIdx 0).map fun x => (x.2, x.1) := by
  rw [Array.toList_map, hp]
  apply List.ext_getElem
  · simp [hn]
  · intro k h1 h2
    have hk : k < l.length := by simpa using h2
    have e := ha k hk
    simp only [List.getElem_map, List.getElem_range, List.getElem_zipIdx, Nat.zero_add]
    have : a.eval (Operand.tmp (k + 1)) = rowRV l[k] := by
      simp [Act.eval, e]
    rw [this]
theorem table_endR {ops : Array Oper} {Q : Exit → Act → World → Prop} {w : World} (a : Act) (l : List Row) (n : Nat) (parts : Array (Nat × Operand)) (o1 o2 : Oper) (d1 : Tmp)
    (hn : l.length = n) (h0 : 0 < n) (hsm : n ≤ 1000) (hp : parts.toList = (List.range n).map fun i => (i, Operand.tmp (i + 1)))
    (g1 : o1.guard = none) (e1 : o1.op = .buildSlice 68 n parts) (t1 : o1.dst = some d1) (g2 : o2.guard = none) (e2 : o2.op = .assign (.tmp d1))
    (ha : ∀ k (h : k < l.length), a.tmps[k + 1]? = some (rowRV l[k])) (hd : d1 < a.tmps.size)
    (h : Q .normal ((a.put (some d1) (.slice (some ⟨w.heap.size, 0, none⟩) n n)).put o2.dst (.slice (some ⟨w.heap.size, 0, none⟩) n n)) (w.alloc (.cells (l.flatMap rowR6).toArray 57))) : wpList Try.prog ops Q [o1, o2] a w := by
  have hi := info30
  cases hie : Try.prog.info? 57 with
  | none => rw [hie] at hi; cases hi
  | some ie =>
    rw [hie] at hi
    simp only [Option.map_some, Option.some.injEq, Prod.mk.injEq] at hi
    obtain ⟨hz, hs⟩ := hi
    refine wpList_buildSlice g1 68 57 n parts e1 (l.flatMap rowR6).toArray ie _ Try.underlying68 hie hz (by rw [hs]; omega) (by rw [hs]; omega) ?_ ?_
    · rw [hs, parts_rowsR a l parts n hn hp ha]
      exact fill_rowsR l _ (by simp [hn])
    · rw [t1]
      refine wpList_assignR g2 _ e2 (wpList_nil ?_)
      have : (a.put (some d1) (.slice (some ⟨w.heap.size, 0, none⟩) n n)).eval (.tmp d1) = .slice (some ⟨w.heap.size, 0, none⟩) n n := by
        simp [Act.eval, Act.put, hd]
      rw [this]
      exact h
theorem ret_slot0 {P : Program} {fn : Func} {R : Ending → World → Prop} {a : Act} {w : World} {v : Value} (hr : fn.results = #[.tmp 0]) (h0 : 0 < a.tmps.size) (hd : a.defers = []) (hR : R (.returned v) w) :
    Code.ret.wp P (bodyPost P fn R) (a.put (some 0) v) w := by
  refine wp_ret (bodyPost_ret (v := v) ?_ hd hR)
  rw [results_tmp hr]
  simp [Act.put, h0]
set_option maxRecDepth 1000000 in
set_option maxHeartbeats 4000000 in
theorem refTable_any (w : World) :
    Calls Try.prog 42 #[] w fun e w' => e = .returned (.slice (some ⟨w.heap.size, 0, none⟩) 45 45) ∧ w' = w.alloc (.cells cellsR 57) := by
  go_enter Try.func42, Try.ntmps42
  refine wp_seq (wp_region_list (wpList_assignR rfl _ rfl (wpList_nil ?_)))
  refine wp_seq (wp_region_list ?_)
  change wpList Try.prog _ _ opsR _ _
  rw [opsR_eq]
  refine wpList_rowsR "ref.go:14" slotsR _ ?_
  refine table_endR _ tabP 45 partsR lastR endR 46 rfl (by decide) (by decide) partsR_eq lastR_guard lastR_op lastR_dst endR_guard endR_op ?_ ?_ ?_
  · intro k hk
    have hk' : k < 45 := hk
    unfold slotsR
    rw [putAllR_get tabP 1 _ (by show 1 + 45 ≤ 47; omega) (k + 1), if_pos ⟨by omega, by show k + 1 < 1 + 45; omega⟩, Nat.add_sub_cancel, List.getElem?_eq_getElem hk]
    rfl
  · rw [putAllR_size]; decide
  · rw [endR_dst]
    dsimp only [Exit.then]
    refine ret_slot0 rfl ?_ ?_ ⟨rfl, rfl⟩
    · simp only [Act.put, Array.size_setIfInBounds, putAllR_size]; decide
    · rw [show ∀ (a : Act) v, (a.put (some 46) v).defers = a.defers from fun _ _ => rfl, putAllR_defers]; rfl
end Go.Proofs.Ytbkpokipibgdfaa
