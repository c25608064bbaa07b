import Derived.Test.YthjooopppidcfaaDoorProg
import Derived.Test.YthjooopppidcfaaDoorMB
import Derived.Ground.NamesProg
import Derived.WalkKit
import Derived.WalkMore
import Derived.Below
import Derived.Great.BuildSlice
import Derived.LoopTactic
import Derived.Lib.Hide
import Derived.Deep.LoopGhost

namespace Go.Proofs.YthjooopppidcfaaDoor
open Go.RowKit
open Gc

def spanV (s : Span) : Value := .agg #[.int .i64 s.1, .int .i64 s.2.1, .int .i64 s.2.2]
def cmpOf (s : Span) (p : Int) : Int := if s.2.1 < p then -1 else if p < s.1 then 1 else 0

set_option maxRecDepth 100000 in
set_option maxHeartbeats 1000000 in
theorem compare_any (s : Span) (p : Int) (w : World) :
    Calls Tryd.prog 107 #[spanV s, .int .i64 p] w fun e w' => e = .returned (.int .i64 (cmpOf s p)) ∧ Below w.heap.size w w' := by
  obtain ⟨a, b, c⟩ := s
  unfold spanV cmpOf
  dsimp only
  by_cases h1 : b < p
  · rw [if_pos h1]
    go_enter Tryd.func107, Tryd.ntmps107
    go_wp2
    go_ret
    exact ⟨rfl, (Below.refl _ _).alloc (Nat.le_refl _) _⟩
  · rw [if_neg h1]
    have h1' : ¬ b < p := h1
    by_cases h2 : p < a
    · rw [if_pos h2]
      go_enter Tryd.func107, Tryd.ntmps107
      go_wp2
      go_ret
      exact ⟨rfl, (Below.refl _ _).alloc (Nat.le_refl _) _⟩
    · rw [if_neg h2]
      go_enter Tryd.func107, Tryd.ntmps107
      go_wp2
      go_ret
      exact ⟨rfl, (Below.refl _ _).alloc (Nat.le_refl _) _⟩
end Go.Proofs.YthjooopppidcfaaDoor

namespace Go.Proofs.YthjooopppidcfaaDoor
open Go.RowKit
open Gc
def rowOf (l : List Span) : Array Value := (l.flatMap fun s => [.int .i64 s.1, .int .i64 s.2.1, .int .i64 s.2.2]).toArray

theorem built73 (a b c : Int) : Program.built Tryd.prog 143 [(0, .int .i64 a), (1, .int .i64 b), (2, .int .i64 c)] = some #[.int .i64 a, .int .i64 b, .int .i64 c] := by kernel_rfl

def mkSpan (t : TypeId) (pos : String) (x : Nat × Span) : Oper :=
  { dst := some x.1, op := .build t #[(0, .const (.int .i64 x.2.1)), (1, .const (.int .i64 x.2.2.1)), (2, .const (.int .i64 x.2.2.2))], type := t, pos := pos, after := #[], guard := none }

def putAll (a : Act) (l : List (Nat × Span)) : Act := l.foldl (fun a x => a.put (some x.1) (spanV x.2)) a

theorem wpList_spans {P : Program} {ops : Array Oper} {Q : Exit → Act → World → Prop} {rest : List Oper} {w : World} (t : TypeId) (pos : String)
    (hb : ∀ a b c : Int, Program.built P t [(0, .int .i64 a), (1, .int .i64 b), (2, .int .i64 c)] = some #[.int .i64 a, .int .i64 b, .int .i64 c])
    (l : List (Nat × Span)) (a : Act) (h : wpList P ops Q rest (putAll a l) w) : wpList P ops Q (l.map (mkSpan t pos) ++ rest) a w := by
  induction l generalizing a with
  | nil => exact h
  | cons x l ih =>
    obtain ⟨k, p, q, r⟩ := x
    have e := hb p q r
    refine wpList_build rfl t _ rfl (by simpa [Act.eval] using congrArg Option.isSome e) ?_
    have e' : (Program.built P t ((#[(0, Operand.const (.int .i64 p)), (1, .const (.int .i64 q)), (2, .const (.int .i64 r))] : Array (Nat × Operand)).map fun (i, x) => (i, a.eval x)).toList).getD #[] = #[.int .i64 p, .int .i64 q, .int .i64 r] := by
      simpa [Act.eval] using congrArg (·.getD #[]) e
    rw [e']
    exact ih _ h

theorem putAll_defers (a : Act) (l : List (Nat × Span)) : (putAll a l).defers = a.defers := by
  unfold putAll
  induction l generalizing a with
  | nil => rfl
  | cons x l ih => rw [List.foldl_cons, ih]; rfl
theorem putAll_size (a : Act) (l : List (Nat × Span)) : (putAll a l).tmps.size = a.tmps.size := by
  unfold putAll
  induction l generalizing a with
  | nil => rfl
  | cons x l ih => rw [List.foldl_cons, ih]; simp [Act.put]

/-- Behind the builds into the slots from i0 on, slot i0 + k holds span k. -/
theorem putAll_get (l : List Span) (i0 : Nat) (a : Act) (h : i0 + l.length ≤ a.tmps.size) (k : Nat) :
    (putAll a ((l.zipIdx i0).map fun x => (x.2, x.1))).tmps[k]? = if i0 ≤ k ∧ k < i0 + l.length then (l[k - i0]?).map spanV else a.tmps[k]? := by
  induction l generalizing i0 a with
  | nil =>
    rw [if_neg (by simp only [List.length_nil]; omega)]; rfl
  | cons s l ih =>
    have hl : (s :: l).length = l.length + 1 := rfl
    have e : putAll a (((s :: l).zipIdx i0).map fun x => (x.2, x.1)) = putAll (a.put (some i0) (spanV s)) ((l.zipIdx (i0 + 1)).map fun x => (x.2, x.1)) := rfl
    have hsz : (a.put (some i0) (spanV s)).tmps.size = a.tmps.size := by simp [Act.put]
    rw [e, ih (i0 + 1) _ (by rw [hsz]; omega)]
    by_cases h1 : k = i0
    · subst h1
      rw [if_neg (by omega), if_pos (by omega), Nat.sub_self]
      simp [Act.put, Array.getElem?_setIfInBounds]
      omega
    · by_cases h2 : i0 + 1 ≤ k ∧ k < i0 + 1 + l.length
      · rw [if_pos h2, if_pos (by omega)]
        have e2 : k - i0 = (k - (i0 + 1)) + 1 := by omega
        rw [e2, List.getElem?_cons_succ]
      · rw [if_neg h2, if_neg (by omega)]
        simp [Act.put, Ne.symm h1]
end Go.Proofs.YthjooopppidcfaaDoor

namespace Go.Proofs.YthjooopppidcfaaDoor
open Go.RowKit
open Gc

theorem wpList_assign' {P : Program} {ops : Array Oper} {Q : Exit → Act → World → Prop} {rest : List Oper} {w : World} {o : Oper} {a : Act} (hg : o.guard = none) (x : Operand) (h : o.op = .assign x)
    (hk : wpList P ops Q rest (a.put o.dst (a.eval x)) w) : wpList P ops Q (o :: rest) a w :=
  wpList_plain hg fun _ hK => by unfold Oper.wp execOp; rw [h]; exact hK _ _ hk

/-- A list of operations that begins with the builds of a table. -/
theorem wpList_table {P : Program} {ops : Array Oper} {Q : Exit → Act → World → Prop} {w : World} (t : TypeId) (pos : String)
    (hb : ∀ a b c : Int, Program.built P t [(0, .int .i64 a), (1, .int .i64 b), (2, .int .i64 c)] = some #[.int .i64 a, .int .i64 b, .int .i64 c])
    (l : List (Nat × Span)) (os : List Oper) (o1 o2 : Oper) (hos : os = l.map (mkSpan t pos) ++ [o1, o2]) (a : Act)
    (h : wpList P ops Q [o1, o2] (putAll a l) w) : wpList P ops Q os a w := by
  rw [hos]
  exact wpList_spans t pos hb l a h

noncomputable def ops18 : List Oper := match Tryd.f99.body with
  | some (.seq _ (.seq (.region _ o _) _)) => o.toList
  | _ => []
def slots18 : List (Nat × Span) := (tabA.zipIdx 1).map fun x => (x.2, x.1)
noncomputable def last18 : Oper := (ops18.drop 94).headD { dst := none, op := .assign (.const undef), type := 0, pos := "", after := #[], guard := none }
noncomputable def end18 : Oper := (ops18.drop 95).headD { dst := none, op := .assign (.const undef), type := 0, pos := "", after := #[], guard := none }
set_option maxRecDepth 1000000 in
theorem ops18_eq : ops18 = slots18.map (mkSpan 143 "class.go:42") ++ [last18, end18] := by kernel_rfl
noncomputable def parts18 : Array (Nat × Operand) := match last18.op with
  | .buildSlice _ _ p => p
  | _ => #[]
set_option maxRecDepth 1000000 in
theorem last18_op : last18.op = .buildSlice 132 94 parts18 := by kernel_rfl
theorem last18_guard : last18.guard = none := by kernel_rfl
theorem last18_dst : last18.dst = some 95 := by kernel_rfl
theorem end18_op : end18.op = .assign (.tmp 95) := by kernel_rfl
theorem end18_guard : end18.guard = none := by kernel_rfl
theorem end18_dst : end18.dst = some 0 := by kernel_rfl
set_option maxRecDepth 1000000 in
theorem parts18_eq : parts18.toList = (List.range 94).map fun i => (i, Operand.tmp (i + 1)) := by kernel_rfl

theorem info73 : (Tryd.prog.info? 143).map (fun i => (i.zero, i.size)) = some (some (.agg #[.int .i64 0, .int .i64 0, .int .i64 0]), 3) := by kernel_rfl

/-- What the last build of a table of spans lays. -/
theorem fill_spans (l : List Span) (z : Array Value) (hz : z.size = l.length * 3) :
    Instr.fill (fun i => some (i * 3, 3)) z (((l.map spanV).zipIdx 0).map fun x => (x.2, x.1)) = some (rowOf l) := by
  rw [Great.fill_whole (by decide) (l.map spanV) z (fun v hv => by obtain ⟨s, _, rfl⟩ := List.mem_map.1 hv; rfl) (by rw [List.length_map, hz])]
  congr 2
  rw [List.flatMap_map]
  rfl


theorem parts_spans (a : Act) (l : List Span) (parts : Array (Nat × Operand)) (n : Nat) (hn : l.length = n) (hp : parts.toList = (List.range n).map fun i => (i, Operand.tmp (i + 1)))
    (ha : ∀ k (h : k < l.length), a.tmps[k + 1]? = some (spanV l[k])) : (parts.map fun (i, x) => (i, a.eval x)).toList = ((l.map spanV).zipIdx 0).map fun x => (x.2, x.1) := by
  rw [Array.toList_map, hp]
  apply List.ext_getElem
  · simp [hn]
  · intro k h1 h2
    have hk : k < l.length := by simpa using h2
    have e := ha k hk
    simp only [List.getElem_map, List.getElem_range, List.getElem_zipIdx, Nat.zero_add]
    have : a.eval (Operand.tmp (k + 1)) = spanV l[k] := by
      simp [Act.eval, e]
    rw [this]

theorem table_end {ops : Array Oper} {Q : Exit → Act → World → Prop} {w : World} (a : Act) (l : List Span) (n : Nat) (parts : Array (Nat × Operand)) (o1 o2 : Oper) (d1 : Tmp)
    (hn : l.length = n) (h0 : 0 < n) (hsm : n ≤ 1000) (hp : parts.toList = (List.range n).map fun i => (i, Operand.tmp (i + 1)))
    (g1 : o1.guard = none) (e1 : o1.op = .buildSlice 132 n parts) (t1 : o1.dst = some d1) (g2 : o2.guard = none) (e2 : o2.op = .assign (.tmp d1))
    (ha : ∀ k (h : k < l.length), a.tmps[k + 1]? = some (spanV l[k])) (hd : d1 < a.tmps.size)
    (h : Q .normal ((a.put (some d1) (.slice (some ⟨w.heap.size, 0, none⟩) n n)).put o2.dst (.slice (some ⟨w.heap.size, 0, none⟩) n n)) (w.alloc (.cells (rowOf l) 143))) : wpList Tryd.prog ops Q [o1, o2] a w := by
  have hi := info73
  cases hie : Tryd.prog.info? 143 with
  | none => rw [hie] at hi; cases hi
  | some ie =>
    rw [hie] at hi
    simp only [Option.map_some, Option.some.injEq, Prod.mk.injEq] at hi
    obtain ⟨hz, hs⟩ := hi
    refine wpList_buildSlice g1 132 143 n parts e1 (rowOf l) ie _ Tryd.underlying132 hie hz (by rw [hs]; omega) (by rw [hs]; omega) ?_ ?_
    · rw [hs, parts_spans a l parts n hn hp ha]
      exact fill_spans l _ (by simp [hn])
    · rw [t1]
      refine wpList_assign' g2 _ e2 (wpList_nil ?_)
      have : (a.put (some d1) (.slice (some ⟨w.heap.size, 0, none⟩) n n)).eval (.tmp d1) = .slice (some ⟨w.heap.size, 0, none⟩) n n := by
        simp [Act.eval, Act.put, hd]
      rw [this]
      exact h

theorem ret_slot0 {P : Program} {fn : Func} {R : Ending → World → Prop} {a : Act} {w : World} {v : Value} (hr : fn.results = #[.tmp 0]) (h0 : 0 < a.tmps.size) (hd : a.defers = []) (hR : R (.returned v) w) :
    Code.ret.wp P (bodyPost P fn R) (a.put (some 0) v) w := by
  refine wp_ret (bodyPost_ret (v := v) ?_ hd hR)
  rw [results_tmp hr]
  simp [Act.put, h0]

set_option maxRecDepth 1000000 in
set_option maxHeartbeats 4000000 in
theorem classTable_any (w : World) :
    Calls Tryd.prog 99 #[] w fun e w' => e = .returned (.slice (some ⟨w.heap.size, 0, none⟩) 94 94) ∧ w' = w.alloc (.cells (rowOf tabA) 143) := by
  go_enter Tryd.func99, Tryd.ntmps99
  refine wp_seq (wp_region_list (wpList_assign' rfl _ rfl (wpList_nil ?_)))
  refine wp_seq (wp_region_list (wpList_table 143 "class.go:42" built73 slots18 _ last18 end18 ops18_eq _ ?_))
  refine table_end _ tabA 94 parts18 last18 end18 95 rfl (by decide) (by decide) parts18_eq last18_guard last18_op last18_dst end18_guard end18_op ?_ ?_ ?_
  · intro k hk
    have hk' : k < 94 := hk
    unfold slots18
    rw [putAll_get tabA 1 _ (by decide) (k + 1), if_pos ⟨by omega, by omega⟩, Nat.add_sub_cancel, List.getElem?_eq_getElem hk]
    rfl
  · rw [putAll_size]; decide
  · rw [end18_dst]
    dsimp only [Exit.then]
    refine ret_slot0 rfl ?_ ?_ ⟨rfl, rfl⟩
    · simp only [Act.put, Array.size_setIfInBounds, putAll_size]; decide
    · rw [show ∀ (a : Act) v, (a.put (some 95) v).defers = a.defers from fun _ _ => rfl, putAll_defers]; rfl
end Go.Proofs.YthjooopppidcfaaDoor

namespace Go.Proofs.YthjooopppidcfaaDoor
open Go.RowKit
open Gc

theorem built76 (a b c : Int) : Program.built Tryd.prog 139 [(0, .int .i64 a), (1, .int .i64 b), (2, .int .i64 c)] = some #[.int .i64 a, .int .i64 b, .int .i64 c] := by kernel_rfl
theorem info76 : (Tryd.prog.info? 139).map (fun i => (i.zero, i.size)) = some (some (.agg #[.int .i64 0, .int .i64 0, .int .i64 0]), 3) := by kernel_rfl
theorem table_endR {ops : Array Oper} {Q : Exit → Act → World → Prop} {w : World} (a : Act) (l : List Span) (n : Nat) (parts : Array (Nat × Operand)) (o1 o2 : Oper) (d1 : Tmp)
    (hn : l.length = n) (h0 : 0 < n) (hsm : n ≤ 1000) (hp : parts.toList = (List.range n).map fun i => (i, Operand.tmp (i + 1)))
    (g1 : o1.guard = none) (e1 : o1.op = .buildSlice 119 n parts) (t1 : o1.dst = some d1) (g2 : o2.guard = none) (e2 : o2.op = .assign (.tmp d1))
    (ha : ∀ k (h : k < l.length), a.tmps[k + 1]? = some (spanV l[k])) (hd : d1 < a.tmps.size)
    (h : Q .normal ((a.put (some d1) (.slice (some ⟨w.heap.size, 0, none⟩) n n)).put o2.dst (.slice (some ⟨w.heap.size, 0, none⟩) n n)) (w.alloc (.cells (rowOf l) 139))) : wpList Tryd.prog ops Q [o1, o2] a w := by
  have hi := info76
  cases hie : Tryd.prog.info? 139 with
  | none => rw [hie] at hi; cases hi
  | some ie =>
    rw [hie] at hi
    simp only [Option.map_some, Option.some.injEq, Prod.mk.injEq] at hi
    obtain ⟨hz, hs⟩ := hi
    refine wpList_buildSlice g1 119 139 n parts e1 (rowOf l) ie _ Tryd.underlying119 hie hz (by rw [hs]; omega) (by rw [hs]; omega) ?_ ?_
    · rw [hs, parts_spans a l parts n hn hp ha]
      exact fill_spans l _ (by simp [hn])
    · rw [t1]
      refine wpList_assign' g2 _ e2 (wpList_nil ?_)
      have : (a.put (some d1) (.slice (some ⟨w.heap.size, 0, none⟩) n n)).eval (.tmp d1) = .slice (some ⟨w.heap.size, 0, none⟩) n n := by
        simp [Act.eval, Act.put, hd]
      rw [this]
      exact h

noncomputable def ops20 : List Oper := match Tryd.f88.body with
  | some (.seq _ (.seq (.region _ o _) _)) => o.toList
  | _ => []
def slots20 : List (Nat × Span) := (tabM.zipIdx 1).map fun x => (x.2, x.1)
noncomputable def last20 : Oper := (ops20.drop 61).headD { dst := none, op := .assign (.const undef), type := 0, pos := "", after := #[], guard := none }
noncomputable def end20 : Oper := (ops20.drop 62).headD { dst := none, op := .assign (.const undef), type := 0, pos := "", after := #[], guard := none }
set_option maxRecDepth 1000000 in
theorem ops20_eq : ops20 = slots20.map (mkSpan 139 "ref.go:28") ++ [last20, end20] := by kernel_rfl
noncomputable def parts20 : Array (Nat × Operand) := match last20.op with
  | .buildSlice _ _ p => p
  | _ => #[]
set_option maxRecDepth 1000000 in
theorem last20_op : last20.op = .buildSlice 119 61 parts20 := by kernel_rfl
theorem last20_guard : last20.guard = none := by kernel_rfl
theorem last20_dst : last20.dst = some 62 := by kernel_rfl
theorem end20_op : end20.op = .assign (.tmp 62) := by kernel_rfl
theorem end20_guard : end20.guard = none := by kernel_rfl
theorem end20_dst : end20.dst = some 0 := by kernel_rfl
set_option maxRecDepth 1000000 in
theorem parts20_eq : parts20.toList = (List.range 61).map fun i => (i, Operand.tmp (i + 1)) := by kernel_rfl

set_option maxRecDepth 1000000 in
set_option maxHeartbeats 4000000 in
theorem marks_any (w : World) :
    Calls Tryd.prog 88 #[] w fun e w' => e = .returned (.slice (some ⟨w.heap.size, 0, none⟩) 61 61) ∧ w' = w.alloc (.cells (rowOf tabM) 139) := by
  go_enter Tryd.func88, Tryd.ntmps88
  refine wp_seq (wp_region_list (wpList_assign' rfl _ rfl (wpList_nil ?_)))
  refine wp_seq (wp_region_list (wpList_table 139 "ref.go:28" built76 slots20 _ last20 end20 ops20_eq _ ?_))
  refine table_endR _ tabM 61 parts20 last20 end20 62 rfl (by decide) (by decide) parts20_eq last20_guard last20_op last20_dst end20_guard end20_op ?_ ?_ ?_
  · intro k hk
    have hk' : k < 61 := hk
    unfold slots20
    rw [putAll_get tabM 1 _ (by decide) (k + 1), if_pos ⟨by omega, by omega⟩, Nat.add_sub_cancel, List.getElem?_eq_getElem hk]
    rfl
  · rw [putAll_size]; decide
  · rw [end20_dst]
    dsimp only [Exit.then]
    refine ret_slot0 rfl ?_ ?_ ⟨rfl, rfl⟩
    · simp only [Act.put, Array.size_setIfInBounds, putAll_size]; decide
    · rw [show ∀ (a : Act) v, (a.put (some 62) v).defers = a.defers from fun _ _ => rfl, putAll_defers]; rfl
noncomputable def ops21 : List Oper := match Tryd.f89.body with
  | some (.seq _ (.seq (.region _ o _) _)) => o.toList
  | _ => []
def slots21 : List (Nat × Span) := (tabL.zipIdx 1).map fun x => (x.2, x.1)
noncomputable def last21 : Oper := (ops21.drop 33).headD { dst := none, op := .assign (.const undef), type := 0, pos := "", after := #[], guard := none }
noncomputable def end21 : Oper := (ops21.drop 34).headD { dst := none, op := .assign (.const undef), type := 0, pos := "", after := #[], guard := none }
set_option maxRecDepth 1000000 in
theorem ops21_eq : ops21 = slots21.map (mkSpan 139 "ref.go:38") ++ [last21, end21] := by kernel_rfl
noncomputable def parts21 : Array (Nat × Operand) := match last21.op with
  | .buildSlice _ _ p => p
  | _ => #[]
set_option maxRecDepth 1000000 in
theorem last21_op : last21.op = .buildSlice 119 33 parts21 := by kernel_rfl
theorem last21_guard : last21.guard = none := by kernel_rfl
theorem last21_dst : last21.dst = some 34 := by kernel_rfl
theorem end21_op : end21.op = .assign (.tmp 34) := by kernel_rfl
theorem end21_guard : end21.guard = none := by kernel_rfl
theorem end21_dst : end21.dst = some 0 := by kernel_rfl
set_option maxRecDepth 1000000 in
theorem parts21_eq : parts21.toList = (List.range 33).map fun i => (i, Operand.tmp (i + 1)) := by kernel_rfl

set_option maxRecDepth 1000000 in
set_option maxHeartbeats 4000000 in
theorem letters_any (w : World) :
    Calls Tryd.prog 89 #[] w fun e w' => e = .returned (.slice (some ⟨w.heap.size, 0, none⟩) 33 33) ∧ w' = w.alloc (.cells (rowOf tabL) 139) := by
  go_enter Tryd.func89, Tryd.ntmps89
  refine wp_seq (wp_region_list (wpList_assign' rfl _ rfl (wpList_nil ?_)))
  refine wp_seq (wp_region_list (wpList_table 139 "ref.go:38" built76 slots21 _ last21 end21 ops21_eq _ ?_))
  refine table_endR _ tabL 33 parts21 last21 end21 34 rfl (by decide) (by decide) parts21_eq last21_guard last21_op last21_dst end21_guard end21_op ?_ ?_ ?_
  · intro k hk
    have hk' : k < 33 := hk
    unfold slots21
    rw [putAll_get tabL 1 _ (by decide) (k + 1), if_pos ⟨by omega, by omega⟩, Nat.add_sub_cancel, List.getElem?_eq_getElem hk]
    rfl
  · rw [putAll_size]; decide
  · rw [end21_dst]
    dsimp only [Exit.then]
    refine ret_slot0 rfl ?_ ?_ ⟨rfl, rfl⟩
    · simp only [Act.put, Array.size_setIfInBounds, putAll_size]; decide
    · rw [show ∀ (a : Act) v, (a.put (some 34) v).defers = a.defers from fun _ _ => rfl, putAll_defers]; rfl
end Go.Proofs.YthjooopppidcfaaDoor

namespace Go.Proofs.YthjooopppidcfaaDoor
open Go.RowKit
open Gc


/-- A row of spans: its cells. -/
def Row (w : World) (g : Nat) (l : List Span) : Prop := g < w.heap.size ∧ ∀ k (h : k < l.length),
  w.cell? ⟨g, k * 3, none⟩ = some (.int .i64 l[k].1) ∧ w.cell? ⟨g, k * 3 + 1, none⟩ = some (.int .i64 l[k].2.1) ∧ w.cell? ⟨g, k * 3 + 2, none⟩ = some (.int .i64 l[k].2.2)

set_option maxRecDepth 100000 in
set_option maxHeartbeats 1000000 in
theorem within_any (l : List Span) (g : Nat) (p : Int) (w : World) (hl : l.length ≤ 1000) (hg : g < w.heap.size) (hR : Row w g l) :
    Calls Tryd.prog 87 #[.slice (some ⟨g, 0, none⟩) l.length l.length, .int .i64 p] w fun e w' => e = .returned (.int .i64 (within l p)) ∧ Below w.heap.size w w' := by
  go_enter Tryd.func87, Tryd.ntmps87
  go_wp2
  go_loopw [5] (fun i wr => ∃ k : Nat, k ≤ l.length ∧ i = .int .i64 (k : Nat) ∧ Below w.heap.size w wr ∧ within l p = within (l.drop k) p) (fun i _ => l.length - (intOf i).toNat)
  case atStart => exact ⟨0, Nat.zero_le _, rfl, Below.refl _ _, rfl⟩
  case round =>
    obtain ⟨k, hk, rfl, hbw, hin⟩ := hrel
    by_cases hlt : k < l.length
    · have hc := hR.2 k hlt
      obtain ⟨h1, h2, h3⟩ := hc
      have c1 := (hbw.cell (p := ⟨g, k * 3, none⟩) hg).trans h1
      have c2 := (hbw.cell (p := ⟨g, k * 3 + 1, none⟩) hg).trans h2
      have c3 := (hbw.cell (p := ⟨g, k * 3 + 2, none⟩) hg).trans h3
      have hd : l.drop k = l[k] :: l.drop (k + 1) := List.drop_eq_getElem_cons hlt
      have hin2 : within l p = if has p l[k] then l[k].2.2 else within (l.drop (k + 1)) p := by rw [hin, hd]; rfl
      clear hin hd h1 h2 h3
      generalize l[k] = s at c1 c2 c3 hin2
      obtain ⟨x, y, z⟩ := s
      dsimp only at c1 c2 c3 hin2
      by_cases hx : x ≤ p
      · by_cases hy : p ≤ y
        · rw [if_pos ((has_iff p _).2 ⟨hx, hy⟩)] at hin2
          go_wp2
          go_ret
          exact ⟨by rw [hin2]; rfl, hbw⟩
        · rw [if_neg (fun h => hy ((has_iff p _).1 h).2)] at hin2
          have hbw2 := Go.Lib.hid hbw
          clear hbw
          go_wp2
          go_roundw
          case rel => exact ⟨k + 1, by omega, by go_num, hbw2.out, hin2⟩
          case measure => simp [intOf]; omega
      · rw [if_neg (fun h => hx ((has_iff p _).1 h).1)] at hin2
        have hbw2 := Go.Lib.hid hbw
        clear hbw
        go_wp2
        go_roundw
        case rel => exact ⟨k + 1, by omega, by go_num, hbw2.out, hin2⟩
        case measure => simp [intOf]; omega
    · have e : k = l.length := by omega
      rw [e, List.drop_length] at hin
      go_wp2
      go_ret
      exact ⟨by rw [hin]; rfl, hbw⟩
end Go.Proofs.YthjooopppidcfaaDoor

namespace Go.Proofs.YthjooopppidcfaaDoor
open Go.RowKit
open Gc

theorem rowOf_get (l : List Span) (k : Nat) (h : k < l.length) (j : Nat) (hj : j < 3) : (rowOf l)[k * 3 + j]? = [Value.int .i64 l[k].1, .int .i64 l[k].2.1, .int .i64 l[k].2.2][j]? := by
  have e : rowOf l = ((l.map spanV).flatMap fun v => v.cells.toList).toArray := by
    unfold rowOf
    rw [List.flatMap_map]; rfl
  rw [e, List.getElem?_toArray, Great.flat_get (s := 3) (by decide) (l.map spanV) (fun v hv => by obtain ⟨s, _, rfl⟩ := List.mem_map.1 hv; rfl)]
  have e1 : (k * 3 + j) / 3 = k := by omega
  have e2 : (k * 3 + j) % 3 = j := by omega
  rw [e1, e2, List.getElem?_map, List.getElem?_eq_getElem h]
  simp only [Option.map_some, Option.bind_some]
  obtain ⟨a, b, c⟩ := l[k]
  match j, hj with
  | 0, _ => rfl
  | 1, _ => rfl
  | 2, _ => rfl

theorem row_alloc (w : World) (l : List Span) (t : TypeId) : Row (w.alloc (.cells (rowOf l) t)) w.heap.size l := by
  refine ⟨by simp, fun k h => ?_⟩
  have h0 := rowOf_get l k h 0 (by decide)
  have h1 := rowOf_get l k h 1 (by decide)
  have h2 := rowOf_get l k h 2 (by decide)
  simp only [Nat.add_zero, List.getElem?_cons_zero, List.getElem?_cons_succ] at h0 h1 h2
  refine ⟨?_, ?_, ?_⟩
  · simp [h0]
  · simp [h1]
  · simp [h2]

theorem Row.below {n : Nat} {w w' : World} {g : Nat} {l : List Span} (h : Row w g l) (hb : Below n w w') (hg : g < n) : Row w' g l :=
  ⟨Nat.lt_of_lt_of_le h.1 hb.size, fun k hk => ⟨(hb.cell (p := ⟨g, k * 3, none⟩) hg).trans (h.2 k hk).1, (hb.cell (p := ⟨g, k * 3 + 1, none⟩) hg).trans (h.2 k hk).2.1, (hb.cell (p := ⟨g, k * 3 + 2, none⟩) hg).trans (h.2 k hk).2.2⟩⟩

theorem refClass_plain (p : Int) : (if 44032 ≤ p ∧ p ≤ 55203 then hangul p else if within tabM p ≠ 0 then within tabM p else within tabL p) = classOf p := by
  unfold classOf
  rw [within_ref]
end Go.Proofs.YthjooopppidcfaaDoor

namespace Go.Proofs.YthjooopppidcfaaDoor
open Go.RowKit
open Gc

/-- What a search in a table that is in order says. -/
def Parted (l : List Span) (p : Int) (i : Nat) : Prop := i ≤ l.length ∧ (∀ k (h : k < l.length), k < i → l[k].2.1 < p) ∧ (∀ k (h : k < l.length), i ≤ k → p ≤ l[k].2.1)
def Found (l : List Span) (p : Int) (w : World) (e : Ending) (w' : World) : Prop :=
  ∃ i : Nat, Parted l p i ∧ Below w.heap.size w w' ∧ e = .returned (.tuple #[.int .i64 (i : Nat), .bool (decide (∃ h : i < l.length, l[i].1 ≤ p))])

theorem cmpOf_neg (s : Span) (p : Int) : cmpOf s p < 0 ↔ s.2.1 < p := by
  unfold cmpOf
  split
  · simp_all
  · split <;> simp_all <;> omega
theorem cmpOf_zero (s : Span) (p : Int) (h : p ≤ s.2.1) : cmpOf s p = 0 ↔ s.1 ≤ p := by
  unfold cmpOf
  rw [if_neg (by omega)]
  split <;> simp_all <;> omega

theorem up_le (l : List Span) (hl : up l = true) (i j : Nat) (hi : i ≤ j) (hj : j < l.length) : (l[i]'(by omega)).2.1 ≤ l[j].2.1 := by
  rcases Nat.lt_or_eq_of_le hi with h | h
  · have h1 := up_lt l hl i j h hj
    have h2 : ∀ (l : List Span), up l = true → ∀ k (h : k < l.length), l[k].1 ≤ l[k].2.1 := by
      intro l
      induction l with
      | nil => intro _ k h; simp at h
      | cons s l ih =>
        intro hl k h
        simp only [up, Bool.and_eq_true, decide_eq_true_eq] at hl
        cases k with
        | zero => exact hl.1.1
        | succ k => exact ih hl.2 k (by simpa using h)
    have := h2 l hl j hj
    omega
  · subst h; exact Int.le_refl _

set_option maxRecDepth 100000 in
set_option maxHeartbeats 2000000 in
theorem search_any (l : List Span) (hup : up l = true) (g : Nat) (p : Int) (w : World) (hl : l.length ≤ 1000) (hg : g < w.heap.size) (hR : Row w g l) :
    Calls Tryd.prog 106 #[.slice (some ⟨g, 0, none⟩) l.length l.length, .int .i64 p, .func (.func 107) #[] #[]] w (Found l p w) := by
  have U := Go.Lib.hid hup
  clear hup
  obtain ⟨n, hn⟩ : ∃ n, l.length = n := ⟨_, rfl⟩
  have N := Go.Lib.hid hn
  rw [hn] at hl ⊢
  clear hn
  go_enter Tryd.func106, Tryd.ntmps106
  go_wp2
  go_loopg [9, 10] n (fun kx s9 s10 wr => ∃ lo hi : Nat, s9 = .int .i64 lo ∧ s10 = .int .i64 hi ∧ lo ≤ hi ∧ hi ≤ n ∧ hi - lo ≤ kx ∧ Hid (Below w.heap.size w wr) ∧
    Hid ((∀ k (h : k < l.length), k < lo → l[k].2.1 < p) ∧ (∀ k (h : k < l.length), hi ≤ k → p ≤ l[k].2.1)))
  case atStart => exact ⟨0, n, rfl, rfl, Nat.zero_le _, Nat.le_refl _, by omega, Go.Lib.hid (Below.refl _ _), Go.Lib.hid ⟨fun k h h' => by omega, fun k h h' => by have := N.out; omega⟩⟩
  case round =>
    obtain ⟨lo, hi, rfl, rfl, hlh, hin, hgg, HB, I⟩ := hrel
    by_cases hlt : lo < hi
    · have hm : (lo + hi) / 2 < l.length := by rw [N.out]; omega
      obtain ⟨h1, h2, h3⟩ := hR.2 ((lo + hi) / 2) hm
      have c1 := (HB.out.cell (p := ⟨g, (lo + hi) / 2 * 3, none⟩) hg).trans h1
      have c2 := (HB.out.cell (p := ⟨g, (lo + hi) / 2 * 3 + 1, none⟩) hg).trans h2
      have c3 := (HB.out.cell (p := ⟨g, (lo + hi) / 2 * 3 + 2, none⟩) hg).trans h3
      clear h1 h2 h3
      generalize hy : l[(lo + hi) / 2] = y at c1 c2 c3
      have Y := Go.Lib.hid hy
      clear hy
      obtain ⟨ya, yb, yc⟩ := y
      dsimp only at c1 c2 c3
      have hc := compare_any (ya, yb, yc) p wr
      generalize hv : cmpOf (ya, yb, yc) p = v at hc
      have V := Go.Lib.hid hv
      clear hv
      unfold spanV at hc
      dsimp only at hc
      by_cases hyx : v < 0
      · go_wp2_with (go_at_call 107; refine hc.mono ?_; rintro e w' ⟨rfl, hb⟩)
        go_roundg (hi - ((lo + hi) / 2 + 1))
        case measure => omega
        case rel =>
          refine ⟨(lo + hi) / 2 + 1, hi, by rw [show ((lo : Int) + (hi : Int)) / 2 + 1 = (((lo + hi) / 2 + 1 : Nat) : Int) by omega], rfl, by omega, hin, Nat.le_refl _, Go.Lib.hid (HB.out.trans (hb.mono HB.out.size)), Go.Lib.hid ⟨fun k h h' => ?_, I.out.2⟩⟩
          have e1 := up_le l U.out k ((lo + hi) / 2) (by omega) hm
          have e2 := (cmpOf_neg (ya, yb, yc) p).1 (by rw [V.out]; exact hyx)
          rw [Y.out] at e1
          dsimp only at e1 e2
          omega
      · go_wp2_with (go_at_call 107; refine hc.mono ?_; rintro e w' ⟨rfl, hb⟩)
        go_roundg ((lo + hi) / 2 - lo)
        case measure => omega
        case rel =>
          refine ⟨lo, (lo + hi) / 2, rfl, by rw [show ((lo : Int) + (hi : Int)) / 2 = (((lo + hi) / 2 : Nat) : Int) by omega], by omega, by omega, Nat.le_refl _, Go.Lib.hid (HB.out.trans (hb.mono HB.out.size)), Go.Lib.hid ⟨I.out.1, fun k h h' => ?_⟩⟩
          have e1 := up_le l U.out ((lo + hi) / 2) k h' h
          have e2 := (not_congr (cmpOf_neg (ya, yb, yc) p)).1 (by rw [V.out]; omega)
          rw [Y.out] at e1
          dsimp only at e1 e2
          omega
    · obtain rfl : lo = hi := by omega
      have PT : Parted l p lo := ⟨by rw [N.out]; exact hin, I.out.1, I.out.2⟩
      have PH := Go.Lib.hid PT
      clear PT
      by_cases hn : lo < n
      · have hm : lo < l.length := by rw [N.out]; omega
        obtain ⟨h1, h2, h3⟩ := hR.2 lo hm
        have c1 := (HB.out.cell (p := ⟨g, lo * 3, none⟩) hg).trans h1
        have c2 := (HB.out.cell (p := ⟨g, lo * 3 + 1, none⟩) hg).trans h2
        have c3 := (HB.out.cell (p := ⟨g, lo * 3 + 2, none⟩) hg).trans h3
        clear h1 h2 h3
        have hle := PH.out.2.2 lo hm (Nat.le_refl _)
        have LE := Go.Lib.hid hle
        clear hle
        generalize hy : l[lo] = y at c1 c2 c3 LE
        have Y := Go.Lib.hid hy
        clear hy
        obtain ⟨ya, yb, yc⟩ := y
        dsimp only at c1 c2 c3
        have hc := compare_any (ya, yb, yc) p wr
        have Z := Go.Lib.hid (cmpOf_zero (ya, yb, yc) p LE.out)
        generalize hv : cmpOf (ya, yb, yc) p = v at hc Z
        clear hv
        unfold spanV at hc
        dsimp only at hc
        by_cases hyx : v = 0
        · go_wp2_with (go_at_call 107; refine hc.mono ?_; rintro e w' ⟨rfl, hb⟩)
          go_ret2
          refine ⟨lo, PH.out, HB.out.trans (hb.mono HB.out.size), ?_⟩
          rw [decide_eq_true (show ∃ h : lo < l.length, l[lo].1 ≤ p from ⟨hm, by rw [Y.out]; exact Z.out.1 hyx⟩)]
          simp
        · go_wp2_with (go_at_call 107; refine hc.mono ?_; rintro e w' ⟨rfl, hb⟩)
          go_ret2
          refine ⟨lo, PH.out, HB.out.trans (hb.mono HB.out.size), ?_⟩
          rw [decide_eq_false (show ¬ ∃ h : lo < l.length, l[lo].1 ≤ p from fun ⟨_, h⟩ => hyx (Z.out.2 (by rw [Y.out] at h; exact h)))]
          simp [hyx]
      · go_wp2
        go_ret2
        refine ⟨lo, PH.out, HB.out, ?_⟩
        rw [decide_eq_false (show ¬ ∃ h : lo < l.length, l[lo].1 ≤ p from fun ⟨h, _⟩ => by have := N.out; omega)]
        simp
end Go.Proofs.YthjooopppidcfaaDoor

namespace Go.Proofs.YthjooopppidcfaaDoor
open Go.RowKit
open Gc

/-- A function that hands back a table. -/
def GetsRow (l : List Span) (w : World) (e : Ending) (w' : World) : Prop :=
  ∃ g, e = .returned (.slice (some ⟨g, 0, none⟩) l.length l.length) ∧ Row w' g l ∧ Below w.heap.size w w' ∧ w.heap.size ≤ g

theorem gets_alloc (l : List Span) (n : Nat) (hn : l.length = n) (t : TypeId) (w : World) (e : Ending) (w' : World) (h : e = .returned (.slice (some ⟨w.heap.size, 0, none⟩) n n) ∧ w' = w.alloc (.cells (rowOf l) t)) : GetsRow l w e w' := by
  obtain ⟨rfl, rfl⟩ := h
  exact ⟨w.heap.size, by rw [hn], row_alloc w l t, (Below.refl _ _).alloc (Nat.le_refl _) _, Nat.le_refl _⟩
theorem table_gets (w : World) : Calls Tryd.prog 99 #[] w (GetsRow tabA w) := (classTable_any w).mono fun e w' h => gets_alloc tabA 94 (by decide) 143 w e w' h
theorem marks_gets (w : World) : Calls Tryd.prog 88 #[] w (GetsRow tabM w) := (marks_any w).mono fun e w' h => gets_alloc tabM 61 (by decide) 139 w e w' h
theorem letters_gets (w : World) : Calls Tryd.prog 89 #[] w (GetsRow tabL w) := (letters_any w).mono fun e w' h => gets_alloc tabL 33 (by decide) 139 w e w' h

def IntPost (v : Int) (w : World) (e : Ending) (w' : World) : Prop := e = .returned (.int .i64 v) ∧ Below w.heap.size w w'
theorem hangul_lo (p : Int) (h : 44032 ≤ p ∧ p ≤ 55203) : (p - 44032).tmod 28 = (p - 44032) % 28 := by
  rw [Int.tmod_eq_emod_of_nonneg (by omega)]

set_option maxRecDepth 100000 in
set_option maxHeartbeats 2000000 in
theorem refClass_lo (M L : List Span) (hM : ∀ w, Calls Tryd.prog 88 #[] w (GetsRow M w)) (hL : ∀ w, Calls Tryd.prog 89 #[] w (GetsRow L w)) (lM : M.length ≤ 1000) (lL : L.length ≤ 1000) (p : Int) (w : World) (hp : ¬ 44032 ≤ p) :
    Calls Tryd.prog 62 #[.int .i64 p] w (IntPost (if within M p ≠ 0 then within M p else within L p) w) := by
  have cM := fun g1 w1 (R1 : Row w1 g1 M) => within_any M g1 p w1 lM R1.1 R1
  have cL := fun g1 w1 (R1 : Row w1 g1 L) => within_any L g1 p w1 lL R1.1 R1
  generalize within M p = m at cM ⊢
  generalize within L p = k at cL ⊢
  by_cases h0 : m = 0
  · rw [if_neg (fun h => h h0)]
    go_enter Tryd.func62, Tryd.ntmps62
    go_wp2_with (first
        | (go_at_call 88; refine (hM _).mono ?_; rintro e w1 ⟨g1, rfl, hr1, hb1, hg1⟩; have R1 := Go.Lib.hid hr1; clear hr1)
        | (go_at_call 87; (with_reducible refine (cM g1 w1 R1.out).mono ?_); rintro e w2 ⟨rfl, hb2⟩)
        | (go_at_call 89; refine (hL _).mono ?_; rintro e w3 ⟨g3, rfl, hr3, hb3, hg3⟩; have R3 := Go.Lib.hid hr3; clear hr3)
        | (go_at_call 87; (with_reducible refine (cL g3 w3 R3.out).mono ?_); rintro e w4 ⟨rfl, hb4⟩))
    go_ret
    exact ⟨rfl, ((hb1.trans (hb2.mono hb1.size)).trans (hb3.mono (Nat.le_trans hb1.size hb2.size))).trans (hb4.mono (Nat.le_trans hb1.size (Nat.le_trans hb2.size hb3.size)))⟩
  · rw [if_pos h0]
    go_enter Tryd.func62, Tryd.ntmps62
    go_wp2_with (first
        | (go_at_call 88; refine (hM _).mono ?_; rintro e w1 ⟨g1, rfl, hr1, hb1, hg1⟩; have R1 := Go.Lib.hid hr1; clear hr1)
        | (go_at_call 87; (with_reducible refine (cM g1 w1 R1.out).mono ?_); rintro e w2 ⟨rfl, hb2⟩))
    go_ret
    exact ⟨rfl, hb1.trans (hb2.mono hb1.size)⟩
set_option maxRecDepth 100000 in
set_option maxHeartbeats 2000000 in
theorem refClass_hi (M L : List Span) (hM : ∀ w, Calls Tryd.prog 88 #[] w (GetsRow M w)) (hL : ∀ w, Calls Tryd.prog 89 #[] w (GetsRow L w)) (lM : M.length ≤ 1000) (lL : L.length ≤ 1000) (p : Int) (w : World) (hp : ¬ p ≤ 55203) :
    Calls Tryd.prog 62 #[.int .i64 p] w (IntPost (if within M p ≠ 0 then within M p else within L p) w) := by
  have cM := fun g1 w1 (R1 : Row w1 g1 M) => within_any M g1 p w1 lM R1.1 R1
  have cL := fun g1 w1 (R1 : Row w1 g1 L) => within_any L g1 p w1 lL R1.1 R1
  generalize within M p = m at cM ⊢
  generalize within L p = k at cL ⊢
  have hq : 44032 ≤ p := by omega
  by_cases h0 : m = 0
  · rw [if_neg (fun h => h h0)]
    go_enter Tryd.func62, Tryd.ntmps62
    go_wp2_with (first
        | (go_at_call 88; refine (hM _).mono ?_; rintro e w1 ⟨g1, rfl, hr1, hb1, hg1⟩; have R1 := Go.Lib.hid hr1; clear hr1)
        | (go_at_call 87; (with_reducible refine (cM g1 w1 R1.out).mono ?_); rintro e w2 ⟨rfl, hb2⟩)
        | (go_at_call 89; refine (hL _).mono ?_; rintro e w3 ⟨g3, rfl, hr3, hb3, hg3⟩; have R3 := Go.Lib.hid hr3; clear hr3)
        | (go_at_call 87; (with_reducible refine (cL g3 w3 R3.out).mono ?_); rintro e w4 ⟨rfl, hb4⟩))
    go_ret
    exact ⟨rfl, ((hb1.trans (hb2.mono hb1.size)).trans (hb3.mono (Nat.le_trans hb1.size hb2.size))).trans (hb4.mono (Nat.le_trans hb1.size (Nat.le_trans hb2.size hb3.size)))⟩
  · rw [if_pos h0]
    go_enter Tryd.func62, Tryd.ntmps62
    go_wp2_with (first
        | (go_at_call 88; refine (hM _).mono ?_; rintro e w1 ⟨g1, rfl, hr1, hb1, hg1⟩; have R1 := Go.Lib.hid hr1; clear hr1)
        | (go_at_call 87; (with_reducible refine (cM g1 w1 R1.out).mono ?_); rintro e w2 ⟨rfl, hb2⟩))
    go_ret
    exact ⟨rfl, hb1.trans (hb2.mono hb1.size)⟩

theorem refClass_any (p : Int) (w : World) : Calls Tryd.prog 62 #[.int .i64 p] w (IntPost (classOf p) w) := by
  rw [← refClass_plain]
  by_cases h1 : 44032 ≤ p
  · by_cases h2 : p ≤ 55203
    · rw [if_pos ⟨h1, h2⟩]
      unfold hangul
      by_cases h3 : (p - 44032) % 28 = 0
      · rw [if_pos h3]
        go_enter Tryd.func62, Tryd.ntmps62
        go_wp2
        go_ret
        exact ⟨rfl, Below.refl _ _⟩
      · rw [if_neg h3]
        go_enter Tryd.func62, Tryd.ntmps62
        go_wp2
        go_ret
        exact ⟨rfl, Below.refl _ _⟩
    · rw [if_neg (fun h => h2 h.2)]
      exact refClass_hi tabM tabL marks_gets letters_gets (by decide) (by decide) p w h2
  · rw [if_neg (fun h => h1 h.1)]
    exact refClass_lo tabM tabL marks_gets letters_gets (by decide) (by decide) p w h1

/-- The class, as the program's search finds it. -/
def foundOf (l : List Span) (p : Int) : Int := within l p
set_option maxRecDepth 100000 in
set_option maxHeartbeats 2000000 in
theorem classIn_in (l : List Span) (hup : up l = true) (g : Nat) (p : Int) (w : World) (hl : l.length ≤ 1000) (hg : g < w.heap.size) (hR : Row w g l) (hp : ¬ (44032 ≤ p ∧ p ≤ 55203)) (v : Int)
    (hv : ∀ i, Parted l p i → v = if h : i < l.length then (if l[i].1 ≤ p then l[i].2.2 else 0) else 0) :
    Calls Tryd.prog 100 #[.slice (some ⟨g, 0, none⟩) l.length l.length, .int .i64 p] w (IntPost v w) := by
  have cS := search_any l hup g p w hl hg hR
  have V := Go.Lib.hid hv
  have RR := Go.Lib.hid hR
  clear hv hR hup
  generalize hn : l.length = n at cS hl ⊢
  have N := Go.Lib.hid hn
  clear hn
  have hp1 : 44032 ≤ p → ¬ p ≤ 55203 := fun h h' => hp ⟨h, h'⟩
  clear hp
  by_cases h1 : 44032 ≤ p
  all_goals
    first | (have h2 := hp1 h1; clear hp1) | clear hp1
    go_enter Tryd.func100, Tryd.ntmps100
    go_wp2_with (go_at_call 106; (with_reducible refine cS.mono ?_); rintro e w1 ⟨i, pt, hb, rfl⟩; (have PT := Go.Lib.hid pt; clear pt; generalize hfb : decide (∃ h : i < l.length, l[i].1 ≤ p) = fb; have FB := Go.Lib.hid hfb; have hin : fb = true → i < n := (fun h => by rw [h] at hfb; obtain ⟨h1, _⟩ := of_decide_eq_true hfb; rw [N.out] at h1; exact h1); clear hfb; obtain ⟨cl, hcl⟩ : ∃ cl, (l[i]?.getD (0, 0, 0)).2.2 = cl := ⟨_, rfl⟩; have CL := Go.Lib.hid hcl; have hc : i < n → w1.cell? ⟨g, i * 3 + 2, none⟩ = some (.int .i64 cl) := (fun h => by have h' : i < l.length := (by rw [N.out]; exact h); rw [← hcl, List.getElem?_eq_getElem h']; exact (hb.cell (p := ⟨g, i * 3 + 2, none⟩) hg).trans (RR.out.2 i h').2.2); clear hcl))
    all_goals
      first
      | (have hfb : fb = true := by assumption
         go_wp2
         go_ret
         refine ⟨?_, hb⟩
         obtain ⟨h3, h4⟩ := of_decide_eq_true (FB.out.trans hfb)
         rw [V.out i PT.out, dif_pos h3, if_pos h4, ← CL.out, List.getElem?_eq_getElem h3]; rfl)
      | (go_ret
         refine ⟨?_, hb⟩
         have hfb : fb = false := by assumption
         have h3 := of_decide_eq_false (FB.out.trans hfb)
         rw [V.out i PT.out]
         by_cases h5 : i < l.length
         · rw [dif_pos h5, if_neg (fun h => h3 ⟨h5, h⟩)]; rfl
         · rw [dif_neg h5]; rfl)

theorem classIn_any (g : Nat) (p : Int) (w : World) (hg : g < w.heap.size) (hR : Row w g tabA) :
    Calls Tryd.prog 100 #[.slice (some ⟨g, 0, none⟩) tabA.length tabA.length, .int .i64 p] w (IntPost (classOf p) w) := by
  by_cases h1 : 44032 ≤ p ∧ p ≤ 55203
  · unfold classOf
    rw [if_pos h1]
    clear hR hg
    obtain ⟨h1, h2⟩ := h1
    unfold hangul
    generalize tabA.length = n
    by_cases h3 : (p - 44032) % 28 = 0
    · rw [if_pos h3]
      go_enter Tryd.func100, Tryd.ntmps100
      go_wp2
      go_ret
      exact ⟨rfl, Below.refl _ _⟩
    · rw [if_neg h3]
      go_enter Tryd.func100, Tryd.ntmps100
      go_wp2
      go_ret
      exact ⟨rfl, Below.refl _ _⟩
  · refine classIn_in tabA upA g p w (by decide) hg hR h1 _ fun i hi => ?_
    unfold classOf
    rw [if_neg h1]
    exact within_at p i hi.2.1 hi.2.2

end Go.Proofs.YthjooopppidcfaaDoor
