/- Layer 3: the program's table of classes and the reference's three; the program's search. -/
import Derived.Test.YthjooopppidcfaaDoorMC
import Derived.Test.YthjooopppidcfaaDoorMI
namespace Go.Proofs.YthjooopppidcfaaDoor
open Go.RowKit
open Gc

theorem built98 (a b c : Int) : Program.built Tryd.prog 98 [(0, .int .i64 a), (1, .int .i64 b), (2, .int .i64 c)] = some #[.int .i64 a, .int .i64 b, .int .i64 c] := by kernel_rfl
theorem info98 : (Tryd.prog.info? 98).map (fun i => (i.zero, i.size)) = some (some (.agg #[.int .i64 0, .int .i64 0, .int .i64 0]), 3) := by kernel_rfl
theorem built68 (a b c : Int) : Program.built Tryd.prog 68 [(0, .int .i64 a), (1, .int .i64 b), (2, .int .i64 c)] = some #[.int .i64 a, .int .i64 b, .int .i64 c] := by kernel_rfl
theorem info68 : (Tryd.prog.info? 68).map (fun i => (i.zero, i.size)) = some (some (.agg #[.int .i64 0, .int .i64 0, .int .i64 0]), 3) := by kernel_rfl
theorem table_endP {ops : Array Oper} {Q : Exit → Act → World → Prop} {w : World} (a : Act) (l : List Span) (n : Nat) (parts : Array (Nat × Operand)) (o1 o2 : Oper) (d1 : Tmp)
    (hn : l.length = n) (h0 : 0 < n) (hsm : n ≤ 1000) (hp : parts.toList = (List.range n).map fun i => (i, Operand.tmp (i + 1)))
    (g1 : o1.guard = none) (e1 : o1.op = .buildSlice 63 n parts) (t1 : o1.dst = some d1) (g2 : o2.guard = none) (e2 : o2.op = .assign (.tmp d1))
    (ha : ∀ k (h : k < l.length), a.tmps[k + 1]? = some (spanV l[k])) (hd : d1 < a.tmps.size)
    (h : Q .normal ((a.put (some d1) (.slice (some ⟨w.heap.size, 0, none⟩) n n)).put o2.dst (.slice (some ⟨w.heap.size, 0, none⟩) n n)) (w.alloc (.cells (rowOf l) 98))) : wpList Tryd.prog ops Q [o1, o2] a w := by
  have hi := info98
  cases hie : Tryd.prog.info? 98 with
  | none => rw [hie] at hi; cases hi
  | some ie =>
    rw [hie] at hi
    simp only [Option.map_some, Option.some.injEq, Prod.mk.injEq] at hi
    obtain ⟨hz, hs⟩ := hi
    refine wpList_buildSlice g1 63 98 n parts e1 (rowOf l) ie _ Tryd.underlying63 hie hz (by rw [hs]; omega) (by rw [hs]; omega) ?_ ?_
    · rw [hs, parts_spans a l parts n hn hp ha]
      exact fill_spans l _ (by simp [hn])
    · rw [t1]
      refine wpList_assign' g2 _ e2 (wpList_nil ?_)
      have : (a.put (some d1) (.slice (some ⟨w.heap.size, 0, none⟩) n n)).eval (.tmp d1) = .slice (some ⟨w.heap.size, 0, none⟩) n n := by
        simp [Act.eval, Act.put, hd]
      rw [this]
      exact h

theorem table_endS {ops : Array Oper} {Q : Exit → Act → World → Prop} {w : World} (a : Act) (l : List Span) (n : Nat) (parts : Array (Nat × Operand)) (o1 o2 : Oper) (d1 : Tmp)
    (hn : l.length = n) (h0 : 0 < n) (hsm : n ≤ 1000) (hp : parts.toList = (List.range n).map fun i => (i, Operand.tmp (i + 1)))
    (g1 : o1.guard = none) (e1 : o1.op = .buildSlice 65 n parts) (t1 : o1.dst = some d1) (g2 : o2.guard = none) (e2 : o2.op = .assign (.tmp d1))
    (ha : ∀ k (h : k < l.length), a.tmps[k + 1]? = some (spanV l[k])) (hd : d1 < a.tmps.size)
    (h : Q .normal ((a.put (some d1) (.slice (some ⟨w.heap.size, 0, none⟩) n n)).put o2.dst (.slice (some ⟨w.heap.size, 0, none⟩) n n)) (w.alloc (.cells (rowOf l) 68))) : wpList Tryd.prog ops Q [o1, o2] a w := by
  have hi := info68
  cases hie : Tryd.prog.info? 68 with
  | none => rw [hie] at hi; cases hi
  | some ie =>
    rw [hie] at hi
    simp only [Option.map_some, Option.some.injEq, Prod.mk.injEq] at hi
    obtain ⟨hz, hs⟩ := hi
    refine wpList_buildSlice g1 65 68 n parts e1 (rowOf l) ie _ Tryd.underlying65 hie hz (by rw [hs]; omega) (by rw [hs]; omega) ?_ ?_
    · rw [hs, parts_spans a l parts n hn hp ha]
      exact fill_spans l _ (by simp [hn])
    · rw [t1]
      refine wpList_assign' g2 _ e2 (wpList_nil ?_)
      have : (a.put (some d1) (.slice (some ⟨w.heap.size, 0, none⟩) n n)).eval (.tmp d1) = .slice (some ⟨w.heap.size, 0, none⟩) n n := by
        simp [Act.eval, Act.put, hd]
      rw [this]
      exact h

noncomputable def opsP : List Oper := match Tryd.f31.body with
  | some (.seq _ (.seq (.region _ o _) _)) => o.toList
  | _ => []
def slotsP : List (Nat × Span) := (Sg.tabP.zipIdx 1).map fun x => (x.2, x.1)
noncomputable def lastP : Oper := (opsP.drop 100).headD { dst := none, op := .assign (.const undef), type := 0, pos := "", after := #[], guard := none }
noncomputable def endP : Oper := (opsP.drop 101).headD { dst := none, op := .assign (.const undef), type := 0, pos := "", after := #[], guard := none }
set_option maxRecDepth 1000000 in
theorem opsP_eq : opsP = slotsP.map (mkSpan 98 "class.go:29") ++ [lastP, endP] := by kernel_rfl
noncomputable def partsP : Array (Nat × Operand) := match lastP.op with
  | .buildSlice _ _ p => p
  | _ => #[]
set_option maxRecDepth 1000000 in
theorem lastP_op : lastP.op = .buildSlice 63 100 partsP := by kernel_rfl
theorem lastP_guard : lastP.guard = none := by kernel_rfl
theorem lastP_dst : lastP.dst = some 101 := by kernel_rfl
theorem endP_op : endP.op = .assign (.tmp 101) := by kernel_rfl
theorem endP_guard : endP.guard = none := by kernel_rfl
theorem endP_dst : endP.dst = some 0 := by kernel_rfl
set_option maxRecDepth 1000000 in
theorem partsP_eq : partsP.toList = (List.range 100).map fun i => (i, Operand.tmp (i + 1)) := by kernel_rfl

set_option maxRecDepth 1000000 in
set_option maxHeartbeats 4000000 in
theorem segTable_any (w : World) :
    Calls Tryd.prog 31 #[] w fun e w' => e = .returned (.slice (some ⟨w.heap.size, 0, none⟩) 100 100) ∧ w' = w.alloc (.cells (rowOf Sg.tabP) 98) := by
  go_enter Tryd.func31, Tryd.ntmps31
  refine wp_seq (wp_region_list (wpList_assign' rfl _ rfl (wpList_nil ?_)))
  refine wp_seq (wp_region_list (wpList_table 98 "class.go:29" built98 slotsP _ lastP endP opsP_eq _ ?_))
  refine table_endP _ Sg.tabP 100 partsP lastP endP 101 rfl (by decide) (by decide) partsP_eq lastP_guard lastP_op lastP_dst endP_guard endP_op ?_ ?_ ?_
  · intro k hk
    have hk' : k < 100 := hk
    unfold slotsP
    rw [putAll_get Sg.tabP 1 _ (by decide) (k + 1), if_pos ⟨by omega, by omega⟩, Nat.add_sub_cancel, List.getElem?_eq_getElem hk]
    rfl
  · rw [putAll_size]; decide
  · rw [endP_dst]
    dsimp only [Exit.then]
    refine ret_slot0 rfl ?_ ?_ ⟨rfl, rfl⟩
    · simp only [Act.put, Array.size_setIfInBounds, putAll_size]; decide
    · rw [show ∀ (a : Act) v, (a.put (some 101) v).defers = a.defers from fun _ _ => rfl, putAll_defers]; rfl
noncomputable def opsB : List Oper := match Tryd.f32.body with
  | some (.seq _ (.seq (.region _ o _) _)) => o.toList
  | _ => []
def slotsB : List (Nat × Span) := (Sg.tabB.zipIdx 1).map fun x => (x.2, x.1)
noncomputable def lastB : Oper := (opsB.drop 23).headD { dst := none, op := .assign (.const undef), type := 0, pos := "", after := #[], guard := none }
noncomputable def endB : Oper := (opsB.drop 24).headD { dst := none, op := .assign (.const undef), type := 0, pos := "", after := #[], guard := none }
set_option maxRecDepth 1000000 in
theorem opsB_eq : opsB = slotsB.map (mkSpan 68 "ref.go:29") ++ [lastB, endB] := by kernel_rfl
noncomputable def partsB : Array (Nat × Operand) := match lastB.op with
  | .buildSlice _ _ p => p
  | _ => #[]
set_option maxRecDepth 1000000 in
theorem lastB_op : lastB.op = .buildSlice 65 23 partsB := by kernel_rfl
theorem lastB_guard : lastB.guard = none := by kernel_rfl
theorem lastB_dst : lastB.dst = some 24 := by kernel_rfl
theorem endB_op : endB.op = .assign (.tmp 24) := by kernel_rfl
theorem endB_guard : endB.guard = none := by kernel_rfl
theorem endB_dst : endB.dst = some 0 := by kernel_rfl
set_option maxRecDepth 1000000 in
theorem partsB_eq : partsB.toList = (List.range 23).map fun i => (i, Operand.tmp (i + 1)) := by kernel_rfl

set_option maxRecDepth 1000000 in
set_option maxHeartbeats 4000000 in
theorem blanks_any (w : World) :
    Calls Tryd.prog 32 #[] w fun e w' => e = .returned (.slice (some ⟨w.heap.size, 0, none⟩) 23 23) ∧ w' = w.alloc (.cells (rowOf Sg.tabB) 68) := by
  go_enter Tryd.func32, Tryd.ntmps32
  refine wp_seq (wp_region_list (wpList_assign' rfl _ rfl (wpList_nil ?_)))
  refine wp_seq (wp_region_list (wpList_table 68 "ref.go:29" built68 slotsB _ lastB endB opsB_eq _ ?_))
  refine table_endS _ Sg.tabB 23 partsB lastB endB 24 rfl (by decide) (by decide) partsB_eq lastB_guard lastB_op lastB_dst endB_guard endB_op ?_ ?_ ?_
  · intro k hk
    have hk' : k < 23 := hk
    unfold slotsB
    rw [putAll_get Sg.tabB 1 _ (by decide) (k + 1), if_pos ⟨by omega, by omega⟩, Nat.add_sub_cancel, List.getElem?_eq_getElem hk]
    rfl
  · rw [putAll_size]; decide
  · rw [endB_dst]
    dsimp only [Exit.then]
    refine ret_slot0 rfl ?_ ?_ ⟨rfl, rfl⟩
    · simp only [Act.put, Array.size_setIfInBounds, putAll_size]; decide
    · rw [show ∀ (a : Act) v, (a.put (some 24) v).defers = a.defers from fun _ _ => rfl, putAll_defers]; rfl
noncomputable def opsL : List Oper := match Tryd.f33.body with
  | some (.seq _ (.seq (.region _ o _) _)) => o.toList
  | _ => []
def slotsL : List (Nat × Span) := (Sg.tabL.zipIdx 1).map fun x => (x.2, x.1)
noncomputable def lastL : Oper := (opsL.drop 39).headD { dst := none, op := .assign (.const undef), type := 0, pos := "", after := #[], guard := none }
noncomputable def endL : Oper := (opsL.drop 40).headD { dst := none, op := .assign (.const undef), type := 0, pos := "", after := #[], guard := none }
set_option maxRecDepth 1000000 in
theorem opsL_eq : opsL = slotsL.map (mkSpan 68 "ref.go:57") ++ [lastL, endL] := by kernel_rfl
noncomputable def partsL : Array (Nat × Operand) := match lastL.op with
  | .buildSlice _ _ p => p
  | _ => #[]
set_option maxRecDepth 1000000 in
theorem lastL_op : lastL.op = .buildSlice 65 39 partsL := by kernel_rfl
theorem lastL_guard : lastL.guard = none := by kernel_rfl
theorem lastL_dst : lastL.dst = some 40 := by kernel_rfl
theorem endL_op : endL.op = .assign (.tmp 40) := by kernel_rfl
theorem endL_guard : endL.guard = none := by kernel_rfl
theorem endL_dst : endL.dst = some 0 := by kernel_rfl
set_option maxRecDepth 1000000 in
theorem partsL_eq : partsL.toList = (List.range 39).map fun i => (i, Operand.tmp (i + 1)) := by kernel_rfl

set_option maxRecDepth 1000000 in
set_option maxHeartbeats 4000000 in
theorem letters3_any (w : World) :
    Calls Tryd.prog 33 #[] w fun e w' => e = .returned (.slice (some ⟨w.heap.size, 0, none⟩) 39 39) ∧ w' = w.alloc (.cells (rowOf Sg.tabL) 68) := by
  go_enter Tryd.func33, Tryd.ntmps33
  refine wp_seq (wp_region_list (wpList_assign' rfl _ rfl (wpList_nil ?_)))
  refine wp_seq (wp_region_list (wpList_table 68 "ref.go:57" built68 slotsL _ lastL endL opsL_eq _ ?_))
  refine table_endS _ Sg.tabL 39 partsL lastL endL 40 rfl (by decide) (by decide) partsL_eq lastL_guard lastL_op lastL_dst endL_guard endL_op ?_ ?_ ?_
  · intro k hk
    have hk' : k < 39 := hk
    unfold slotsL
    rw [putAll_get Sg.tabL 1 _ (by decide) (k + 1), if_pos ⟨by omega, by omega⟩, Nat.add_sub_cancel, List.getElem?_eq_getElem hk]
    rfl
  · rw [putAll_size]; decide
  · rw [endL_dst]
    dsimp only [Exit.then]
    refine ret_slot0 rfl ?_ ?_ ⟨rfl, rfl⟩
    · simp only [Act.put, Array.size_setIfInBounds, putAll_size]; decide
    · rw [show ∀ (a : Act) v, (a.put (some 40) v).defers = a.defers from fun _ _ => rfl, putAll_defers]; rfl
noncomputable def opsS : List Oper := match Tryd.f34.body with
  | some (.seq _ (.seq (.region _ o _) _)) => o.toList
  | _ => []
def slotsS : List (Nat × Span) := (Sg.tabS.zipIdx 1).map fun x => (x.2, x.1)
noncomputable def lastS : Oper := (opsS.drop 38).headD { dst := none, op := .assign (.const undef), type := 0, pos := "", after := #[], guard := none }
noncomputable def endS : Oper := (opsS.drop 39).headD { dst := none, op := .assign (.const undef), type := 0, pos := "", after := #[], guard := none }
set_option maxRecDepth 1000000 in
theorem opsS_eq : opsS = slotsS.map (mkSpan 68 "ref.go:101") ++ [lastS, endS] := by kernel_rfl
noncomputable def partsS : Array (Nat × Operand) := match lastS.op with
  | .buildSlice _ _ p => p
  | _ => #[]
set_option maxRecDepth 1000000 in
theorem lastS_op : lastS.op = .buildSlice 65 38 partsS := by kernel_rfl
theorem lastS_guard : lastS.guard = none := by kernel_rfl
theorem lastS_dst : lastS.dst = some 39 := by kernel_rfl
theorem endS_op : endS.op = .assign (.tmp 39) := by kernel_rfl
theorem endS_guard : endS.guard = none := by kernel_rfl
theorem endS_dst : endS.dst = some 0 := by kernel_rfl
set_option maxRecDepth 1000000 in
theorem partsS_eq : partsS.toList = (List.range 38).map fun i => (i, Operand.tmp (i + 1)) := by kernel_rfl

set_option maxRecDepth 1000000 in
set_option maxHeartbeats 4000000 in
theorem signs_any (w : World) :
    Calls Tryd.prog 34 #[] w fun e w' => e = .returned (.slice (some ⟨w.heap.size, 0, none⟩) 38 38) ∧ w' = w.alloc (.cells (rowOf Sg.tabS) 68) := by
  go_enter Tryd.func34, Tryd.ntmps34
  refine wp_seq (wp_region_list (wpList_assign' rfl _ rfl (wpList_nil ?_)))
  refine wp_seq (wp_region_list (wpList_table 68 "ref.go:101" built68 slotsS _ lastS endS opsS_eq _ ?_))
  refine table_endS _ Sg.tabS 38 partsS lastS endS 39 rfl (by decide) (by decide) partsS_eq lastS_guard lastS_op lastS_dst endS_guard endS_op ?_ ?_ ?_
  · intro k hk
    have hk' : k < 38 := hk
    unfold slotsS
    rw [putAll_get Sg.tabS 1 _ (by decide) (k + 1), if_pos ⟨by omega, by omega⟩, Nat.add_sub_cancel, List.getElem?_eq_getElem hk]
    rfl
  · rw [putAll_size]; decide
  · rw [endS_dst]
    dsimp only [Exit.then]
    refine ret_slot0 rfl ?_ ?_ ⟨rfl, rfl⟩
    · simp only [Act.put, Array.size_setIfInBounds, putAll_size]; decide
    · rw [show ∀ (a : Act) v, (a.put (some 39) v).defers = a.defers from fun _ _ => rfl, putAll_defers]; rfl
end Go.Proofs.YthjooopppidcfaaDoor
