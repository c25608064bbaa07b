import Derived.Test.YtigbmhddkcgjfaaDoorT4
namespace Go.Proofs.YtigbmhddkcgjfaaDoor
open Go.RowKit
open Gc

theorem built76 (a b c : Int) : Program.built Tryd.prog 76 [(0, .int .i64 a), (1, .int .i64 b), (2, .int .i64 c)] = some #[.int .i64 a, .int .i64 b, .int .i64 c] := by kernel_rfl
theorem info76 : (Tryd.prog.info? 76).map (fun i => (i.zero, i.size)) = some (some (.agg #[.int .i64 0, .int .i64 0, .int .i64 0]), 3) := by kernel_rfl
theorem table_endR {ops : Array Oper} {Q : Exit → Act → World → Prop} {w : World} (a : Act) (l : List Span) (n : Nat) (parts : Array (Nat × Operand)) (o1 o2 : Oper) (d1 : Tmp)
    (hn : l.length = n) (h0 : 0 < n) (hsm : n ≤ 1000) (hp : parts.toList = (List.range n).map fun i => (i, Operand.tmp (i + 1)))
    (g1 : o1.guard = none) (e1 : o1.op = .buildSlice 58 n parts) (t1 : o1.dst = some d1) (g2 : o2.guard = none) (e2 : o2.op = .assign (.tmp d1))
    (ha : ∀ k (h : k < l.length), a.tmps[k + 1]? = some (spanV l[k])) (hd : d1 < a.tmps.size)
    (h : Q .normal ((a.put (some d1) (.slice (some ⟨w.heap.size, 0, none⟩) n n)).put o2.dst (.slice (some ⟨w.heap.size, 0, none⟩) n n)) (w.alloc (.cells (rowOf l) 76))) : wpList Tryd.prog ops Q [o1, o2] a w := by
  have hi := info76
  cases hie : Tryd.prog.info? 76 with
  | none => rw [hie] at hi; cases hi
  | some ie =>
    rw [hie] at hi
    simp only [Option.map_some, Option.some.injEq, Prod.mk.injEq] at hi
    obtain ⟨hz, hs⟩ := hi
    refine wpList_buildSlice g1 58 76 n parts e1 (rowOf l) ie _ Tryd.underlying58 hie hz (by rw [hs]; omega) (by rw [hs]; omega) ?_ ?_
    · rw [hs, parts_spans a l parts n hn hp ha]
      exact fill_spans l _ (by simp [hn])
    · rw [t1]
      refine wpList_assign' g2 _ e2 (wpList_nil ?_)
      have : (a.put (some d1) (.slice (some ⟨w.heap.size, 0, none⟩) n n)).eval (.tmp d1) = .slice (some ⟨w.heap.size, 0, none⟩) n n := by
        simp [Act.eval, Act.put, hd]
      rw [this]
      exact h

noncomputable def ops20 : List Oper := match Tryd.f34.body with
  | some (.seq _ (.seq (.region _ o _) _)) => o.toList
  | _ => []
def slots20 : List (Nat × Span) := (tabM.zipIdx 1).map fun x => (x.2, x.1)
noncomputable def last20 : Oper := (ops20.drop 61).headD { dst := none, op := .assign (.const undef), type := 0, pos := "", after := #[], guard := none }
noncomputable def end20 : Oper := (ops20.drop 62).headD { dst := none, op := .assign (.const undef), type := 0, pos := "", after := #[], guard := none }
set_option maxRecDepth 1000000 in
theorem ops20_eq : ops20 = slots20.map (mkSpan 76 "ref.go:28") ++ [last20, end20] := by kernel_rfl
noncomputable def parts20 : Array (Nat × Operand) := match last20.op with
  | .buildSlice _ _ p => p
  | _ => #[]
set_option maxRecDepth 1000000 in
theorem last20_op : last20.op = .buildSlice 58 61 parts20 := by kernel_rfl
theorem last20_guard : last20.guard = none := by kernel_rfl
theorem last20_dst : last20.dst = some 62 := by kernel_rfl
theorem end20_op : end20.op = .assign (.tmp 62) := by kernel_rfl
theorem end20_guard : end20.guard = none := by kernel_rfl
theorem end20_dst : end20.dst = some 0 := by kernel_rfl
set_option maxRecDepth 1000000 in
theorem parts20_eq : parts20.toList = (List.range 61).map fun i => (i, Operand.tmp (i + 1)) := by kernel_rfl

set_option maxRecDepth 1000000 in
set_option maxHeartbeats 4000000 in
theorem marks_any (w : World) :
    Calls Tryd.prog 34 #[] w fun e w' => e = .returned (.slice (some ⟨w.heap.size, 0, none⟩) 61 61) ∧ w' = w.alloc (.cells (rowOf tabM) 76) := by
  go_enter Tryd.func34, Tryd.ntmps34
  refine wp_seq (wp_region_list (wpList_assign' rfl _ rfl (wpList_nil ?_)))
  refine wp_seq (wp_region_list (wpList_table 76 "ref.go:28" built76 slots20 _ last20 end20 ops20_eq _ ?_))
  refine table_endR _ tabM 61 parts20 last20 end20 62 rfl (by decide) (by decide) parts20_eq last20_guard last20_op last20_dst end20_guard end20_op ?_ ?_ ?_
  · intro k hk
    have hk' : k < 61 := hk
    unfold slots20
    rw [putAll_get tabM 1 _ (by decide) (k + 1), if_pos ⟨by omega, by omega⟩, Nat.add_sub_cancel, List.getElem?_eq_getElem hk]
    rfl
  · rw [putAll_size]; decide
  · rw [end20_dst]
    dsimp only [Exit.then]
    refine ret_slot0 rfl ?_ ?_ ⟨rfl, rfl⟩
    · simp only [Act.put, Array.size_setIfInBounds, putAll_size]; decide
    · rw [show ∀ (a : Act) v, (a.put (some 62) v).defers = a.defers from fun _ _ => rfl, putAll_defers]; rfl
noncomputable def ops21 : List Oper := match Tryd.f35.body with
  | some (.seq _ (.seq (.region _ o _) _)) => o.toList
  | _ => []
def slots21 : List (Nat × Span) := (tabL.zipIdx 1).map fun x => (x.2, x.1)
noncomputable def last21 : Oper := (ops21.drop 33).headD { dst := none, op := .assign (.const undef), type := 0, pos := "", after := #[], guard := none }
noncomputable def end21 : Oper := (ops21.drop 34).headD { dst := none, op := .assign (.const undef), type := 0, pos := "", after := #[], guard := none }
set_option maxRecDepth 1000000 in
theorem ops21_eq : ops21 = slots21.map (mkSpan 76 "ref.go:38") ++ [last21, end21] := by kernel_rfl
noncomputable def parts21 : Array (Nat × Operand) := match last21.op with
  | .buildSlice _ _ p => p
  | _ => #[]
set_option maxRecDepth 1000000 in
theorem last21_op : last21.op = .buildSlice 58 33 parts21 := by kernel_rfl
theorem last21_guard : last21.guard = none := by kernel_rfl
theorem last21_dst : last21.dst = some 34 := by kernel_rfl
theorem end21_op : end21.op = .assign (.tmp 34) := by kernel_rfl
theorem end21_guard : end21.guard = none := by kernel_rfl
theorem end21_dst : end21.dst = some 0 := by kernel_rfl
set_option maxRecDepth 1000000 in
theorem parts21_eq : parts21.toList = (List.range 33).map fun i => (i, Operand.tmp (i + 1)) := by kernel_rfl

set_option maxRecDepth 1000000 in
set_option maxHeartbeats 4000000 in
theorem letters_any (w : World) :
    Calls Tryd.prog 35 #[] w fun e w' => e = .returned (.slice (some ⟨w.heap.size, 0, none⟩) 33 33) ∧ w' = w.alloc (.cells (rowOf tabL) 76) := by
  go_enter Tryd.func35, Tryd.ntmps35
  refine wp_seq (wp_region_list (wpList_assign' rfl _ rfl (wpList_nil ?_)))
  refine wp_seq (wp_region_list (wpList_table 76 "ref.go:38" built76 slots21 _ last21 end21 ops21_eq _ ?_))
  refine table_endR _ tabL 33 parts21 last21 end21 34 rfl (by decide) (by decide) parts21_eq last21_guard last21_op last21_dst end21_guard end21_op ?_ ?_ ?_
  · intro k hk
    have hk' : k < 33 := hk
    unfold slots21
    rw [putAll_get tabL 1 _ (by decide) (k + 1), if_pos ⟨by omega, by omega⟩, Nat.add_sub_cancel, List.getElem?_eq_getElem hk]
    rfl
  · rw [putAll_size]; decide
  · rw [end21_dst]
    dsimp only [Exit.then]
    refine ret_slot0 rfl ?_ ?_ ⟨rfl, rfl⟩
    · simp only [Act.put, Array.size_setIfInBounds, putAll_size]; decide
    · rw [show ∀ (a : Act) v, (a.put (some 34) v).defers = a.defers from fun _ _ => rfl, putAll_defers]; rfl
end Go.Proofs.YtigbmhddkcgjfaaDoor
