/- Layer 8: the texts Hb He Hf Hd J1 J2 J3 J4. -/
import Derived.Test.YtbkpokipibgdfaaNC
import Derived.Great.BuildSlice
import Derived.Deep.SlicePairs
import Derived.ChangeArms

/- Layer 7: Fits. -/
namespace Go.Proofs.Ytbkpokipibgdfaa
open Go.RowKit Go.Lib

set_option maxRecDepth 100000 in
set_option maxHeartbeats 2000000 in
theorem fits_no (x p : Int) (hx : ¬ ∃ r ∈ tabP, r.1 = p) (w : World) : Calls Try.prog 71 #[.int .i64 x, .int .i64 p] w fun e w' => e = .returned (.bool false) ∧ Below w.heap.size w w' := by
  have cF := fun w' => find_no p hx w'
  clear hx
  go_enter Try.func71, Try.ntmps71
  go_wp2_with (go_at_call 88; (with_reducible refine (cF _).mono ?_); rintro e w1 ⟨rfl, hb1⟩)
  go_ret
  exact ⟨rfl, hb1.alloc hb1.size _⟩
set_option maxRecDepth 100000 in
set_option maxHeartbeats 2000000 in
theorem fits_yes (x p : Int) (hx : ∃ r ∈ tabP, r.1 = p) (w : World) : Calls Try.prog 71 #[.int .i64 x, .int .i64 p] w fun e w' => (∃ r ∈ tabP, r.1 = p ∧ e = .returned (.bool (hasG x r.2.2.1))) ∧ Below w.heap.size w w' := by
  have cF := fun w' => find_yes p hx w'
  have cG := fun g w' => hasG_any x g w'
  clear hx
  go_enter Try.func71, Try.ntmps71
  go_wp2_with (first
    | (go_at_call 88; (with_reducible refine (cF _).mono ?_); rintro e w1 ⟨⟨⟨ra, rb, rc, rd, re, rf⟩, hr, hk, rfl⟩, hb1⟩; have HR := Go.Lib.hid hr; have HK := Go.Lib.hid hk; clear hr hk; dsimp only)
    | (go_at_call 89; (with_reducible refine (cG _ _).mono ?_); rintro e w2 ⟨rfl, rfl⟩))
  go_ret
  exact ⟨⟨_, HR.out, HK.out, rfl⟩, hb1.alloc hb1.size _⟩
end Go.Proofs.Ytbkpokipibgdfaa

/- Layer 7: CheckValue; Group, Bounds, Default, Name. -/
namespace Go.Proofs.Ytbkpokipibgdfaa
open Go.RowKit Go.Lib

/-- The error of a value of a row. -/
def valE (r : Row) (v : Int) : Int := if v < r.2.2.2.1 ∨ r.2.2.2.2.1 < v then 5 else 0
set_option maxRecDepth 100000 in
set_option maxHeartbeats 2000000 in
theorem checkv_no (p v : Int) (hx : ¬ ∃ r ∈ tabP, r.1 = p) (w : World) : Calls Try.prog 72 #[.int .i64 p, .int .i64 v] w fun e w' => e = .returned (.int .i64 4) ∧ Below w.heap.size w w' := by
  have cF := fun w' => find_no p hx w'
  clear hx
  go_enter Try.func72, Try.ntmps72
  go_wp2_with (go_at_call 88; (with_reducible refine (cF _).mono ?_); rintro e w1 ⟨rfl, hb1⟩)
  go_ret
  exact ⟨rfl, hb1.alloc hb1.size _⟩
set_option maxRecDepth 100000 in
set_option maxHeartbeats 2000000 in
theorem checkv_yes (p v : Int) (hx : ∃ r ∈ tabP, r.1 = p) (w : World) : Calls Try.prog 72 #[.int .i64 p, .int .i64 v] w fun e w' => (∃ r ∈ tabP, r.1 = p ∧ e = .returned (.int .i64 (valE r v))) ∧ Below w.heap.size w w' := by
  have cF := fun w' => find_yes p hx w'
  clear hx
  go_enter Try.func72, Try.ntmps72
  go_wp2_with fail
  refine (cF _).mono ?_
  rintro e w1 ⟨⟨⟨ra, rb, rc, rd, re, rf⟩, hr, hk, rfl⟩, hb1⟩
  have HR := Go.Lib.hid hr
  have HK := Go.Lib.hid hk
  clear hr hk
  clear cF
  by_cases h1 : v < rd
  · go_wp2
    go_ret
    exact ⟨⟨(ra, rb, rc, rd, re, rf), HR.out, HK.out, by unfold valE; rw [if_pos (.inl h1)]; rfl⟩, hb1.alloc hb1.size _⟩
  · by_cases h2 : re < v
    · go_wp2
      go_ret
      exact ⟨⟨(ra, rb, rc, rd, re, rf), HR.out, HK.out, by unfold valE; rw [if_pos (.inr h2)]; rfl⟩, hb1.alloc hb1.size _⟩
    · go_wp2
      go_ret
      exact ⟨⟨(ra, rb, rc, rd, re, rf), HR.out, HK.out, by unfold valE; rw [if_neg (by dsimp only; omega)]; rfl⟩, hb1.alloc hb1.size _⟩
end Go.Proofs.Ytbkpokipibgdfaa

/- Layer 7: Group, Default, Name. -/
namespace Go.Proofs.Ytbkpokipibgdfaa
open Go.RowKit Go.Lib

set_option maxRecDepth 100000 in
set_option maxHeartbeats 2000000 in
theorem group_no (p : Int) (hx : ¬ ∃ r ∈ tabP, r.1 = p) (w : World) : Calls Try.prog 77 #[.int .i64 p] w fun e w' => e = .returned (.tuple #[.int .i64 0, .int .i64 4]) ∧ Below w.heap.size w w' := by
  have cF := fun w' => find_no p hx w'
  clear hx
  go_enter Try.func77, Try.ntmps77
  go_wp2_with (go_at_call 88; (with_reducible refine (cF _).mono ?_); rintro e w1 ⟨rfl, hb1⟩)
  first
    | go_ret2
    | go_ret
    | (refine bodyPost_ret (results_tmp3 rfl _ _ _) rfl ?_)
  exact ⟨rfl, hb1.alloc hb1.size _⟩
set_option maxRecDepth 100000 in
set_option maxHeartbeats 2000000 in
theorem group_yes (p : Int) (hx : ∃ r ∈ tabP, r.1 = p) (w : World) : Calls Try.prog 77 #[.int .i64 p] w fun e w' => (∃ r ∈ tabP, r.1 = p ∧ e = .returned (.tuple #[.int .i64 r.2.2.1, .int .i64 0])) ∧ Below w.heap.size w w' := by
  have cF := fun w' => find_yes p hx w'
  clear hx
  go_enter Try.func77, Try.ntmps77
  go_wp2_with fail
  refine (cF _).mono ?_
  rintro e w1 ⟨⟨⟨ra, rb, rc, rd, re, rf⟩, hr, hk, rfl⟩, hb1⟩
  have HR := Go.Lib.hid hr
  have HK := Go.Lib.hid hk
  clear hr hk cF
  go_wp2
  first
    | go_ret2
    | go_ret
    | (refine bodyPost_ret (results_tmp3 rfl _ _ _) rfl ?_)
  exact ⟨⟨(ra, rb, rc, rd, re, rf), HR.out, HK.out, rfl⟩, hb1.alloc hb1.size _⟩
set_option maxRecDepth 100000 in
set_option maxHeartbeats 2000000 in
theorem preset_no (p : Int) (hx : ¬ ∃ r ∈ tabP, r.1 = p) (w : World) : Calls Try.prog 82 #[.int .i64 p] w fun e w' => e = .returned (.tuple #[.int .i64 0, .int .i64 4]) ∧ Below w.heap.size w w' := by
  have cF := fun w' => find_no p hx w'
  clear hx
  go_enter Try.func82, Try.ntmps82
  go_wp2_with (go_at_call 88; (with_reducible refine (cF _).mono ?_); rintro e w1 ⟨rfl, hb1⟩)
  first
    | go_ret2
    | go_ret
    | (refine bodyPost_ret (results_tmp3 rfl _ _ _) rfl ?_)
  exact ⟨rfl, hb1.alloc hb1.size _⟩
set_option maxRecDepth 100000 in
set_option maxHeartbeats 2000000 in
theorem preset_yes (p : Int) (hx : ∃ r ∈ tabP, r.1 = p) (w : World) : Calls Try.prog 82 #[.int .i64 p] w fun e w' => (∃ r ∈ tabP, r.1 = p ∧ e = .returned (.tuple #[.int .i64 r.2.2.2.2.2, .int .i64 0])) ∧ Below w.heap.size w w' := by
  have cF := fun w' => find_yes p hx w'
  clear hx
  go_enter Try.func82, Try.ntmps82
  go_wp2_with fail
  refine (cF _).mono ?_
  rintro e w1 ⟨⟨⟨ra, rb, rc, rd, re, rf⟩, hr, hk, rfl⟩, hb1⟩
  have HR := Go.Lib.hid hr
  have HK := Go.Lib.hid hk
  clear hr hk cF
  go_wp2
  first
    | go_ret2
    | go_ret
    | (refine bodyPost_ret (results_tmp3 rfl _ _ _) rfl ?_)
  exact ⟨⟨(ra, rb, rc, rd, re, rf), HR.out, HK.out, rfl⟩, hb1.alloc hb1.size _⟩
end Go.Proofs.Ytbkpokipibgdfaa

/- Layer 7: known. -/
namespace Go.Proofs.Ytbkpokipibgdfaa
open Go.RowKit Go.Lib

/-- A row of one's own is never nil when it has elements; its cells. -/
theorem own_cells {w : World} {b : Nat} {e : TypeId} {s n : Nat} {v : Value} {xs : List Value} (h : w.ownsRow b e s v n xs) (hn : 0 < n) : ∃ g cap, v = .slice (some ⟨g, 0, none⟩) n cap ∧ g < w.heap.size ∧ ∀ j, j < n * s → w.cell? ⟨g, j, none⟩ = xs[j]? := by
  have h2 := h
  rcases h.2 with ⟨_, h0⟩ | ⟨g, cap, cur, hv, hb, hg, _⟩
  · omega
  · subst hv
    exact ⟨g, cap, rfl, (Array.getElem?_eq_some_iff.1 hg).1, fun j hj => h2.cellAt j hj⟩
theorem two_new (w : World) (o1 o2 : Obj) : ((w.alloc o1).alloc o2).heap[w.heap.size]? = some o1 ∧ ((w.alloc o1).alloc o2).heap[w.heap.size + 1]? = some o2 := by
  refine ⟨(Below.heap_alloc _ _ _ (by simp)).trans (World.alloc_heap_new w _), ?_⟩
  have := World.alloc_heap_new (w.alloc o1) o2
  rw [World.size_alloc] at this
  exact this

end Go.Proofs.Ytbkpokipibgdfaa

/- Layer 7: the reference's table of keys, and what finds a row in it. -/
namespace Go.Proofs.Ytbkpokipibgdfaa
open Go.RowKit Go.Lib

/-- A row as the reference lays it: key, group, least, greatest, preset value, name. -/
def rowR6 (r : Row) : List Value := [.int .i64 r.1, .int .i64 r.2.2.1, .int .i64 r.2.2.2.1, .int .i64 r.2.2.2.2.1, .int .i64 r.2.2.2.2.2, .string r.2.1]
def rowRV (r : Row) : Value := .agg (rowR6 r).toArray
def cellsR : Array Value := (tabP.flatMap rowR6).toArray
theorem built30 (k : Int) (nm : ByteArray) (g lo hi d : Int) : Program.built Try.prog 57 [(0, .int .i64 k), (1, .int .i64 g), (2, .int .i64 lo), (3, .int .i64 hi), (4, .int .i64 d), (5, .string nm)] = some (rowR6 (k, nm, g, lo, hi, d)).toArray := by kernel_rfl
def mkRowR (pos : String) (x : Nat × Row) : Oper :=
  { dst := some x.1, op := .build 57 #[(0, .const (.int .i64 x.2.1)), (1, .const (.int .i64 x.2.2.2.1)), (2, .const (.int .i64 x.2.2.2.2.1)), (3, .const (.int .i64 x.2.2.2.2.2.1)), (4, .const (.int .i64 x.2.2.2.2.2.2)), (5, .const (.string x.2.2.1))], type := 57, pos := pos, after := #[], guard := none }
def putAllR (a : Act) (l : List (Nat × Row)) : Act := l.foldl (fun a x => a.put (some x.1) (rowRV x.2)) a
theorem wpList_rowsR {ops : Array Oper} {Q : Exit → Act → World → Prop} {rest : List Oper} {w : World} (pos : String)
    (l : List (Nat × Row)) (a : Act) (h : wpList Try.prog ops Q rest (putAllR a l) w) : wpList Try.prog ops Q (l.map (mkRowR pos) ++ rest) a w := by
  induction l generalizing a with
  | nil => exact h
  | cons x l ih =>
    obtain ⟨i, k, nm, g, lo, hi, d⟩ := x
    have e := built30 k nm g lo hi d
    refine wpList_build rfl 57 _ rfl (by simpa [Act.eval] using congrArg Option.isSome e) ?_
    have e' : (Program.built Try.prog 57 ((#[(0, Operand.const (.int .i64 k)), (1, .const (.int .i64 g)), (2, .const (.int .i64 lo)), (3, .const (.int .i64 hi)), (4, .const (.int .i64 d)), (5, .const (.string nm))] : Array (Nat × Operand)).map fun (i, x) => (i, a.eval x)).toList).getD #[] = (rowR6 (k, nm, g, lo, hi, d)).toArray := by
      simpa [Act.eval] using congrArg (·.getD #[]) e
    rw [e']
    exact ih _ h
theorem putAllR_defers (a : Act) (l : List (Nat × Row)) : (putAllR a l).defers = a.defers := by
  unfold putAllR
  induction l generalizing a with
  | nil => rfl
  | cons x l ih => rw [List.foldl_cons, ih]; rfl
theorem putAllR_size (a : Act) (l : List (Nat × Row)) : (putAllR a l).tmps.size = a.tmps.size := by
  unfold putAllR
  induction l generalizing a with
  | nil => rfl
  | cons x l ih => rw [List.foldl_cons, ih]; simp [Act.put]
theorem putAllR_get (l : List Row) (i0 : Nat) (a : Act) (h : i0 + l.length ≤ a.tmps.size) (k : Nat) :
    (putAllR a ((l.zipIdx i0).map fun x => (x.2, x.1))).tmps[k]? = if i0 ≤ k ∧ k < i0 + l.length then (l[k - i0]?).map rowRV else a.tmps[k]? := by
  induction l generalizing i0 a with
  | nil =>
    rw [if_neg (by simp only [List.length_nil]; omega)]; rfl
  | cons s l ih =>
    have hl : (s :: l).length = l.length + 1 := rfl
    have e : putAllR a (((s :: l).zipIdx i0).map fun x => (x.2, x.1)) = putAllR (a.put (some i0) (rowRV s)) ((l.zipIdx (i0 + 1)).map fun x => (x.2, x.1)) := rfl
    have hsz : (a.put (some i0) (rowRV s)).tmps.size = a.tmps.size := by simp [Act.put]
    rw [e, ih (i0 + 1) _ (by rw [hsz]; omega)]
    by_cases h1 : k = i0
    · subst h1
      rw [if_neg (by omega), if_pos (by omega), Nat.sub_self]
      simp [Act.put, Array.getElem?_setIfInBounds]
      omega
    · by_cases h2 : i0 + 1 ≤ k ∧ k < i0 + 1 + l.length
      · rw [if_pos h2, if_pos (by omega)]
        have e2 : k - i0 = (k - (i0 + 1)) + 1 := by omega
        rw [e2, List.getElem?_cons_succ]
      · rw [if_neg h2, if_neg (by omega)]
        simp [Act.put, Ne.symm h1]
theorem wpList_assignR {P : Program} {ops : Array Oper} {Q : Exit → Act → World → Prop} {rest : List Oper} {w : World} {o : Oper} {a : Act} (hg : o.guard = none) (x : Operand) (h : o.op = .assign x)
    (hk : wpList P ops Q rest (a.put o.dst (a.eval x)) w) : wpList P ops Q (o :: rest) a w :=
  wpList_plain hg fun _ hK => by unfold Oper.wp execOp; rw [h]; exact hK _ _ hk
noncomputable def opsR : List Oper := match Try.f42.body with
  | some (.seq _ (.seq (.region _ o _) _)) => o.toList
  | _ => []
def slotsR : List (Nat × Row) := (tabP.zipIdx 1).map fun x => (x.2, x.1)
noncomputable def lastR : Oper := (opsR.drop 45).headD { dst := none, op := .assign (.const undef), type := 0, pos := "", after := #[], guard := none }
noncomputable def endR : Oper := (opsR.drop 46).headD { dst := none, op := .assign (.const undef), type := 0, pos := "", after := #[], guard := none }
set_option maxRecDepth 1000000 in
theorem opsR_eq : opsR = slotsR.map (mkRowR "ref.go:14") ++ [lastR, endR] := by kernel_rfl
noncomputable def partsR : Array (Nat × Operand) := match lastR.op with
  | .buildSlice _ _ p => p
  | _ => #[]
set_option maxRecDepth 1000000 in
theorem lastR_op : lastR.op = .buildSlice 68 45 partsR := by kernel_rfl
theorem lastR_guard : lastR.guard = none := by kernel_rfl
theorem lastR_dst : lastR.dst = some 46 := by kernel_rfl
theorem endR_op : endR.op = .assign (.tmp 46) := by kernel_rfl
theorem endR_guard : endR.guard = none := by kernel_rfl
theorem endR_dst : endR.dst = some 0 := by kernel_rfl
set_option maxRecDepth 1000000 in
theorem partsR_eq : partsR.toList = (List.range 45).map fun i => (i, Operand.tmp (i + 1)) := by kernel_rfl
theorem info30 : (Try.prog.info? 57).map (fun i => (i.zero, i.size)) = some (some (.agg #[.int .i64 0, .int .i64 0, .int .i64 0, .int .i64 0, .int .i64 0, .string ⟨#[]⟩]), 6) := by kernel_rfl
theorem fill_rowsR (l : List Row) (z : Array Value) (hz : z.size = l.length * 6) :
    Instr.fill (fun i => some (i * 6, 6)) z (((l.map rowRV).zipIdx 0).map fun x => (x.2, x.1)) = some (l.flatMap rowR6).toArray := by
  rw [Great.fill_whole (by decide) (l.map rowRV) z (fun v hv => by obtain ⟨s, _, rfl⟩ := List.mem_map.1 hv; rfl) (by rw [List.length_map, hz])]
  congr 2
  rw [List.flatMap_map]
  rfl
theorem parts_rowsR (a : Act) (l : List Row) (parts : Array (Nat × Operand)) (n : Nat) (hn : l.length = n) (hp : parts.toList = (List.range n).map fun i => (i, Operand.tmp (i + 1)))
    (ha : ∀ k (h : k < l.length), a.tmps[k + 1]? = some (rowRV l[k])) : (parts.map fun (i, x) => (i, a.eval x)).toList = ((l.map rowRV).zipIdx 0).map fun x => (x.2, x.1) := by
  rw [Array.toList_map, hp]
  apply List.ext_getElem
  · simp [hn]
  · intro k h1 h2
    have hk : k < l.length := by simpa using h2
    have e := ha k hk
    simp only [List.getElem_map, List.getElem_range, List.getElem_zipIdx, Nat.zero_add]
    have : a.eval (Operand.tmp (k + 1)) = rowRV l[k] := by
      simp [Act.eval, e]
    rw [this]
theorem table_endR {ops : Array Oper} {Q : Exit → Act → World → Prop} {w : World} (a : Act) (l : List Row) (n : Nat) (parts : Array (Nat × Operand)) (o1 o2 : Oper) (d1 : Tmp)
    (hn : l.length = n) (h0 : 0 < n) (hsm : n ≤ 1000) (hp : parts.toList = (List.range n).map fun i => (i, Operand.tmp (i + 1)))
    (g1 : o1.guard = none) (e1 : o1.op = .buildSlice 68 n parts) (t1 : o1.dst = some d1) (g2 : o2.guard = none) (e2 : o2.op = .assign (.tmp d1))
    (ha : ∀ k (h : k < l.length), a.tmps[k + 1]? = some (rowRV l[k])) (hd : d1 < a.tmps.size)
    (h : Q .normal ((a.put (some d1) (.slice (some ⟨w.heap.size, 0, none⟩) n n)).put o2.dst (.slice (some ⟨w.heap.size, 0, none⟩) n n)) (w.alloc (.cells (l.flatMap rowR6).toArray 57))) : wpList Try.prog ops Q [o1, o2] a w := by
  have hi := info30
  cases hie : Try.prog.info? 57 with
  | none => rw [hie] at hi; cases hi
  | some ie =>
    rw [hie] at hi
    simp only [Option.map_some, Option.some.injEq, Prod.mk.injEq] at hi
    obtain ⟨hz, hs⟩ := hi
    refine wpList_buildSlice g1 68 57 n parts e1 (l.flatMap rowR6).toArray ie _ Try.underlying68 hie hz (by rw [hs]; omega) (by rw [hs]; omega) ?_ ?_
    · rw [hs, parts_rowsR a l parts n hn hp ha]
      exact fill_rowsR l _ (by simp [hn])
    · rw [t1]
      refine wpList_assignR g2 _ e2 (wpList_nil ?_)
      have : (a.put (some d1) (.slice (some ⟨w.heap.size, 0, none⟩) n n)).eval (.tmp d1) = .slice (some ⟨w.heap.size, 0, none⟩) n n := by
        simp [Act.eval, Act.put, hd]
      rw [this]
      exact h
theorem ret_slot0 {P : Program} {fn : Func} {R : Ending → World → Prop} {a : Act} {w : World} {v : Value} (hr : fn.results = #[.tmp 0]) (h0 : 0 < a.tmps.size) (hd : a.defers = []) (hR : R (.returned v) w) :
    Code.ret.wp P (bodyPost P fn R) (a.put (some 0) v) w := by
  refine wp_ret (bodyPost_ret (v := v) ?_ hd hR)
  rw [results_tmp hr]
  simp [Act.put, h0]
set_option maxRecDepth 1000000 in
set_option maxHeartbeats 4000000 in
theorem refTable_any (w : World) :
    Calls Try.prog 42 #[] w fun e w' => e = .returned (.slice (some ⟨w.heap.size, 0, none⟩) 45 45) ∧ w' = w.alloc (.cells cellsR 57) := by
  go_enter Try.func42, Try.ntmps42
  refine wp_seq (wp_region_list (wpList_assignR rfl _ rfl (wpList_nil ?_)))
  refine wp_seq (wp_region_list ?_)
  change wpList Try.prog _ _ opsR _ _
  rw [opsR_eq]
  refine wpList_rowsR "ref.go:14" slotsR _ ?_
  refine table_endR _ tabP 45 partsR lastR endR 46 rfl (by decide) (by decide) partsR_eq lastR_guard lastR_op lastR_dst endR_guard endR_op ?_ ?_ ?_
  · intro k hk
    have hk' : k < 45 := hk
    unfold slotsR
    rw [putAllR_get tabP 1 _ (by show 1 + 45 ≤ 47; omega) (k + 1), if_pos ⟨by omega, by show k + 1 < 1 + 45; omega⟩, Nat.add_sub_cancel, List.getElem?_eq_getElem hk]
    rfl
  · rw [putAllR_size]; decide
  · rw [endR_dst]
    dsimp only [Exit.then]
    refine ret_slot0 rfl ?_ ?_ ⟨rfl, rfl⟩
    · simp only [Act.put, Array.size_setIfInBounds, putAllR_size]; decide
    · rw [show ∀ (a : Act) v, (a.put (some 46) v).defers = a.defers from fun _ _ => rfl, putAllR_defers]; rfl
end Go.Proofs.Ytbkpokipibgdfaa

/- Layer 7: the reference's Of. -/
namespace Go.Proofs.Ytbkpokipibgdfaa
open Go.RowKit Go.Lib

/-- The reference's rows in memory. -/
def RRowAt (w : World) (g : Nat) (l : List Row) : Prop := g < w.heap.size ∧ ∀ k (h : k < l.length),
  w.cell? ⟨g, k * 6, none⟩ = some (.int .i64 l[k].1) ∧ w.cell? ⟨g, k * 6 + 1, none⟩ = some (.int .i64 l[k].2.2.1) ∧ w.cell? ⟨g, k * 6 + 2, none⟩ = some (.int .i64 l[k].2.2.2.1) ∧
  w.cell? ⟨g, k * 6 + 3, none⟩ = some (.int .i64 l[k].2.2.2.2.1) ∧ w.cell? ⟨g, k * 6 + 4, none⟩ = some (.int .i64 l[k].2.2.2.2.2) ∧ w.cell? ⟨g, k * 6 + 5, none⟩ = some (.string l[k].2.1)
theorem rowR6_len (r : Row) : (rowR6 r).length = 6 := rfl
theorem rowsR_get (l : List Row) : ∀ k (h : k < l.length) j, j < 6 → (l.flatMap rowR6)[k * 6 + j]? = (rowR6 l[k])[j]? := by
  induction l with
  | nil => intro k h; simp at h
  | cons a l ih =>
    intro k h j hj
    rw [List.flatMap_cons]
    cases k with
    | zero => rw [Nat.zero_mul, Nat.zero_add, List.getElem?_append_left (by rw [rowR6_len]; exact hj)]; rfl
    | succ k =>
      rw [List.getElem?_append_right (by rw [rowR6_len]; omega), rowR6_len, show (k + 1) * 6 + j - 6 = k * 6 + j by omega]
      exact ih k (by simpa using h) j hj
theorem ref_rows {w : World} {g : Nat} (hg : w.heap[g]? = some (.cells cellsR 57 (0, 0))) : RRowAt w g tabP := by
  refine ⟨(Array.getElem?_eq_some_iff.1 hg).1, fun k hk => ?_⟩
  have key : ∀ j, j < 6 → w.cell? ⟨g, k * 6 + j, none⟩ = (rowR6 tabP[k])[j]? := fun j hj => by
    rw [cell_of_row w g _ _ _ _ hg]
    unfold cellsR
    rw [List.getElem?_toArray]
    exact rowsR_get tabP k hk j hj
  exact ⟨key 0 (by omega), key 1 (by omega), key 2 (by omega), key 3 (by omega), key 4 (by omega), key 5 (by omega)⟩
/-- What the reference's table hands back. -/
def GetsR (w : World) (e : Ending) (w' : World) : Prop := ∃ g, e = .returned (.slice (some ⟨g, 0, none⟩) 45 45) ∧ RRowAt w' g tabP ∧ Below w.heap.size w w'
theorem refTable_gets (w : World) : Calls Try.prog 42 #[] w (GetsR w) := (refTable_any w).mono fun e w' ⟨he, hw⟩ => by
  subst hw
  exact ⟨_, he, ref_rows (World.alloc_heap_new w _), (Below.refl _ w).alloc (Nat.le_refl _) _⟩
def rowRet (r : Row) (b : Bool) : Ending := .returned (.tuple #[.agg #[.int .i64 r.1, .int .i64 r.2.2.1, .int .i64 r.2.2.2.1, .int .i64 r.2.2.2.2.1, .int .i64 r.2.2.2.2.2, .string r.2.1], .bool b])
/-- What Of hands back. -/
def OfPost (p : Int) (w : World) (e : Ending) (w' : World) : Prop :=
  ((∃ r ∈ tabP, r.1 = p ∧ e = rowRet r true) ∨ ((∀ r ∈ tabP, r.1 ≠ p) ∧ e = rowRet (0, ⟨#[]⟩, 0, 0, 0, 0) false)) ∧ Below w.heap.size w w'
theorem tab_none {p : Int} (h : ∀ j (hj : j < tabP.length), j < 45 → tabP[j].1 ≠ p) : ∀ r ∈ tabP, r.1 ≠ p := by
  intro r hr
  obtain ⟨j, hj, rfl⟩ := List.mem_iff_getElem.1 hr
  exact h j hj hj

set_option maxRecDepth 100000 in
set_option maxHeartbeats 4000000 in
theorem of_any (p : Int) (w : World) : Calls Try.prog 35 #[.int .i64 p] w (OfPost p w) := by
  have cT := fun w' => refTable_gets w'
  have o2 := ObjAt.new w #[.int .i64 0, .int .i64 0, .int .i64 0, .int .i64 0, .int .i64 0, .string ⟨#[]⟩] 57
  have B0 : Below w.heap.size w (w.alloc (.cells #[.int .i64 0, .int .i64 0, .int .i64 0, .int .i64 0, .int .i64 0, .string ⟨#[]⟩] 57)) := (Below.refl _ w).alloc (Nat.le_refl _) _
  go_enter Try.func35, Try.ntmps35
  go_wp2_with (go_at_call 42; (with_reducible refine (cT _).mono ?_); rintro e w1 ⟨g, rfl, hR, hb1⟩)
  have o3 := o2.below hb1
  have bb := B0.trans (hb1.mono (by simp))
  have s0 := o3.s0
  have s1 := o3.s1
  have s2 := o3.s2
  have s3 := o3.s3
  have s4 := o3.s4
  have s5 := o3.s5
  have f0 := o3.frozen 0
  have f1 := o3.frozen 1
  have f2 := o3.frozen 2
  have f3 := o3.frozen 3
  have f4 := o3.frozen 4
  have f5 := o3.frozen 5
  have HR := Go.Lib.hid hR
  clear hR cT hb1 o2 B0
  go_loop [5] (fun i => ∃ k : Nat, k ≤ 45 ∧ i = .int .i64 k ∧ Hid (∀ j (hj : j < tabP.length), j < k → tabP[j].1 ≠ p)) (fun i => 45 - (intOf i).toNat)
  case atStart => exact ⟨0, by omega, rfl, Go.Lib.hid fun j _ h => by omega⟩
  case round =>
    obtain ⟨k, hk, rfl, HN⟩ := hrel
    by_cases hlt : k < 45
    · obtain ⟨c0, c1, c2, c3, c4, c5⟩ := HR.out.2 k hlt
      have hmem : tabP[k]'hlt ∈ tabP := List.getElem_mem _
      have MEM := Go.Lib.hid hmem
      clear hmem
      generalize hr : tabP[k]'hlt = r at c0 c1 c2 c3 c4 c5 MEM
      have RR := Go.Lib.hid hr
      clear hr
      obtain ⟨ra, rb, rc, rd, re, rf⟩ := r
      dsimp only at c0 c1 c2 c3 c4 c5
      by_cases he : ra = p
      · have he' : (ra == p) = true := by simpa using he
        have HE := Go.Lib.hid he
        clear he
        go_wp2
        have q := set6 o3 (.int .i64 ra) (.int .i64 rc) (.int .i64 rd) (.int .i64 re) (.int .i64 rf) (.string rb)
        have q0 := q.s0
        have q1 := q.s1
        have q2 := q.s2
        have q3 := q.s3
        have q4 := q.s4
        have q5 := q.s5
        exact bodyPost_ret (v := .tuple #[.agg #[.int .i64 ra, .int .i64 rc, .int .i64 rd, .int .i64 re, .int .i64 rf, .string rb], .bool true]) (by simp [results, Try.results35, go_sem, q0, q1, q2, q3, q4, q5]) rfl ⟨.inl ⟨_, MEM.out, HE.out, rfl⟩, set6_below bb (Nat.le_refl _) _ _ _ _ _ _⟩
      · have he' : (ra == p) = false := by simpa using he
        have HE := Go.Lib.hid he
        clear he
        go_wp2
        go_round
        case rel => exact ⟨k + 1, by omega, by go_num, Go.Lib.hid fun j hj hjk => by
          by_cases h : j = k
          · subst h; exact fun h2 => HE.out ((congrArg (·.1) RR.out).symm.trans h2)
          · exact HN.out j hj (by omega)⟩
        case measure => simp [intOf]; omega
    · obtain rfl : k = 45 := by omega
      go_wp2
      have q := set6 o3 (.int .i64 0) (.int .i64 0) (.int .i64 0) (.int .i64 0) (.int .i64 0) (.string ⟨#[]⟩)
      have q0 := q.s0
      have q1 := q.s1
      have q2 := q.s2
      have q3 := q.s3
      have q4 := q.s4
      have q5 := q.s5
      exact bodyPost_ret (v := .tuple #[.agg #[.int .i64 0, .int .i64 0, .int .i64 0, .int .i64 0, .int .i64 0, .string ⟨#[]⟩], .bool false]) (by simp [results, Try.results35, go_sem, q0, q1, q2, q3, q4, q5]) rfl ⟨.inr ⟨tab_none HN.out, rfl⟩, set6_below bb (Nat.le_refl _) _ _ _ _ _ _⟩
end Go.Proofs.Ytbkpokipibgdfaa

/- Layer 7: what is known of a row; the reference's Fits. -/
namespace Go.Proofs.Ytbkpokipibgdfaa
open Go.RowKit Go.Lib

theorem tab_uniq {r r' : Row} (h : r ∈ tabP) (h' : r' ∈ tabP) (e : r.1 = r'.1) : r = r' := by
  obtain ⟨i, hi, rfl⟩ := List.mem_iff_getElem.1 h
  obtain ⟨j, hj, rfl⟩ := List.mem_iff_getElem.1 h'
  rcases Nat.lt_trichotomy i j with h1 | h1 | h1
  · have := tab_sort i j hi hj h1; omega
  · subst h1; rfl
  · have := tab_sort j i hj hi h1; omega
theorem of_no (p : Int) (hx : ¬ ∃ r ∈ tabP, r.1 = p) (w : World) : Calls Try.prog 35 #[.int .i64 p] w fun e w' => e = .returned (.tuple #[.agg #[.int .i64 0, .int .i64 0, .int .i64 0, .int .i64 0, .int .i64 0, .string ⟨#[]⟩], .bool false]) ∧ Below w.heap.size w w' :=
  (of_any p w).mono fun e w' ⟨h, hb⟩ => ⟨by
    rcases h with ⟨r, hr, hk, _⟩ | ⟨_, he⟩
    · exact absurd ⟨r, hr, hk⟩ hx
    · exact he, hb⟩
section
variable (ra : Int) (rb : ByteArray) (rc rd re rf : Int) (hm : (ra, rb, rc, rd, re, rf) ∈ tabP)
include hm
theorem of_row (w : World) : Calls Try.prog 35 #[.int .i64 ra] w fun e w' => e = .returned (.tuple #[.agg #[.int .i64 ra, .int .i64 rc, .int .i64 rd, .int .i64 re, .int .i64 rf, .string rb], .bool true]) ∧ Below w.heap.size w w' :=
  (of_any ra w).mono fun e w' ⟨h, hb⟩ => ⟨by
    rcases h with ⟨r, hr, hk, he⟩ | ⟨hn, _⟩
    · obtain rfl := tab_uniq hr hm hk
      exact he
    · exact absurd rfl (hn _ hm), hb⟩
theorem fits_row (x : Int) (w : World) : Calls Try.prog 71 #[.int .i64 x, .int .i64 ra] w fun e w' => e = .returned (.bool (hasG x rc)) ∧ Below w.heap.size w w' :=
  (fits_yes x ra ⟨_, hm, rfl⟩ w).mono fun e w' ⟨⟨r, hr, hk, he⟩, hb⟩ => ⟨by
    obtain rfl := tab_uniq hr hm hk
    exact he, hb⟩
theorem checkv_row (v : Int) (w : World) : Calls Try.prog 72 #[.int .i64 ra, .int .i64 v] w fun e w' => e = .returned (.int .i64 (valE (ra, rb, rc, rd, re, rf) v)) ∧ Below w.heap.size w w' :=
  (checkv_yes ra v ⟨_, hm, rfl⟩ w).mono fun e w' ⟨⟨r, hr, hk, he⟩, hb⟩ => ⟨by
    obtain rfl := tab_uniq hr hm hk
    exact he, hb⟩
theorem group_row (w : World) : Calls Try.prog 77 #[.int .i64 ra] w fun e w' => e = .returned (.tuple #[.int .i64 rc, .int .i64 0]) ∧ Below w.heap.size w w' :=
  (group_yes ra ⟨_, hm, rfl⟩ w).mono fun e w' ⟨⟨r, hr, hk, he⟩, hb⟩ => ⟨by
    obtain rfl := tab_uniq hr hm hk
    exact he, hb⟩
theorem preset_row (w : World) : Calls Try.prog 82 #[.int .i64 ra] w fun e w' => e = .returned (.tuple #[.int .i64 rf, .int .i64 0]) ∧ Below w.heap.size w w' :=
  (preset_yes ra ⟨_, hm, rfl⟩ w).mono fun e w' ⟨⟨r, hr, hk, he⟩, hb⟩ => ⟨by
    obtain rfl := tab_uniq hr hm hk
    exact he, hb⟩
theorem find_row (w : World) : Calls Try.prog 88 #[.int .i64 ra] w fun e w' => e = .returned (.tuple #[.agg #[.int .i64 ra, .string rb, .int .i64 rc, .int .i64 rd, .int .i64 re, .int .i64 rf], .int .i64 0]) ∧ Below w.heap.size w w' :=
  (find_yes ra ⟨_, hm, rfl⟩ w).mono fun e w' ⟨⟨r, hr, hk, he⟩, hb⟩ => ⟨by
    obtain rfl := tab_uniq hr hm hk
    exact he, hb⟩
end
set_option maxRecDepth 100000 in
set_option maxHeartbeats 2000000 in
theorem rfits_no (x p : Int) (hx : ¬ ∃ r ∈ tabP, r.1 = p) (w : World) : Calls Try.prog 79 #[.int .i64 x, .int .i64 p] w fun e w' => e = .returned (.bool false) ∧ Below w.heap.size w w' := by
  have cF := fun w' => of_no p hx w'
  clear hx
  go_enter Try.func79, Try.ntmps79
  go_wp2_with (go_at_call 35; (with_reducible refine (cF _).mono ?_); rintro e w1 ⟨rfl, hb1⟩)
  go_ret
  exact ⟨rfl, hb1.alloc hb1.size _⟩
set_option maxRecDepth 100000 in
set_option maxHeartbeats 8000000 in
theorem rfits_row (x ra : Int) (rb : ByteArray) (rc rd re rf : Int) (hm : (ra, rb, rc, rd, re, rf) ∈ tabP) (w : World) : Calls Try.prog 79 #[.int .i64 x, .int .i64 ra] w fun e w' => e = .returned (.bool (hasG x rc)) ∧ Below w.heap.size w w' := by
  have cF := fun w' => of_row ra rb rc rd re rf hm w'
  clear hm
  by_cases h1 : x = 1
  · subst h1
    go_enter Try.func79, Try.ntmps79
    go_wp2_with (go_at_call 35; (with_reducible refine (cF _).mono ?_); rintro e w1 ⟨rfl, hb1⟩)
    go_ret
    exact ⟨ret_bool' (by simp [hasG]), hb1.alloc hb1.size _⟩
  by_cases h4 : x = 4
  · subst h4
    go_enter Try.func79, Try.ntmps79
    go_wp2_with (go_at_call 35; (with_reducible refine (cF _).mono ?_); rintro e w1 ⟨rfl, hb1⟩)
    go_ret
    exact ⟨ret_bool' (by simp [hasG]), hb1.alloc hb1.size _⟩
  by_cases h5 : x = 5
  · subst h5
    go_enter Try.func79, Try.ntmps79
    go_wp2_with (go_at_call 35; (with_reducible refine (cF _).mono ?_); rintro e w1 ⟨rfl, hb1⟩)
    go_ret
    exact ⟨ret_bool' (by simp [hasG]), hb1.alloc hb1.size _⟩
  by_cases h6 : x = 6
  · subst h6
    go_enter Try.func79, Try.ntmps79
    go_wp2_with (go_at_call 35; (with_reducible refine (cF _).mono ?_); rintro e w1 ⟨rfl, hb1⟩)
    go_ret
    exact ⟨ret_bool' (by simp [hasG]), hb1.alloc hb1.size _⟩
  by_cases h2 : x = 2
  · subst h2
    by_cases hg : rc = 1
    · subst hg
      go_enter Try.func79, Try.ntmps79
      go_wp2_with (go_at_call 35; (with_reducible refine (cF _).mono ?_); rintro e w1 ⟨rfl, hb1⟩)
      go_ret
      exact ⟨ret_bool' (by simp [hasG]), hb1.alloc hb1.size _⟩
    · have hgb : (rc == 1) = false := neB hg
      go_enter Try.func79, Try.ntmps79
      go_wp2_with (go_at_call 35; (with_reducible refine (cF _).mono ?_); rintro e w1 ⟨rfl, hb1⟩)
      go_ret
      exact ⟨ret_bool' (by simp [hasG, hg]), hb1.alloc hb1.size _⟩
  by_cases h3 : x = 3
  · subst h3
    go_enter Try.func79, Try.ntmps79
    go_wp2_with (go_at_call 35; (with_reducible refine (cF _).mono ?_); rintro e w1 ⟨rfl, hb1⟩)
    go_ret
    exact ⟨ret_bool' (by simp [hasG]), hb1.alloc hb1.size _⟩
  by_cases h9 : x = 9
  · subst h9
    go_enter Try.func79, Try.ntmps79
    go_wp2_with (go_at_call 35; (with_reducible refine (cF _).mono ?_); rintro e w1 ⟨rfl, hb1⟩)
    go_ret
    exact ⟨ret_bool' (by simp [hasG]), hb1.alloc hb1.size _⟩
  by_cases h10 : x = 10
  · subst h10
    go_enter Try.func79, Try.ntmps79
    go_wp2_with (go_at_call 35; (with_reducible refine (cF _).mono ?_); rintro e w1 ⟨rfl, hb1⟩)
    go_ret
    exact ⟨ret_bool' (by simp [hasG]), hb1.alloc hb1.size _⟩
  by_cases h7 : x = 7
  · subst h7
    go_enter Try.func79, Try.ntmps79
    go_wp2_with (go_at_call 35; (with_reducible refine (cF _).mono ?_); rintro e w1 ⟨rfl, hb1⟩)
    go_ret
    exact ⟨ret_bool' (by simp [hasG]), hb1.alloc hb1.size _⟩
  have b1 : (x == 1) = false := neB h1
  have b4 : (x == 4) = false := neB h4
  have b5 : (x == 5) = false := neB h5
  have b6 : (x == 6) = false := neB h6
  have b2 : (x == 2) = false := neB h2
  have b3 : (x == 3) = false := neB h3
  have b9 : (x == 9) = false := neB h9
  have b10 : (x == 10) = false := neB h10
  have b7 : (x == 7) = false := neB h7
  go_enter Try.func79, Try.ntmps79
  go_wp2_with (go_at_call 35; (with_reducible refine (cF _).mono ?_); rintro e w1 ⟨rfl, hb1⟩)
  go_ret
  exact ⟨ret_bool' (by simp [hasG, h1, h4, h5, h6, h2, h3, h7, h9, h10]), hb1.alloc hb1.size _⟩
end Go.Proofs.Ytbkpokipibgdfaa

/- Layer 7: arguments that are lists of properties. -/
namespace Go.Proofs.Ytbkpokipibgdfaa
open Go.RowKit Go.Lib Go.ChangeShapes Go.WideShapes

/-- A list of properties that came in: its elements up to its length. -/
def PropsIn (w : World) (A : Option Addr) (len cap : Nat) (l : List Pr) : Prop :=
  l.length = len ∧ len ≤ cap ∧ cap ≤ maxLen ∧ PrAt w A l ∧ ∀ x ∈ l, (Lit.int .i64 x.1).wf = true ∧ (Lit.int .i64 x.2).wf = true
theorem open_props {H : Type} {enc : TypeId × Value → H} {w : World} {fuel len cap : Nat} {A : Option Addr} {x : DataW H × List MemPlace}
    (h : DataW.trod enc Try.prog w 0 (fun _ => true) true fuel 26 [.slice A len cap] = some x) : ∃ l, PropsIn w A len cap l := by
  rcases Go.Deep.open_slice_pairs Try.underlying26 Try.underlying55 (by kernel_rfl) rfl rfl (by kernel_rfl) (by kernel_rfl) h with ⟨hcs, _⟩ | ⟨a, len', cap', m, n, V0, V1, D0, D1, P0, P1, hcs, _, hl, hm, hmm, _, hat⟩
  · simp only [List.cons.injEq, Value.slice.injEq, and_true] at hcs
    obtain ⟨rfl, rfl, rfl⟩ := hcs
    exact ⟨[], rfl, Nat.le_refl _, by decide, .inl rfl, by simp⟩
  · simp only [List.cons.injEq, Value.slice.injEq, and_true] at hcs
    obtain ⟨rfl, rfl, rfl⟩ := hcs
    simp only [if_true] at hmm
    subst hmm
    have each : ∀ i, i < len → ∃ q : Pr, w.cell? (a.add (i * 2)) = some (.int .i64 q.1) ∧ w.cell? (a.add (i * 2 + 1)) = some (.int .i64 q.2) ∧ (Lit.int .i64 q.1).wf = true ∧ (Lit.int .i64 q.2).wf = true := by
      intro i hi
      obtain ⟨h0, h1, t0, t1⟩ := hat i (by omega)
      obtain ⟨z0, e0, _, w0⟩ := DataW.trod_int Try.underlying3 t0
      obtain ⟨z1, e1, _, w1⟩ := DataW.trod_int Try.underlying3 t1
      simp only [List.cons.injEq, and_true] at e0 e1
      exact ⟨(z0, z1), by rw [h0, e0], by rw [h1, e1], w0, w1⟩
    obtain ⟨q, hq⟩ := Go.Deep.choose_lt each
    have hw : ∀ y ∈ (List.range len).map q, (Lit.int .i64 y.1).wf = true ∧ (Lit.int .i64 y.2).wf = true := by
      intro y hy
      obtain ⟨i, hi, rfl⟩ := List.mem_map.1 hy
      exact (hq i (List.mem_range.1 hi)).2.2
    refine ⟨(List.range len).map q, by simp, hl, hm, ?_, hw⟩
    by_cases h0 : len = 0
    · subst h0; exact .inl rfl
    obtain ⟨b, off, spot⟩ := a
    have hc := (hq 0 (by omega)).1
    have hspot : spot = none := by simpa [Addr.add] using World.cell?_spot hc
    subst hspot
    have hadd : ∀ i, ((⟨b, off, none⟩ : Addr).add i) = ⟨b, off + i, none⟩ := by intro i; unfold Addr.add; split <;> simp_all
    have hg : b < w.heap.size := World.block_lt_of_cell? w ⟨b, off + 0 * 2, none⟩ (by rw [hadd] at hc; exact hc)
    refine .inr ⟨b, off, rfl, hg, fun k hk => ?_⟩
    have hk' : k < len := by simpa using hk
    obtain ⟨c0, c1, _⟩ := hq k hk'
    rw [hadd] at c0 c1
    simp only [List.getElem_map, List.getElem_range]
    exact ⟨c0, c1⟩
end Go.Proofs.Ytbkpokipibgdfaa
