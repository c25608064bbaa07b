/- Layer 6: newMaker (34). -/
import Derived.Test.YtknbglcmjggkjaaT3
import Derived.Deep.RegionLaw
import Derived.Deep.RegionHeld3
namespace Go.Proofs.Ytknbglcmjggkjaa
open Go.RowKit Go.Lib Co

/-- The table's cells. -/
def PT : Array Value := ((List.range 512).map fun i => Value.int .i64 (tabF i : Nat)).toArray
set_option maxRecDepth 1000000 in
theorem PT_size : PT.size = 512 := by kernel_rfl
theorem PT_get {i : Nat} (h : i < 512) : PT[i]? = some (.int .i64 (tabF i : Nat)) := by
  unfold PT
  rw [List.getElem?_toArray, List.getElem?_map, List.getElem?_range h]
  rfl
theorem table_pt (w : World) : Calls Try.prog 48 #[] w fun e w' => e = .returned (.agg PT) ∧ Below w.heap.size w w' := by
  refine (table_any w).mono ?_
  rintro e w' ⟨cs, rfl, hs, hc, hb⟩
  have : cs = PT := by
    apply Array.ext
    · rw [hs, PT_size]
    · intro i h1 h2
      have a1 := hc i (by omega)
      have a2 := PT_get (i := i) (by omega)
      rw [Array.getElem?_eq_getElem h1] at a1
      rw [Array.getElem?_eq_getElem h2] at a2
      injection a1.trans a2.symm
  exact ⟨by rw [this], hb⟩
attribute [local irreducible] PT
/-- A maker's cells. -/
def mkC (st : Int) (nu ig uf : Bool) (up : Int) : Array Value := #[.int .i64 st, .bool nu, .bool ig, .bool uf, .int .i64 up] ++ PT
theorem putL_get (L : List Value) : ∀ (s off : Nat) (cells : Array Value), ((L.zipIdx s).foldl (fun (cs : Array Value) (x : Value × Nat) => cs.setIfInBounds (off + x.2) x.1) cells).size = cells.size ∧
    ∀ k, off + s + L.length ≤ cells.size → ((L.zipIdx s).foldl (fun (cs : Array Value) (x : Value × Nat) => cs.setIfInBounds (off + x.2) x.1) cells)[k]? = if off + s ≤ k ∧ k < off + s + L.length then L[k - (off + s)]? else cells[k]? := by
  induction L with
  | nil =>
    intro s off cells
    refine ⟨rfl, fun k _ => ?_⟩
    rw [if_neg (by simp only [List.length_nil]; omega)]
    rfl
  | cons v L ih =>
    intro s off cells
    simp only [List.zipIdx_cons, List.foldl_cons, List.length_cons]
    obtain ⟨h1, h2⟩ := ih (s + 1) off (cells.setIfInBounds (off + s) v)
    refine ⟨by rw [h1, Array.size_setIfInBounds], fun k hk => ?_⟩
    rw [h2 k (by rw [Array.size_setIfInBounds]; omega)]
    by_cases a1 : k = off + s
    · subst a1
      rw [if_neg (by omega), if_pos (by omega), Nat.sub_self, Array.getElem?_setIfInBounds, if_pos rfl, if_pos (by omega)]
      rfl
    · by_cases a2 : off + (s + 1) ≤ k ∧ k < off + (s + 1) + L.length
      · rw [if_pos a2, if_pos (by omega), show k - (off + s) = (k - (off + (s + 1))) + 1 by omega, List.getElem?_cons_succ]
      · rw [if_neg a2, if_neg (by omega), Array.getElem?_setIfInBounds, if_neg (by omega)]
theorem put_get (C : Array Value) (off : Nat) (cells : Array Value) (h : off + C.size ≤ cells.size) : (C.zipIdx.foldl (fun (cs : Array Value) (x : Value × Nat) => cs.setIfInBounds (off + x.2) x.1) cells).size = cells.size ∧
    ∀ k, (C.zipIdx.foldl (fun (cs : Array Value) (x : Value × Nat) => cs.setIfInBounds (off + x.2) x.1) cells)[k]? = if off ≤ k ∧ k < off + C.size then C[k - off]? else cells[k]? := by
  obtain ⟨L⟩ := C
  have e : ((List.toArray L).zipIdx.foldl (fun (cs : Array Value) (x : Value × Nat) => cs.setIfInBounds (off + x.2) x.1) cells) = ((L.zipIdx 0).foldl (fun (cs : Array Value) (x : Value × Nat) => cs.setIfInBounds (off + x.2) x.1) cells) := by simp
  rw [e]
  obtain ⟨h1, h2⟩ := putL_get L 0 off cells
  refine ⟨h1, fun k => ?_⟩
  rw [h2 k (by simpa using h)]
  simp
set_option maxRecDepth 1000000 in
theorem zero93_size : Try.zeroCells93.size = 517 := by kernel_rfl
theorem fold_pt (st : Int) (nu ig uf : Bool) (up : Int) : Array.foldl (fun (cs : Array Value) (x : Value × Nat) => cs.setIfInBounds (5 + x.snd) x.fst) (((((Try.zeroCells93.setIfInBounds 0 (Value.int IntKind.i64 st)).setIfInBounds 1 (Value.bool nu)).setIfInBounds 2 (Value.bool ig)).setIfInBounds 3 (Value.bool uf)).setIfInBounds 4 (Value.int IntKind.i64 up)) PT.zipIdx 0 512 = mkC st nu ig uf up := by
  have hz : (((((Try.zeroCells93.setIfInBounds 0 (Value.int IntKind.i64 st)).setIfInBounds 1 (Value.bool nu)).setIfInBounds 2 (Value.bool ig)).setIfInBounds 3 (Value.bool uf)).setIfInBounds 4 (Value.int IntKind.i64 up)).size = 517 := by
    simp only [Array.size_setIfInBounds]; exact zero93_size
  have hZ := zero93_size
  have hp := PT_size
  obtain ⟨c1, c2⟩ := put_get PT 5 _ (show 5 + PT.size ≤ (((((Try.zeroCells93.setIfInBounds 0 (Value.int IntKind.i64 st)).setIfInBounds 1 (Value.bool nu)).setIfInBounds 2 (Value.bool ig)).setIfInBounds 3 (Value.bool uf)).setIfInBounds 4 (Value.int IntKind.i64 up)).size by omega)
  have e : PT.zipIdx.size = 512 := by rw [Array.size_zipIdx, hp]
  rw [e] at c1 c2
  apply Array.ext_getElem?
  intro k
  rw [c2 k]
  unfold mkC
  rw [Array.getElem?_append]
  have h5 : (#[Value.int .i64 st, .bool nu, .bool ig, .bool uf, .int .i64 up] : Array Value).size = 5 := rfl
  rw [h5]
  by_cases h1 : k < 5
  · rw [if_neg (by omega), if_pos h1]
    simp only [Array.getElem?_setIfInBounds, Array.size_setIfInBounds, hZ]
    rcases (show k = 0 ∨ k = 1 ∨ k = 2 ∨ k = 3 ∨ k = 4 by omega) with rfl | rfl | rfl | rfl | rfl <;> rfl
  · by_cases h3 : k < 517
    · rw [if_pos (by omega), if_neg h1]
    · rw [if_neg (by omega), if_neg h1, Array.getElem?_eq_none (by omega), Array.getElem?_eq_none (by omega)]
/-- A maker in memory. -/
def MkAt (w : World) (b : Nat) (st : Int) (nu ig uf : Bool) : Prop := w.heap[b]? = some (.cells (mkC st nu ig uf (if uf then 1 else 3)) 93 (0, 0))
theorem MkAt.below {w w' : World} {b : Nat} {st : Int} {nu ig uf : Bool} (h : MkAt w b st nu ig uf) (hb : Below w.heap.size w w') : MkAt w' b st nu ig uf :=
  (hb.block b (Array.getElem?_eq_some_iff.1 h).1).trans h
attribute [local irreducible] mkC
set_option maxRecDepth 100000 in
set_option maxHeartbeats 4000000 in
theorem maker_any (st : Int) (nu ig uf : Bool) (w : World) : Calls Try.prog 34 #[opV st nu ig uf] w fun e w' => ∃ b, e = .returned (.pointer (some ⟨b, 0, none⟩)) ∧ w.heap.size ≤ b ∧ MkAt w' b st nu ig uf ∧ Below w.heap.size w w' := by
  unfold opV MkAt
  have hB : Below w.heap.size w (w.alloc (.cells #[.int .i64 st, .bool nu, .bool ig, .bool uf] 23)) := (Below.refl _ w).alloc (Nat.le_refl _) _
  have hps := PT_size
  cases uf with
  | true =>
    have hft := fold_pt st nu ig true 1
    have zz : ∀ k, k < 4 → (w.alloc (.cells #[.int .i64 st, .bool nu, .bool ig, .bool true] 23)).cell? ⟨w.heap.size, k, none⟩ = (#[Value.int .i64 st, .bool nu, .bool ig, .bool true])[k]? := fun k _ => by rw [World.cell?_alloc_new]
    have z0 : _ = some (Value.int .i64 st) := zz 0 (by omega)
    have z1 : _ = some (Value.bool nu) := zz 1 (by omega)
    have z2 : _ = some (Value.bool ig) := zz 2 (by omega)
    have z3 : _ = some (Value.bool _) := zz 3 (by omega)
    clear zz
    have hlW : w.heap.size < (w.alloc (.cells #[.int .i64 st, .bool nu, .bool ig, .bool true] 23)).heap.size := by rw [World.size_alloc]; exact Nat.lt_succ_self _
    simp only [if_true]
    go_enter Try.func34, Try.ntmps34
    go_wp2_with fail
    generalize w.alloc (.cells #[.int .i64 st, .bool nu, .bool ig, .bool true] 23) = W at *
    go_region_held3 (fun w' => w'.cell? ⟨w.heap.size, 0, none⟩ = some (.int .i64 st) ∧ w'.cell? ⟨w.heap.size, 1, none⟩ = some (.bool nu) ∧ w'.cell? ⟨w.heap.size, 2, none⟩ = some (.bool ig) ∧ w'.cell? ⟨w.heap.size, 3, none⟩ = some (.bool true))
      (first
        | exact ⟨z0, z1, z2, z3⟩
        | exact ⟨(k1.cell hlW).trans z0, (k1.cell hlW).trans z1, (k1.cell hlW).trans z2, (k1.cell hlW).trans z3⟩
        | exact ⟨(((Below.refl _ w1).alloc (Nat.le_refl _) _).cell (Nat.lt_of_lt_of_le hlW k1.size)).trans ((k1.cell hlW).trans z0), (((Below.refl _ w1).alloc (Nat.le_refl _) _).cell (Nat.lt_of_lt_of_le hlW k1.size)).trans ((k1.cell hlW).trans z1), (((Below.refl _ w1).alloc (Nat.le_refl _) _).cell (Nat.lt_of_lt_of_le hlW k1.size)).trans ((k1.cell hlW).trans z2), (((Below.refl _ w1).alloc (Nat.le_refl _) _).cell (Nat.lt_of_lt_of_le hlW k1.size)).trans ((k1.cell hlW).trans z3)⟩)
      (first
        | (go_at_call 48; with_reducible refine (table_pt _).mono ?_; rintro e w1 ⟨rfl, k1⟩))
    all_goals
      have s1 : w.heap.size ≤ w1.heap.size := Nat.le_trans hB.size k1.size
      have hB1 : Below w.heap.size w w1 := hB.drew.trans (k1.mono (Nat.le_of_lt hlW))
      go_wp2
      go_ret
      exact ⟨w1.heap.size, rfl, s1, heap_alloc_last _ _, hB1.alloc s1 _⟩
  | false =>
    have hft := fold_pt st nu ig false 3
    have zz : ∀ k, k < 4 → (w.alloc (.cells #[.int .i64 st, .bool nu, .bool ig, .bool false] 23)).cell? ⟨w.heap.size, k, none⟩ = (#[Value.int .i64 st, .bool nu, .bool ig, .bool false])[k]? := fun k _ => by rw [World.cell?_alloc_new]
    have z0 : _ = some (Value.int .i64 st) := zz 0 (by omega)
    have z1 : _ = some (Value.bool nu) := zz 1 (by omega)
    have z2 : _ = some (Value.bool ig) := zz 2 (by omega)
    have z3 : _ = some (Value.bool _) := zz 3 (by omega)
    clear zz
    have hlW : w.heap.size < (w.alloc (.cells #[.int .i64 st, .bool nu, .bool ig, .bool false] 23)).heap.size := by rw [World.size_alloc]; exact Nat.lt_succ_self _
    simp only [Bool.false_eq_true, if_false]
    go_enter Try.func34, Try.ntmps34
    go_wp2_with fail
    generalize w.alloc (.cells #[.int .i64 st, .bool nu, .bool ig, .bool false] 23) = W at *
    go_region_held3 (fun w' => w'.cell? ⟨w.heap.size, 0, none⟩ = some (.int .i64 st) ∧ w'.cell? ⟨w.heap.size, 1, none⟩ = some (.bool nu) ∧ w'.cell? ⟨w.heap.size, 2, none⟩ = some (.bool ig) ∧ w'.cell? ⟨w.heap.size, 3, none⟩ = some (.bool false))
      (first
        | exact ⟨z0, z1, z2, z3⟩
        | exact ⟨(k1.cell hlW).trans z0, (k1.cell hlW).trans z1, (k1.cell hlW).trans z2, (k1.cell hlW).trans z3⟩
        | exact ⟨(((Below.refl _ w1).alloc (Nat.le_refl _) _).cell (Nat.lt_of_lt_of_le hlW k1.size)).trans ((k1.cell hlW).trans z0), (((Below.refl _ w1).alloc (Nat.le_refl _) _).cell (Nat.lt_of_lt_of_le hlW k1.size)).trans ((k1.cell hlW).trans z1), (((Below.refl _ w1).alloc (Nat.le_refl _) _).cell (Nat.lt_of_lt_of_le hlW k1.size)).trans ((k1.cell hlW).trans z2), (((Below.refl _ w1).alloc (Nat.le_refl _) _).cell (Nat.lt_of_lt_of_le hlW k1.size)).trans ((k1.cell hlW).trans z3)⟩)
      (first
        | (go_at_call 48; with_reducible refine (table_pt _).mono ?_; rintro e w1 ⟨rfl, k1⟩))
    all_goals
      have s1 : w.heap.size ≤ w1.heap.size := Nat.le_trans hB.size k1.size
      have hB1 : Below w.heap.size w w1 := hB.drew.trans (k1.mono (Nat.le_of_lt hlW))
      go_wp2
      go_ret
      exact ⟨w1.heap.size, rfl, s1, heap_alloc_last _ _, hB1.alloc s1 _⟩
end Go.Proofs.Ytknbglcmjggkjaa
