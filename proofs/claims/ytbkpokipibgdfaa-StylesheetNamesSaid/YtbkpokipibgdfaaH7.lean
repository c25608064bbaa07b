/- Layer 7: find. -/
import Derived.Test.YtbkpokipibgdfaaH6
namespace Go.Proofs.Ytbkpokipibgdfaa
open Go.RowKit Go.Lib

theorem tab_sort : SortR tabP := by
  have h : ∀ i : Fin 45, ∀ j : Fin 45, i < j → (tabP[i.val]'i.isLt).1 < (tabP[j.val]'j.isLt).1 := by decide +kernel
  intro i j hi hj hij
  exact h ⟨i, hi⟩ ⟨j, hj⟩ hij
theorem rowC6_len (r : Row) : (rowC6 r).length = 6 := rfl
theorem rows_get (l : List Row) : ∀ k (h : k < l.length) j, j < 6 → (l.flatMap rowC6)[k * 6 + j]? = (rowC6 l[k])[j]? := by
  induction l with
  | nil => intro k h; simp at h
  | cons a l ih =>
    intro k h j hj
    rw [List.flatMap_cons]
    cases k with
    | zero => rw [Nat.zero_mul, Nat.zero_add, List.getElem?_append_left (by rw [rowC6_len]; exact hj)]; rfl
    | succ k =>
      rw [List.getElem?_append_right (by rw [rowC6_len]; omega), rowC6_len, show (k + 1) * 6 + j - 6 = k * 6 + j by omega]
      exact ih k (by simpa using h) j hj
theorem tab_rows {w : World} {g : Nat} (hg : w.heap[g]? = some (.cells cellsT 126 (0, 0))) : RowAt w g tabP := by
  refine ⟨(Array.getElem?_eq_some_iff.1 hg).1, fun k hk => ?_⟩
  have key : ∀ j, j < 6 → w.cell? ⟨g, k * 6 + j, none⟩ = (rowC6 tabP[k])[j]? := fun j hj => by
    rw [cell_of_row w g _ _ _ _ hg]
    unfold cellsT
    rw [List.getElem?_toArray]
    exact rows_get tabP k hk j hj
  exact ⟨key 0 (by omega), key 1 (by omega), key 2 (by omega), key 3 (by omega), key 4 (by omega), key 5 (by omega)⟩
theorem found_yes {l : List Row} (hs : SortR l) {p : Int} {w w' : World} {e : Ending} (h : FoundR l p w e w') (hx : ∃ r ∈ l, r.1 = p) :
    ∃ i, ∃ h : i < l.length, l[i].1 = p ∧ Below w.heap.size w w' ∧ e = .returned (.tuple #[.int .i64 (i : Nat), .bool true]) := by
  obtain ⟨i, ⟨h1, h2, h3⟩, hb, rfl⟩ := h
  obtain ⟨r, hr, hp⟩ := hx
  obtain ⟨k, hk, rfl⟩ := List.mem_iff_getElem.1 hr
  have hki : ¬ k < i := fun h => by have := h2 k hk h; omega
  have hil : i < l.length := by omega
  have h4 := h3 i hil (Nat.le_refl _)
  have h5 := hs.le i k hil hk (by omega)
  have e1 : l[i].1 = p := by omega
  exact ⟨i, hil, e1, hb, by rw [decide_eq_true (show ∃ h : i < l.length, l[i].1 = p from ⟨hil, e1⟩)]⟩
theorem found_no {l : List Row} {p : Int} {w w' : World} {e : Ending} (h : FoundR l p w e w') (hx : ¬ ∃ r ∈ l, r.1 = p) :
    ∃ i : Nat, Below w.heap.size w w' ∧ e = .returned (.tuple #[.int .i64 (i : Nat), .bool false]) := by
  obtain ⟨i, _, hb, rfl⟩ := h
  exact ⟨i, hb, by rw [decide_eq_false (fun ⟨h, e⟩ => hx ⟨l[i], List.getElem_mem h, e⟩)]⟩

theorem store_tab (w : World) : (storeCells ⟨w.heap.size, 0, none⟩ cellsT.toList 0).run Try.prog (w.alloc (.cells Try.zeroCells126 126)) = .ok () (w.alloc (.cells cellsT 126)) :=
  run_storeCells_new w 126 _ cellsT (by rw [sizeT, cellsT_size]) (by rw [cellsT_size]; kernel_rfl) cellsT_one

section
variable {W : World} {b : Nat} {t : TypeId} {v0 v1 v2 v3 v4 v5 : Value}
theorem ObjAt.s0 (h : ObjAt W b #[v0, v1, v2, v3, v4, v5] t) : W.cell? ⟨b, 0, none⟩ = some v0 := h.get rfl
theorem ObjAt.s1 (h : ObjAt W b #[v0, v1, v2, v3, v4, v5] t) : W.cell? ⟨b, 1, none⟩ = some v1 := h.get rfl
theorem ObjAt.s2 (h : ObjAt W b #[v0, v1, v2, v3, v4, v5] t) : W.cell? ⟨b, 2, none⟩ = some v2 := h.get rfl
theorem ObjAt.s3 (h : ObjAt W b #[v0, v1, v2, v3, v4, v5] t) : W.cell? ⟨b, 3, none⟩ = some v3 := h.get rfl
theorem ObjAt.s4 (h : ObjAt W b #[v0, v1, v2, v3, v4, v5] t) : W.cell? ⟨b, 4, none⟩ = some v4 := h.get rfl
theorem ObjAt.s5 (h : ObjAt W b #[v0, v1, v2, v3, v4, v5] t) : W.cell? ⟨b, 5, none⟩ = some v5 := h.get rfl
end
theorem ObjAt.set' {W : World} {b : Nat} {c : Array Value} {t : TypeId} (h : ObjAt W b c t) (k : Nat) (v : Value) : ObjAt (W.setCell ⟨b, k, none⟩ v) b (c.modify k (fun _ => v)) t := by
  obtain ⟨hlt, hk⟩ := Array.getElem?_eq_some_iff.1 h
  show (W.heap.modify b _)[b]? = _
  rw [Array.getElem?_eq_getElem (by rw [Array.size_modify]; exact hlt), Array.getElem_modify_self, hk]
  rfl
theorem set6 {W : World} {b : Nat} {t : TypeId} {u0 u1 u2 u3 u4 u5 : Value} (h : ObjAt W b #[u0, u1, u2, u3, u4, u5] t) (v0 v1 v2 v3 v4 v5 : Value) :
    ObjAt ((((((W.setCell ⟨b, 0, none⟩ v0).setCell ⟨b, 1, none⟩ v1).setCell ⟨b, 2, none⟩ v2).setCell ⟨b, 3, none⟩ v3).setCell ⟨b, 4, none⟩ v4).setCell ⟨b, 5, none⟩ v5) b #[v0, v1, v2, v3, v4, v5] t :=
  (((((h.set' 0 v0).set' 1 v1).set' 2 v2).set' 3 v3).set' 4 v4).set' 5 v5
theorem set6_below {n : Nat} {w0 W : World} (h : Below n w0 W) {b : Nat} (hb : n ≤ b) (v0 v1 v2 v3 v4 v5 : Value) :
    Below n w0 ((((((W.setCell ⟨b, 0, none⟩ v0).setCell ⟨b, 1, none⟩ v1).setCell ⟨b, 2, none⟩ v2).setCell ⟨b, 3, none⟩ v3).setCell ⟨b, 4, none⟩ v4).setCell ⟨b, 5, none⟩ v5) :=
  (((((h.setCell (p := ⟨b, 0, none⟩) hb _).setCell (p := ⟨b, 1, none⟩) hb _).setCell (p := ⟨b, 2, none⟩) hb _).setCell (p := ⟨b, 3, none⟩) hb _).setCell (p := ⟨b, 4, none⟩) hb _).setCell (p := ⟨b, 5, none⟩) hb _

set_option maxRecDepth 100000 in
set_option maxHeartbeats 4000000 in
theorem find_no (p : Int) (hx : ¬ ∃ r ∈ tabP, r.1 = p) (w : World) :
    Calls Try.prog 88 #[.int .i64 p] w fun e w' => e = .returned (.tuple #[.agg #[.int .i64 0, .string ⟨#[]⟩, .int .i64 0, .int .i64 0, .int .i64 0, .int .i64 0], .int .i64 4]) ∧ Below w.heap.size w w' := by
  have cT := fun w' => table_any w'
  have cS : ∀ g w', RowAt w' g tabP → Calls Try.prog 96 #[.slice (some ⟨g, 0, none⟩) 45 45, .int .i64 p, .func (.func 97) #[] #[]] w' fun e w'' => ∃ i : Nat, Below w'.heap.size w' w'' ∧ e = .returned (.tuple #[.int .i64 (i : Nat), .bool false]) :=
    fun g w' hR => (rsearch_any tabP tab_sort g p w' (by decide) hR).mono fun e w'' h => found_no h hx
  have hst := fun w' => store_tab w'
  have hsz := cellsT_size
  have o2 := ObjAt.new w #[.int .i64 0, .string ⟨#[]⟩, .int .i64 0, .int .i64 0, .int .i64 0, .int .i64 0] 118
  have B0 : Below w.heap.size w (w.alloc (.cells #[.int .i64 0, .string ⟨#[]⟩, .int .i64 0, .int .i64 0, .int .i64 0, .int .i64 0] 118)) := (Below.refl _ w).alloc (Nat.le_refl _) _
  clear hx
  go_enter Try.func88, Try.ntmps88
  go_wp2_with (first
    | (go_at_call 95; (with_reducible refine (cT _).mono ?_); rintro e w1 ⟨rfl, hb1⟩)
    | (go_at_call 96; (with_reducible refine (cS _ _ (tab_rows (heap_alloc_last w1 (.cells cellsT 126)))).mono ?_); rintro e w2 ⟨i, hb2, rfl⟩; have o3 := ((o2.below hb1).alloc (.cells cellsT 126)).below hb2; have s0 := o3.s0; have s1 := o3.s1; have s2 := o3.s2; have s3 := o3.s3; have s4 := o3.s4; have s5 := o3.s5; have f0 := o3.frozen 0; have f1 := o3.frozen 1; have f2 := o3.frozen 2; have f3 := o3.frozen 3; have f4 := o3.frozen 4; have f5 := o3.frozen 5; have bb := (B0.trans (hb1.mono (by simp))).alloc (by have := hb1.size; simp at this; omega) (.cells cellsT 126); have bb2 := bb.trans (hb2.mono (by have := hb1.size; simp at this; simp; omega))))
  have q := set6 o3 (.int .i64 0) (.string ⟨#[]⟩) (.int .i64 0) (.int .i64 0) (.int .i64 0) (.int .i64 0)
  have q0 := q.s0
  have q1 := q.s1
  have q2 := q.s2
  have q3 := q.s3
  have q4 := q.s4
  have q5 := q.s5
  exact bodyPost_ret (v := .tuple #[.agg #[.int .i64 0, .string ⟨#[]⟩, .int .i64 0, .int .i64 0, .int .i64 0, .int .i64 0], .int .i64 4]) (by simp [results, Try.results88, go_sem, q0, q1, q2, q3, q4, q5]) rfl ⟨rfl, set6_below bb2 (Nat.le_refl _) _ _ _ _ _ _⟩

end Go.Proofs.Ytbkpokipibgdfaa
