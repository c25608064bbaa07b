/- Layer 7: find, of a key. -/
import Derived.Test.YtbkpokipibgdfaaH7
namespace Go.Proofs.Ytbkpokipibgdfaa
open Go.RowKit Go.Lib

set_option maxRecDepth 100000 in
set_option maxHeartbeats 4000000 in
theorem find_yes (p : Int) (hx : ∃ r ∈ tabP, r.1 = p) (w : World) :
    Calls Try.prog 88 #[.int .i64 p] w fun e w' => (∃ r ∈ tabP, r.1 = p ∧ e = .returned (.tuple #[.agg #[.int .i64 r.1, .string r.2.1, .int .i64 r.2.2.1, .int .i64 r.2.2.2.1, .int .i64 r.2.2.2.2.1, .int .i64 r.2.2.2.2.2], .int .i64 0])) ∧ Below w.heap.size w w' := by
  have cT := fun w' => table_any w'
  have cS : ∀ g w', RowAt w' g tabP → Calls Try.prog 96 #[.slice (some ⟨g, 0, none⟩) 45 45, .int .i64 p, .func (.func 97) #[] #[]] w' fun e w'' => ∃ i, ∃ h : i < tabP.length, tabP[i].1 = p ∧ Below w'.heap.size w' w'' ∧ e = .returned (.tuple #[.int .i64 (i : Nat), .bool true]) :=
    fun g w' hR => (rsearch_any tabP tab_sort g p w' (by decide) hR).mono fun e w'' h => found_yes tab_sort h hx
  have hst := fun w' => store_tab w'
  have hsz := cellsT_size
  have o2 := ObjAt.new w #[.int .i64 0, .string ⟨#[]⟩, .int .i64 0, .int .i64 0, .int .i64 0, .int .i64 0] 118
  have B0 : Below w.heap.size w (w.alloc (.cells #[.int .i64 0, .string ⟨#[]⟩, .int .i64 0, .int .i64 0, .int .i64 0, .int .i64 0] 118)) := (Below.refl _ w).alloc (Nat.le_refl _) _
  clear hx
  go_enter Try.func88, Try.ntmps88
  go_wp2_with (first
    | (go_at_call 95; (with_reducible refine (cT _).mono ?_); rintro e w1 ⟨rfl, hb1⟩)
    | (go_at_call 96; (with_reducible refine (cS _ _ (tab_rows (heap_alloc_last w1 (.cells cellsT 126)))).mono ?_); rintro e w2 ⟨i, hi, hk, hb2, rfl⟩; have o3 := ((o2.below hb1).alloc (.cells cellsT 126)).below hb2; have s0 := o3.s0; have s1 := o3.s1; have s2 := o3.s2; have s3 := o3.s3; have s4 := o3.s4; have s5 := o3.s5; have f0 := o3.frozen 0; have f1 := o3.frozen 1; have f2 := o3.frozen 2; have f3 := o3.frozen 3; have f4 := o3.frozen 4; have f5 := o3.frozen 5; have bb := (B0.trans (hb1.mono (by simp))).alloc (by have := hb1.size; simp at this; omega) (.cells cellsT 126); have bb2 := bb.trans (hb2.mono (by have := hb1.size; simp at this; simp; omega)); have RW := (tab_rows (heap_alloc_last w1 (.cells cellsT 126))); obtain ⟨c0, c1, c2, c3, c4, c5⟩ := RW.2 i hi; have d0 := (hb2.cell (p := ⟨w1.heap.size, i * 6, none⟩) RW.1).trans c0; have d1 := (hb2.cell (p := ⟨w1.heap.size, i * 6 + 1, none⟩) RW.1).trans c1; have d2 := (hb2.cell (p := ⟨w1.heap.size, i * 6 + 2, none⟩) RW.1).trans c2; have d3 := (hb2.cell (p := ⟨w1.heap.size, i * 6 + 3, none⟩) RW.1).trans c3; have d4 := (hb2.cell (p := ⟨w1.heap.size, i * 6 + 4, none⟩) RW.1).trans c4; have d5 := (hb2.cell (p := ⟨w1.heap.size, i * 6 + 5, none⟩) RW.1).trans c5; have hmem : tabP[i] ∈ tabP := List.getElem_mem hi; have MEM := Go.Lib.hid hmem; have hi45 : i < 45 := hi; have hne : ¬ w1.heap.size = w.heap.size := (by have := hb1.size; simp at this; omega); have hne2 : ¬ w.heap.size = w1.heap.size := (fun h => hne h.symm); clear c0 c1 c2 c3 c4 c5 RW hmem; generalize hr : tabP[i] = r at d0 d1 d2 d3 d4 d5 hk MEM; clear hr; obtain ⟨ra, rb, rc, rd, re, rf⟩ := r; dsimp only at d0 d1 d2 d3 d4 d5 hk; have HK := Go.Lib.hid hk; clear hk))
  have q := set6 o3 (.int .i64 ra) (.string rb) (.int .i64 rc) (.int .i64 rd) (.int .i64 re) (.int .i64 rf)
  have q0 := q.s0
  have q1 := q.s1
  have q2 := q.s2
  have q3 := q.s3
  have q4 := q.s4
  have q5 := q.s5
  exact bodyPost_ret (v := .tuple #[.agg #[.int .i64 ra, .string rb, .int .i64 rc, .int .i64 rd, .int .i64 re, .int .i64 rf], .int .i64 0]) (by simp [results, Try.results88, go_sem, q0, q1, q2, q3, q4, q5]) rfl ⟨⟨_, MEM.out, HK.out, rfl⟩, set6_below bb2 (Nat.le_refl _) _ _ _ _ _ _⟩

end Go.Proofs.Ytbkpokipibgdfaa
