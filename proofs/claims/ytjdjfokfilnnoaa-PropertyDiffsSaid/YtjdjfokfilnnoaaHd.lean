/- Layer 7: known. -/
import Derived.Test.YtjdjfokfilnnoaaHc
namespace Go.Proofs.Ytjdjfokfilnnoaa
open Go.RowKit Go.Lib

/-- A row of one's own is never nil when it has elements; its cells. -/
theorem own_cells {w : World} {b : Nat} {e : TypeId} {s n : Nat} {v : Value} {xs : List Value} (h : w.ownsRow b e s v n xs) (hn : 0 < n) : ∃ g cap, v = .slice (some ⟨g, 0, none⟩) n cap ∧ g < w.heap.size ∧ ∀ j, j < n * s → w.cell? ⟨g, j, none⟩ = xs[j]? := by
  have h2 := h
  rcases h.2 with ⟨_, h0⟩ | ⟨g, cap, cur, hv, hb, hg, _⟩
  · omega
  · subst hv
    exact ⟨g, cap, rfl, (Array.getElem?_eq_some_iff.1 hg).1, fun j hj => h2.cellAt j hj⟩
theorem two_new (w : World) (o1 o2 : Obj) : ((w.alloc o1).alloc o2).heap[w.heap.size]? = some o1 ∧ ((w.alloc o1).alloc o2).heap[w.heap.size + 1]? = some o2 := by
  refine ⟨(Below.heap_alloc _ _ _ (by simp)).trans (World.alloc_heap_new w _), ?_⟩
  have := World.alloc_heap_new (w.alloc o1) o2
  rw [World.size_alloc] at this
  exact this

set_option maxRecDepth 100000 in
set_option maxHeartbeats 8000000 in
theorem known_any (w : World) : Calls Try.prog 19 #[] w fun e w' => e = .returned (.bool true) ∧ Below w.heap.size w w' := by
  have cM := fun A B w' hA hB => merge_ex A B w' hA hB
  have cD := fun A B w' hA hB => diff_ex A B w' hA hB
  have cC := fun g c w' h0 h1 => check_ex g c w' h0 h1
  have B0 : Below w.heap.size w ((w.alloc (.cells #[.int .i64 2, .int .i64 1, .int .i64 5, .int .i64 24] 57)).alloc (.cells #[.int .i64 5, .int .i64 20, .int .i64 21, .int .i64 3] 57)) := ((Below.refl _ w).alloc (Nat.le_refl _) _).alloc (by simp) _
  go_enter Try.func19, Try.ntmps19
  go_wp2_with fail
  refine (cM _ _ _ (prat2 (two_new w _ _).1) (prat2 (two_new w _ _).2)).mono ?_
  rintro e w1 ⟨⟨v1, rfl, ho1⟩, hb1⟩
  obtain ⟨g1, p1, rfl, hg1, hc1⟩ := own_cells ho1 (by omega)
  have B1 := B0.trans (hb1.mono (by simp; omega))
  have m0 := (hc1 0 (by omega)).trans rfl
  have m1 := (hc1 1 (by omega)).trans rfl
  have m2 := (hc1 2 (by omega)).trans rfl
  have m3 := (hc1 3 (by omega)).trans rfl
  have m4 := (hc1 4 (by omega)).trans rfl
  have m5 := (hc1 5 (by omega)).trans rfl
  clear ho1 hc1
  go_wp2_with fail
  refine (cD _ _ _ (prat1 (two_new w1 _ _).1) (prat1 (two_new w1 _ _).2)).mono ?_
  rintro e w2 ⟨⟨v2, rfl, ho2⟩, hb2⟩
  obtain ⟨g2, p2, rfl, hg2, hc2⟩ := own_cells ho2 (by omega)
  have hbx : Below w1.heap.size w1 w2 := (((Below.refl _ w1).alloc (Nat.le_refl _) _).alloc (by simp) _).trans (hb2.mono (by simp; omega))
  have B2 := B1.trans (hbx.mono B1.size)
  have n0 := (hbx.cell (p := ⟨g1, 0, none⟩) hg1).trans m0
  have n1 := (hbx.cell (p := ⟨g1, 1, none⟩) hg1).trans m1
  have n2 := (hbx.cell (p := ⟨g1, 2, none⟩) hg1).trans m2
  have n3 := (hbx.cell (p := ⟨g1, 3, none⟩) hg1).trans m3
  have n4 := (hbx.cell (p := ⟨g1, 4, none⟩) hg1).trans m4
  have n5 := (hbx.cell (p := ⟨g1, 5, none⟩) hg1).trans m5
  have d0 := (hc2 0 (by omega)).trans rfl
  have d1 := (hc2 1 (by omega)).trans rfl
  have d2 := (hc2 2 (by omega)).trans rfl
  have d3 := (hc2 3 (by omega)).trans rfl
  have d4 := (hc2 4 (by omega)).trans rfl
  have d5 := (hc2 5 (by omega)).trans rfl
  have d6 := (hc2 6 (by omega)).trans rfl
  have d7 := (hc2 7 (by omega)).trans rfl
  have d8 := (hc2 8 (by omega)).trans rfl
  have d9 := (hc2 9 (by omega)).trans rfl
  clear ho2 hc2 m0 m1 m2 m3 m4 m5 hb2 hb1
  go_wp2_with (go_at_call 27; refine (cC _ _ _ (by simp) (by simp)).mono ?_; rintro e w3 ⟨rfl, hb3⟩)
  go_ret
  exact ⟨ret_bool' (by simp), (B2.alloc B2.size _).trans (hb3.mono (by have := B2.size; simp; omega))⟩
end Go.Proofs.Ytjdjfokfilnnoaa
