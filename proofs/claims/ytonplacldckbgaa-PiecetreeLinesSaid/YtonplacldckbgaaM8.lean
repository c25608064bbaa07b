/- Layer 4: the tree as an object; total (39), Len (33), Pieces (19), Depth (20), check (35), New (22). -/
import Derived.Test.YtonplacldckbgaaM7
namespace Go.Proofs.Ytonplacldckbgaa
open Go.RowKit Go.Lib Pt

@[go_sem] theorem run_pcs (a b c d : Value) (w : World) : (Instr.field 75 (.agg #[a, b, c, d]) 2).run Try.prog w = .ok c w := by
  simp [Instr.field, asAgg, go_sem]
/-- A tree that a caller holds: one cell. -/
def TAt (w : World) (b : Nat) (t : Tr) : Prop := ∃ A, w.cell? ⟨b, 0, none⟩ = some (.pointer A) ∧ w.cell? ⟨b, 1, none⟩ = none ∧ w.frozen? ⟨b, 0, none⟩ = false ∧ b < w.heap.size ∧ NAt w t A
theorem TAt.below {w w' : World} {b : Nat} {t : Tr} (h : TAt w b t) (hb : Below w.heap.size w w') : TAt w' b t := by
  obtain ⟨A, h1, h2, h3, h4, h5⟩ := h
  exact ⟨A, (hb.cell h4).trans h1, (hb.cell h4).trans h2, (hb.frozen h4).trans h3, Nat.lt_of_lt_of_le h4 hb.size, NAt.below hb h5⟩
set_option maxRecDepth 100000 in
set_option maxHeartbeats 4000000 in
theorem sum_nil (w : World) : Calls Try.prog 39 #[.pointer none] w fun e w' => e = .returned (smV .nil) ∧ Below w.heap.size w w' := by
  go_enter Try.func39, Try.ntmps39
  go_wp2
  refine bodyPost_ret (v := smV .nil) ?_ rfl ⟨rfl, (Below.refl _ w).alloc (Nat.le_refl _) _⟩
  simp [results, Try.results39, go_sem, *]
  rfl
set_option maxRecDepth 100000 in
set_option maxHeartbeats 8000000 in
theorem sum_any {b : Nat} {t : Tr} (w : World) (h : TAt w b t) : Calls Try.prog 39 #[.pointer (some ⟨b, 0, none⟩)] w fun e w' => e = .returned (smV t) ∧ Below w.heap.size w w' := by
  obtain ⟨A, c0, _, _, hb, hA⟩ := h
  have hB0 : Below w.heap.size w (w.alloc (.cells #[.int .i64 0, .int .i64 0, .int .i64 0, .int .i64 0] 75)) := (Below.refl _ w).alloc (Nat.le_refl _) _
  have hz : (w.alloc (.cells #[.int .i64 0, .int .i64 0, .int .i64 0, .int .i64 0] 75)).heap.size = w.heap.size + 1 := World.size_alloc _ _
  have z0 : (w.alloc (.cells #[.int .i64 0, .int .i64 0, .int .i64 0, .int .i64 0] 75)).cell? ⟨w.heap.size, 0, none⟩ = some (.int .i64 0) := by simp [go_sem]
  have z1 : (w.alloc (.cells #[.int .i64 0, .int .i64 0, .int .i64 0, .int .i64 0] 75)).cell? ⟨w.heap.size, 1, none⟩ = some (.int .i64 0) := by simp [go_sem]
  have z2 : (w.alloc (.cells #[.int .i64 0, .int .i64 0, .int .i64 0, .int .i64 0] 75)).cell? ⟨w.heap.size, 2, none⟩ = some (.int .i64 0) := by simp [go_sem]
  have z3 : (w.alloc (.cells #[.int .i64 0, .int .i64 0, .int .i64 0, .int .i64 0] 75)).cell? ⟨w.heap.size, 3, none⟩ = some (.int .i64 0) := by simp [go_sem]
  have fz : ∀ i, (w.alloc (.cells #[.int .i64 0, .int .i64 0, .int .i64 0, .int .i64 0] 75)).frozen? ⟨w.heap.size, i, none⟩ = false := fun i => World.frozen?_alloc_new _ _ _ i
  go_enter Try.func39, Try.ntmps39
  go_wp2_with fail
  generalize w.alloc (.cells #[.int .i64 0, .int .i64 0, .int .i64 0, .int .i64 0] 75) = W at *
  have hw : w.heap.size < W.heap.size := by omega
  refine (total_any W (NAt.below hB0 hA)).mono ?_
  rintro e w1 ⟨rfl, k1⟩
  unfold smV
  have y0 := (k1.cell (p := ⟨w.heap.size, 0, none⟩) hw).trans z0
  have y1 := (k1.cell (p := ⟨w.heap.size, 1, none⟩) hw).trans z1
  have y2 := (k1.cell (p := ⟨w.heap.size, 2, none⟩) hw).trans z2
  have y3 := (k1.cell (p := ⟨w.heap.size, 3, none⟩) hw).trans z3
  have g0 := (k1.frozen (p := ⟨w.heap.size, 0, none⟩) hw).trans (fz 0)
  have g1 := (k1.frozen (p := ⟨w.heap.size, 1, none⟩) hw).trans (fz 1)
  have g2 := (k1.frozen (p := ⟨w.heap.size, 2, none⟩) hw).trans (fz 2)
  have g3 := (k1.frozen (p := ⟨w.heap.size, 3, none⟩) hw).trans (fz 3)
  have hB1 : Below w.heap.size w w1 := hB0.trans (k1.mono (by omega))
  clear z0 z1 z2 z3 fz k1
  go_wp2
  refine bodyPost_ret (v := smV t) ?_ rfl ⟨rfl, (((hB1.setCell (Nat.le_refl _) _).setCell (Nat.le_refl _) _).setCell (Nat.le_refl _) _).setCell (Nat.le_refl _) _⟩
  simp [results, Try.results39, go_sem, *]
  try rfl
set_option maxRecDepth 100000 in
set_option maxHeartbeats 4000000 in
theorem len_any {b : Nat} {t : Tr} (w : World) (h : TAt w b t) : Calls Try.prog 33 #[.pointer (some ⟨b, 0, none⟩)] w fun e w' => e = .returned (.int .i64 (t.bytes.length : Nat)) ∧ Below w.heap.size w w' := by
  go_enter Try.func33, Try.ntmps33
  go_wp2_with fail
  refine (sum_any w h).mono ?_
  rintro e w1 ⟨rfl, k1⟩
  unfold smV
  go_wp2
  go_ret
  exact ⟨rfl, k1⟩
set_option maxRecDepth 100000 in
set_option maxHeartbeats 4000000 in
theorem pieces_any {b : Nat} {t : Tr} (w : World) (h : TAt w b t) : Calls Try.prog 19 #[.pointer (some ⟨b, 0, none⟩)] w fun e w' => e = .returned (.int .i64 (t.pcs : Nat)) ∧ Below w.heap.size w w' := by
  go_enter Try.func19, Try.ntmps19
  go_wp2_with fail
  refine (sum_any w h).mono ?_
  rintro e w1 ⟨rfl, k1⟩
  unfold smV
  go_wp2
  go_ret
  exact ⟨rfl, k1⟩
set_option maxRecDepth 100000 in
set_option maxHeartbeats 4000000 in
theorem depth_any {b : Nat} {t : Tr} (w : World) (h : TAt w b t) : Calls Try.prog 20 #[.pointer (some ⟨b, 0, none⟩)] w fun e w' => e = .returned (.int .i64 (t.dep : Nat)) ∧ Below w.heap.size w w' := by
  go_enter Try.func20, Try.ntmps20
  go_wp2_with fail
  refine (sum_any w h).mono ?_
  rintro e w1 ⟨rfl, k1⟩
  unfold smV
  go_wp2
  go_ret
  exact ⟨rfl, k1⟩
end Go.Proofs.Ytonplacldckbgaa
