/- Layer 4: rotateRight (66), rotateLeft (67). -/
import Derived.Test.YtonplacldckbgaaM1
namespace Go.Proofs.Ytonplacldckbgaa
open Go.RowKit Go.Lib Pt

@[go_sem] theorem run_dep (a b c d : Value) (w : World) : (Instr.field 75 (.agg #[a, b, c, d]) 3).run Try.prog w = .ok d w := by
  simp [Instr.field, asAgg, go_sem]
@[go_sem] theorem run_byt (a b c d : Value) (w : World) : (Instr.field 75 (.agg #[a, b, c, d]) 0).run Try.prog w = .ok a w := by
  simp [Instr.field, asAgg, go_sem]
theorem NAt.drew {w : World} {t : Tr} {A : Option Addr} (h : NAt w t A) : NAt w.drew t A := NAt.below ((Below.refl _ w).drew) h
set_option maxRecDepth 100000 in
set_option maxHeartbeats 8000000 in
theorem rotR_any {ll lr r : Tr} {lp p : List UInt8} {L R : Option Addr} (w : World) (hf : Fine (.node (.node ll lp lr) p r)) (hl : NAt w (.node ll lp lr) L) (hr : NAt w r R) (hd : r.dep + 1 < (Tr.node ll lp lr).dep) :
    Calls Try.prog 66 #[.pointer L, pcV p, .pointer R] w (RetN (balT (.node ll lp lr) p r) w) := by
  obtain ⟨b, A, B, rfl, hb, ⟨c0, c1, c2, c3, _⟩, hA, hB⟩ := hl
  have hB0 : Below w.heap.size w (w.alloc (.cells #[.string (bs p), .int .i64 (lf p : Nat)] 92)) := (Below.refl _ w).alloc (Nat.le_refl _) _
  have z0 : (w.alloc (.cells #[.string (bs p), .int .i64 (lf p : Nat)] 92)).cell? ⟨w.heap.size, 0, none⟩ = some (.string (bs p)) := by rw [World.cell?_alloc_new]; rfl
  have z1 : (w.alloc (.cells #[.string (bs p), .int .i64 (lf p : Nat)] 92)).cell? ⟨w.heap.size, 1, none⟩ = some (.int .i64 (lf p : Nat)) := by rw [World.cell?_alloc_new]; rfl
  have hz : (w.alloc (.cells #[.string (bs p), .int .i64 (lf p : Nat)] 92)).heap.size = w.heap.size + 1 := World.size_alloc _ _
  have C0 := (hB0.cell (p := ⟨b, 0, none⟩) hb).trans c0
  have C1 := (hB0.cell (p := ⟨b, 1, none⟩) hb).trans c1
  have C2 := (hB0.cell (p := ⟨b, 2, none⟩) hb).trans c2
  have C3 := (hB0.cell (p := ⟨b, 3, none⟩) hb).trans c3
  have hA := NAt.below hB0 hA
  have hB := NAt.below hB0 hB
  have hr := NAt.below hB0 hr
  clear c0 c1 c2 c3
  unfold pcV
  go_enter Try.func66, Try.ntmps66
  go_wp2_with fail
  generalize w.alloc (.cells #[.string (bs p), .int .i64 (lf p : Nat)] 92) = W at *
  have hbW : b < W.heap.size := by omega
  have hwW : w.heap.size < W.heap.size := by omega
  go_region_held3 (fun w' => w'.cell? ⟨b, 0, none⟩ = some (.pointer A))
    (first
      | go_keep
      | exact (k2.cell (p := ⟨b, 0, none⟩) (Nat.lt_of_lt_of_le hbW k1.size)).trans ((k1.cell (p := ⟨b, 0, none⟩) hbW).trans C0)
      | exact (k1.cell (p := ⟨b, 0, none⟩) hbW).trans C0)
    (first
      | (go_at_call 50; with_reducible refine (total_any (t := lr) (A := B) _ (NAt.below k1 hB.drew)).mono ?_; rintro e w2 ⟨rfl, k2⟩; unfold smV)
      | (go_at_call 50; with_reducible refine (total_any (t := ll) (A := A) _ (NAt.below k1 hA.drew)).mono ?_; rintro e w2 ⟨rfl, k2⟩; unfold smV)
      | (go_at_call 50; with_reducible refine (total_any (t := lr) (A := B) _ hB.drew).mono ?_; rintro e w1 ⟨rfl, k1⟩; unfold smV)
      | (go_at_call 50; with_reducible refine (total_any (t := ll) (A := A) _ hA.drew).mono ?_; rintro e w1 ⟨rfl, k1⟩; unfold smV))
  all_goals
    have hB2 : Below W.heap.size W w2 := ((Below.refl W.heap.size W).drew.trans k1).trans (k2.mono k1.size)
    have hA := NAt.below hB2 hA
    have hB := NAt.below hB2 hB
    have hr := NAt.below hB2 hr
    have Y0 := (hB2.cell (p := ⟨w.heap.size, 0, none⟩) hwW).trans z0
    have Y1 := (hB2.cell (p := ⟨w.heap.size, 1, none⟩) hwW).trans z1
    have D0 := (hB2.cell (p := ⟨b, 0, none⟩) hbW).trans C0
    have D1 := (hB2.cell (p := ⟨b, 1, none⟩) hbW).trans C1
    have D2 := (hB2.cell (p := ⟨b, 2, none⟩) hbW).trans C2
    have D3 := (hB2.cell (p := ⟨b, 3, none⟩) hbW).trans C3
    have hB3 : Below w.heap.size w w2 := hB0.trans (hB2.mono (by omega))
    have hb2 : b < w2.heap.size := Nat.lt_of_lt_of_le hbW hB2.size
    have hw2 : w.heap.size < w2.heap.size := Nat.lt_of_lt_of_le hwW hB2.size
    clear z0 z1 C0 C1 C2 C3 k1 k2 hB0 hB2
    by_cases hc : lr.dep ≤ ll.dep
    · have HB := Lib.hid (show balT (.node ll lp lr) p r = .node ll lp (.node lr p r) by simp only [balT]; rw [if_pos hd, if_pos hc])
      have f1 : Fine (.node lr p r) := hf.of (by simp only [Tr.bytes, List.length_append]; omega) (by simp only [Tr.pcs]; omega)
      go_wp2_with fail
      go_region_held3 (fun w' => w'.cell? ⟨b, 0, none⟩ = some (.pointer A) ∧ w'.cell? ⟨b, 2, none⟩ = some (.string (bs lp)) ∧ w'.cell? ⟨b, 3, none⟩ = some (.int .i64 (lf lp : Nat)) ∧ w'.cell? ⟨w.heap.size, 0, none⟩ = some (.string (bs p)) ∧ w'.cell? ⟨w.heap.size, 1, none⟩ = some (.int .i64 (lf p : Nat)))
        (first
          | go_keep
          | exact ⟨(q2.cell hb3).trans ((q1.cell hb2).trans D0), (q2.cell hb3).trans ((q1.cell hb2).trans D2), (q2.cell hb3).trans ((q1.cell hb2).trans D3), (q2.cell hw3).trans ((q1.cell hw2).trans Y0), (q2.cell hw3).trans ((q1.cell hw2).trans Y1)⟩
          | exact ⟨(q1.cell hb2).trans D0, (q1.cell hb2).trans D2, (q1.cell hb2).trans D3, (q1.cell hw2).trans Y0, (q1.cell hw2).trans Y1⟩)
        (first
          | (go_at_call 60; with_reducible refine (newNode_any (l := ll) (p := lp) (r := .node lr p r) _ hf.left.left f1 hf.left.piece (NAt.below q1 hA.drew) n1).mono ?_; intro e v2 h2; unfold RetN at h2; obtain ⟨A2, rfl, n2, q2⟩ := h2)
          | (go_at_call 60; with_reducible refine (newNode_any (l := lr) (p := p) (r := r) _ hf.left.right hf.right hf.piece hB.drew hr.drew).mono ?_; intro e v1 h1; unfold RetN at h1; obtain ⟨A1, rfl, n1, q1⟩ := h1; have hb3 := Nat.lt_of_lt_of_le hb2 q1.size; have hw3 := Nat.lt_of_lt_of_le hw2 q1.size))
      go_wp2
      go_ret
      exact ⟨A2, rfl, by rw [HB.out]; exact n2, (hB3.drew.trans (q1.mono (Nat.le_of_lt hw2))).trans (q2.mono (Nat.le_of_lt hw3))⟩
    · cases lr with
      | nil => exact absurd (Nat.zero_le _) hc
      | node x q y =>
        obtain ⟨g, X, Y, rfl, hg2, ⟨E0, E1, E2, E3, _⟩, hX, hY⟩ := hB
        have HB := Lib.hid (show balT (.node ll lp (.node x q y)) p r = .node (.node ll lp x) q (.node y p r) by simp only [balT]; rw [if_pos hd, if_neg hc])
        have f1 : Fine (.node ll lp x) := hf.of (by simp only [Tr.bytes, List.length_append]; omega) (by simp only [Tr.pcs]; omega)
        have f2 : Fine (.node y p r) := hf.of (by simp only [Tr.bytes, List.length_append]; omega) (by simp only [Tr.pcs]; omega)
        have f3 : q.length ≤ 200000 := hf.left.right.piece
        go_wp2_with fail
        go_region_held3 (fun w' => w'.cell? ⟨b, 0, none⟩ = some (.pointer A) ∧ w'.cell? ⟨b, 2, none⟩ = some (.string (bs lp)) ∧ w'.cell? ⟨b, 3, none⟩ = some (.int .i64 (lf lp : Nat)) ∧ w'.cell? ⟨w.heap.size, 0, none⟩ = some (.string (bs p)) ∧ w'.cell? ⟨w.heap.size, 1, none⟩ = some (.int .i64 (lf p : Nat)) ∧ w'.cell? ⟨g, 0, none⟩ = some (.pointer X) ∧ w'.cell? ⟨g, 1, none⟩ = some (.pointer Y) ∧ w'.cell? ⟨g, 2, none⟩ = some (.string (bs q)) ∧ w'.cell? ⟨g, 3, none⟩ = some (.int .i64 (lf q : Nat)))
          (first
            | go_keep
            | exact ⟨(q3.cell hb4).trans ((q2.cell hb3).trans ((q1.cell hb2).trans D0)), (q3.cell hb4).trans ((q2.cell hb3).trans ((q1.cell hb2).trans D2)), (q3.cell hb4).trans ((q2.cell hb3).trans ((q1.cell hb2).trans D3)), (q3.cell hw4).trans ((q2.cell hw3).trans ((q1.cell hw2).trans Y0)), (q3.cell hw4).trans ((q2.cell hw3).trans ((q1.cell hw2).trans Y1)), (q3.cell hg4).trans ((q2.cell hg3).trans ((q1.cell hg2).trans E0)), (q3.cell hg4).trans ((q2.cell hg3).trans ((q1.cell hg2).trans E1)), (q3.cell hg4).trans ((q2.cell hg3).trans ((q1.cell hg2).trans E2)), (q3.cell hg4).trans ((q2.cell hg3).trans ((q1.cell hg2).trans E3))⟩
            | exact ⟨(q2.cell hb3).trans ((q1.cell hb2).trans D0), (q2.cell hb3).trans ((q1.cell hb2).trans D2), (q2.cell hb3).trans ((q1.cell hb2).trans D3), (q2.cell hw3).trans ((q1.cell hw2).trans Y0), (q2.cell hw3).trans ((q1.cell hw2).trans Y1), (q2.cell hg3).trans ((q1.cell hg2).trans E0), (q2.cell hg3).trans ((q1.cell hg2).trans E1), (q2.cell hg3).trans ((q1.cell hg2).trans E2), (q2.cell hg3).trans ((q1.cell hg2).trans E3)⟩
            | exact ⟨(q1.cell hb2).trans D0, (q1.cell hb2).trans D2, (q1.cell hb2).trans D3, (q1.cell hw2).trans Y0, (q1.cell hw2).trans Y1, (q1.cell hg2).trans E0, (q1.cell hg2).trans E1, (q1.cell hg2).trans E2, (q1.cell hg2).trans E3⟩)
          (first
            | (go_at_call 60; with_reducible refine (newNode_any (l := (.node ll lp x)) (p := q) (r := (.node y p r)) _ f1 f2 f3 (NAt.below q2 n1) n2).mono ?_; intro e v3 h3; unfold RetN at h3; obtain ⟨A3, rfl, n3, q3⟩ := h3)
            | (go_at_call 60; with_reducible refine (newNode_any (l := (.node ll lp x)) (p := q) (r := (.node y p r)) _ f1 f2 f3 n1 (NAt.below q2 n2)).mono ?_; intro e v3 h3; unfold RetN at h3; obtain ⟨A3, rfl, n3, q3⟩ := h3)
            | (go_at_call 60; with_reducible refine (newNode_any (l := y) (p := p) (r := r) _ hf.left.right.right hf.right hf.piece (NAt.below q1 hY.drew) (NAt.below q1 hr.drew)).mono ?_; intro e v2 h2; unfold RetN at h2; obtain ⟨A2, rfl, n2, q2⟩ := h2; have hb4 := Nat.lt_of_lt_of_le hb3 q2.size; have hw4 := Nat.lt_of_lt_of_le hw3 q2.size; have hg4 := Nat.lt_of_lt_of_le hg3 q2.size)
            | (go_at_call 60; with_reducible refine (newNode_any (l := ll) (p := lp) (r := x) _ hf.left.left hf.left.right.left hf.left.piece (NAt.below q1 hA.drew) (NAt.below q1 hX.drew)).mono ?_; intro e v2 h2; unfold RetN at h2; obtain ⟨A1, rfl, n1, q2⟩ := h2; have hb4 := Nat.lt_of_lt_of_le hb3 q2.size; have hw4 := Nat.lt_of_lt_of_le hw3 q2.size; have hg4 := Nat.lt_of_lt_of_le hg3 q2.size)
            | (go_at_call 60; with_reducible refine (newNode_any (l := y) (p := p) (r := r) _ hf.left.right.right hf.right hf.piece hY.drew hr.drew).mono ?_; intro e v1 h1; unfold RetN at h1; obtain ⟨A2, rfl, n2, q1⟩ := h1; have hb3 := Nat.lt_of_lt_of_le hb2 q1.size; have hw3 := Nat.lt_of_lt_of_le hw2 q1.size; have hg3 := Nat.lt_of_lt_of_le hg2 q1.size)
            | (go_at_call 60; with_reducible refine (newNode_any (l := ll) (p := lp) (r := x) _ hf.left.left hf.left.right.left hf.left.piece hA.drew hX.drew).mono ?_; intro e v1 h1; unfold RetN at h1; obtain ⟨A1, rfl, n1, q1⟩ := h1; have hb3 := Nat.lt_of_lt_of_le hb2 q1.size; have hw3 := Nat.lt_of_lt_of_le hw2 q1.size; have hg3 := Nat.lt_of_lt_of_le hg2 q1.size))
        all_goals
          go_wp2
          go_ret
          exact ⟨A3, rfl, by rw [HB.out]; exact n3, ((hB3.drew.trans (q1.mono (Nat.le_of_lt hw2))).trans (q2.mono (Nat.le_of_lt hw3))).trans (q3.mono (Nat.le_of_lt hw4))⟩
set_option maxRecDepth 100000 in
set_option maxHeartbeats 8000000 in
theorem rotL_any {rl rr l : Tr} {rp p : List UInt8} {L R : Option Addr} (w : World) (hf : Fine (.node l p (.node rl rp rr))) (hl : NAt w (.node rl rp rr) R) (hr : NAt w l L) (hd0 : ¬ (Tr.node rl rp rr).dep + 1 < l.dep) (hd : l.dep + 1 < (Tr.node rl rp rr).dep) :
    Calls Try.prog 67 #[.pointer L, pcV p, .pointer R] w (RetN (balT l p (.node rl rp rr)) w) := by
  obtain ⟨b, B, A, rfl, hb, ⟨c0, c1, c2, c3, _⟩, hB, hA⟩ := hl
  have hB0 : Below w.heap.size w (w.alloc (.cells #[.string (bs p), .int .i64 (lf p : Nat)] 92)) := (Below.refl _ w).alloc (Nat.le_refl _) _
  have z0 : (w.alloc (.cells #[.string (bs p), .int .i64 (lf p : Nat)] 92)).cell? ⟨w.heap.size, 0, none⟩ = some (.string (bs p)) := by rw [World.cell?_alloc_new]; rfl
  have z1 : (w.alloc (.cells #[.string (bs p), .int .i64 (lf p : Nat)] 92)).cell? ⟨w.heap.size, 1, none⟩ = some (.int .i64 (lf p : Nat)) := by rw [World.cell?_alloc_new]; rfl
  have hz : (w.alloc (.cells #[.string (bs p), .int .i64 (lf p : Nat)] 92)).heap.size = w.heap.size + 1 := World.size_alloc _ _
  have C0 := (hB0.cell (p := ⟨b, 0, none⟩) hb).trans c0
  have C1 := (hB0.cell (p := ⟨b, 1, none⟩) hb).trans c1
  have C2 := (hB0.cell (p := ⟨b, 2, none⟩) hb).trans c2
  have C3 := (hB0.cell (p := ⟨b, 3, none⟩) hb).trans c3
  have hA := NAt.below hB0 hA
  have hB := NAt.below hB0 hB
  have hr := NAt.below hB0 hr
  clear c0 c1 c2 c3
  unfold pcV
  go_enter Try.func67, Try.ntmps67
  go_wp2_with fail
  generalize w.alloc (.cells #[.string (bs p), .int .i64 (lf p : Nat)] 92) = W at *
  have hbW : b < W.heap.size := by omega
  have hwW : w.heap.size < W.heap.size := by omega
  go_region_held3 (fun w' => w'.cell? ⟨b, 1, none⟩ = some (.pointer A))
    (first
      | go_keep
      | exact (k2.cell (p := ⟨b, 1, none⟩) (Nat.lt_of_lt_of_le hbW k1.size)).trans ((k1.cell (p := ⟨b, 1, none⟩) hbW).trans C1)
      | exact (k1.cell (p := ⟨b, 1, none⟩) hbW).trans C1)
    (first
      | (go_at_call 50; with_reducible refine (total_any (t := rl) (A := B) _ (NAt.below k1 hB.drew)).mono ?_; rintro e w2 ⟨rfl, k2⟩; unfold smV)
      | (go_at_call 50; with_reducible refine (total_any (t := rr) (A := A) _ (NAt.below k1 hA.drew)).mono ?_; rintro e w2 ⟨rfl, k2⟩; unfold smV)
      | (go_at_call 50; with_reducible refine (total_any (t := rl) (A := B) _ hB.drew).mono ?_; rintro e w1 ⟨rfl, k1⟩; unfold smV)
      | (go_at_call 50; with_reducible refine (total_any (t := rr) (A := A) _ hA.drew).mono ?_; rintro e w1 ⟨rfl, k1⟩; unfold smV))
  all_goals
    have hB2 : Below W.heap.size W w2 := ((Below.refl W.heap.size W).drew.trans k1).trans (k2.mono k1.size)
    have hA := NAt.below hB2 hA
    have hB := NAt.below hB2 hB
    have hr := NAt.below hB2 hr
    have Y0 := (hB2.cell (p := ⟨w.heap.size, 0, none⟩) hwW).trans z0
    have Y1 := (hB2.cell (p := ⟨w.heap.size, 1, none⟩) hwW).trans z1
    have D0 := (hB2.cell (p := ⟨b, 0, none⟩) hbW).trans C0
    have D1 := (hB2.cell (p := ⟨b, 1, none⟩) hbW).trans C1
    have D2 := (hB2.cell (p := ⟨b, 2, none⟩) hbW).trans C2
    have D3 := (hB2.cell (p := ⟨b, 3, none⟩) hbW).trans C3
    have hB3 : Below w.heap.size w w2 := hB0.trans (hB2.mono (by omega))
    have hb2 : b < w2.heap.size := Nat.lt_of_lt_of_le hbW hB2.size
    have hw2 : w.heap.size < w2.heap.size := Nat.lt_of_lt_of_le hwW hB2.size
    clear z0 z1 C0 C1 C2 C3 k1 k2 hB0 hB2
    by_cases hc : rl.dep ≤ rr.dep
    · have HB := Lib.hid (show balT l p (.node rl rp rr) = .node (.node l p rl) rp rr by simp only [balT]; rw [if_neg hd0, if_pos hd, if_pos hc])
      have f1 : Fine (.node l p rl) := hf.of (by simp only [Tr.bytes, List.length_append]; omega) (by simp only [Tr.pcs]; omega)
      go_wp2_with fail
      go_region_held3 (fun w' => w'.cell? ⟨b, 1, none⟩ = some (.pointer A) ∧ w'.cell? ⟨b, 2, none⟩ = some (.string (bs rp)) ∧ w'.cell? ⟨b, 3, none⟩ = some (.int .i64 (lf rp : Nat)) ∧ w'.cell? ⟨w.heap.size, 0, none⟩ = some (.string (bs p)) ∧ w'.cell? ⟨w.heap.size, 1, none⟩ = some (.int .i64 (lf p : Nat)))
        (first
          | go_keep
          | exact ⟨(q2.cell hb3).trans ((q1.cell hb2).trans D1), (q2.cell hb3).trans ((q1.cell hb2).trans D2), (q2.cell hb3).trans ((q1.cell hb2).trans D3), (q2.cell hw3).trans ((q1.cell hw2).trans Y0), (q2.cell hw3).trans ((q1.cell hw2).trans Y1)⟩
          | exact ⟨(q1.cell hb2).trans D1, (q1.cell hb2).trans D2, (q1.cell hb2).trans D3, (q1.cell hw2).trans Y0, (q1.cell hw2).trans Y1⟩)
        (first
          | (go_at_call 60; with_reducible refine (newNode_any (l := .node l p rl) (p := rp) (r := rr) _ f1 hf.right.right hf.right.piece n1 (NAt.below q1 hA.drew)).mono ?_; intro e v2 h2; unfold RetN at h2; obtain ⟨A2, rfl, n2, q2⟩ := h2)
          | (go_at_call 60; with_reducible refine (newNode_any (l := l) (p := p) (r := rl) _ hf.left hf.right.left hf.piece hr.drew hB.drew).mono ?_; intro e v1 h1; unfold RetN at h1; obtain ⟨A1, rfl, n1, q1⟩ := h1; have hb3 := Nat.lt_of_lt_of_le hb2 q1.size; have hw3 := Nat.lt_of_lt_of_le hw2 q1.size))
      go_wp2
      go_ret
      exact ⟨A2, rfl, by rw [HB.out]; exact n2, (hB3.drew.trans (q1.mono (Nat.le_of_lt hw2))).trans (q2.mono (Nat.le_of_lt hw3))⟩
    · cases rl with
      | nil => exact absurd (Nat.zero_le _) hc
      | node x q y =>
        obtain ⟨g, X, Y, rfl, hg2, ⟨E0, E1, E2, E3, _⟩, hX, hY⟩ := hB
        have HB := Lib.hid (show balT l p (.node (.node x q y) rp rr) = .node (.node l p x) q (.node y rp rr) by simp only [balT]; rw [if_neg hd0, if_pos hd, if_neg hc])
        have f1 : Fine (.node l p x) := hf.of (by simp only [Tr.bytes, List.length_append]; omega) (by simp only [Tr.pcs]; omega)
        have f2 : Fine (.node y rp rr) := hf.of (by simp only [Tr.bytes, List.length_append]; omega) (by simp only [Tr.pcs]; omega)
        have f3 : q.length ≤ 200000 := hf.right.left.piece
        go_wp2_with fail
        go_region_held3 (fun w' => w'.cell? ⟨b, 1, none⟩ = some (.pointer A) ∧ w'.cell? ⟨b, 2, none⟩ = some (.string (bs rp)) ∧ w'.cell? ⟨b, 3, none⟩ = some (.int .i64 (lf rp : Nat)) ∧ w'.cell? ⟨w.heap.size, 0, none⟩ = some (.string (bs p)) ∧ w'.cell? ⟨w.heap.size, 1, none⟩ = some (.int .i64 (lf p : Nat)) ∧ w'.cell? ⟨g, 0, none⟩ = some (.pointer X) ∧ w'.cell? ⟨g, 1, none⟩ = some (.pointer Y) ∧ w'.cell? ⟨g, 2, none⟩ = some (.string (bs q)) ∧ w'.cell? ⟨g, 3, none⟩ = some (.int .i64 (lf q : Nat)))
          (first
            | go_keep
            | exact ⟨(q3.cell hb4).trans ((q2.cell hb3).trans ((q1.cell hb2).trans D1)), (q3.cell hb4).trans ((q2.cell hb3).trans ((q1.cell hb2).trans D2)), (q3.cell hb4).trans ((q2.cell hb3).trans ((q1.cell hb2).trans D3)), (q3.cell hw4).trans ((q2.cell hw3).trans ((q1.cell hw2).trans Y0)), (q3.cell hw4).trans ((q2.cell hw3).trans ((q1.cell hw2).trans Y1)), (q3.cell hg4).trans ((q2.cell hg3).trans ((q1.cell hg2).trans E0)), (q3.cell hg4).trans ((q2.cell hg3).trans ((q1.cell hg2).trans E1)), (q3.cell hg4).trans ((q2.cell hg3).trans ((q1.cell hg2).trans E2)), (q3.cell hg4).trans ((q2.cell hg3).trans ((q1.cell hg2).trans E3))⟩
            | exact ⟨(q2.cell hb3).trans ((q1.cell hb2).trans D1), (q2.cell hb3).trans ((q1.cell hb2).trans D2), (q2.cell hb3).trans ((q1.cell hb2).trans D3), (q2.cell hw3).trans ((q1.cell hw2).trans Y0), (q2.cell hw3).trans ((q1.cell hw2).trans Y1), (q2.cell hg3).trans ((q1.cell hg2).trans E0), (q2.cell hg3).trans ((q1.cell hg2).trans E1), (q2.cell hg3).trans ((q1.cell hg2).trans E2), (q2.cell hg3).trans ((q1.cell hg2).trans E3)⟩
            | exact ⟨(q1.cell hb2).trans D1, (q1.cell hb2).trans D2, (q1.cell hb2).trans D3, (q1.cell hw2).trans Y0, (q1.cell hw2).trans Y1, (q1.cell hg2).trans E0, (q1.cell hg2).trans E1, (q1.cell hg2).trans E2, (q1.cell hg2).trans E3⟩)
          (first
            | (go_at_call 60; with_reducible refine (newNode_any (l := (.node l p x)) (p := q) (r := (.node y rp rr)) _ f1 f2 f3 (NAt.below q2 n1) n2).mono ?_; intro e v3 h3; unfold RetN at h3; obtain ⟨A3, rfl, n3, q3⟩ := h3)
            | (go_at_call 60; with_reducible refine (newNode_any (l := (.node l p x)) (p := q) (r := (.node y rp rr)) _ f1 f2 f3 n1 (NAt.below q2 n2)).mono ?_; intro e v3 h3; unfold RetN at h3; obtain ⟨A3, rfl, n3, q3⟩ := h3)
            | (go_at_call 60; with_reducible refine (newNode_any (l := y) (p := rp) (r := rr) _ hf.right.left.right hf.right.right hf.right.piece (NAt.below q1 hY.drew) (NAt.below q1 hA.drew)).mono ?_; intro e v2 h2; unfold RetN at h2; obtain ⟨A2, rfl, n2, q2⟩ := h2; have hb4 := Nat.lt_of_lt_of_le hb3 q2.size; have hw4 := Nat.lt_of_lt_of_le hw3 q2.size; have hg4 := Nat.lt_of_lt_of_le hg3 q2.size)
            | (go_at_call 60; with_reducible refine (newNode_any (l := l) (p := p) (r := x) _ hf.left hf.right.left.left hf.piece (NAt.below q1 hr.drew) (NAt.below q1 hX.drew)).mono ?_; intro e v2 h2; unfold RetN at h2; obtain ⟨A1, rfl, n1, q2⟩ := h2; have hb4 := Nat.lt_of_lt_of_le hb3 q2.size; have hw4 := Nat.lt_of_lt_of_le hw3 q2.size; have hg4 := Nat.lt_of_lt_of_le hg3 q2.size)
            | (go_at_call 60; with_reducible refine (newNode_any (l := y) (p := rp) (r := rr) _ hf.right.left.right hf.right.right hf.right.piece hY.drew hA.drew).mono ?_; intro e v1 h1; unfold RetN at h1; obtain ⟨A2, rfl, n2, q1⟩ := h1; have hb3 := Nat.lt_of_lt_of_le hb2 q1.size; have hw3 := Nat.lt_of_lt_of_le hw2 q1.size; have hg3 := Nat.lt_of_lt_of_le hg2 q1.size)
            | (go_at_call 60; with_reducible refine (newNode_any (l := l) (p := p) (r := x) _ hf.left hf.right.left.left hf.piece hr.drew hX.drew).mono ?_; intro e v1 h1; unfold RetN at h1; obtain ⟨A1, rfl, n1, q1⟩ := h1; have hb3 := Nat.lt_of_lt_of_le hb2 q1.size; have hw3 := Nat.lt_of_lt_of_le hw2 q1.size; have hg3 := Nat.lt_of_lt_of_le hg2 q1.size))
        all_goals
          go_wp2
          go_ret
          exact ⟨A3, rfl, by rw [HB.out]; exact n3, ((hB3.drew.trans (q1.mono (Nat.le_of_lt hw2))).trans (q2.mono (Nat.le_of_lt hw3))).trans (q3.mono (Nat.le_of_lt hw4))⟩
end Go.Proofs.Ytonplacldckbgaa
