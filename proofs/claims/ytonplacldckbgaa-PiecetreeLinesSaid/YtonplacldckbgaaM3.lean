/- Layer 4: balance (59), join (51). -/
import Derived.Test.YtonplacldckbgaaM2
namespace Go.Proofs.Ytonplacldckbgaa
open Go.RowKit Go.Lib Pt

theorem joinT_bp (n : Nat) : ∀ (l r : Tr) (p : List UInt8), SizeOf.sizeOf l + SizeOf.sizeOf r ≤ n → (joinT l p r).bytes = l.bytes ++ p ++ r.bytes ∧ (joinT l p r).pcs = l.pcs + 1 + r.pcs := by
  induction n with
  | zero => intro l r p h; cases l <;> simp at h <;> omega
  | succ n ih =>
    intro l r p h
    unfold joinT
    split
    · rename_i hd
      cases l with
      | nil => simp [Tr.dep] at hd
      | node ll lp lr =>
        simp only [Tr.node.sizeOf_spec] at h
        obtain ⟨i1, i2⟩ := ih lr r p (by omega)
        exact ⟨by rw [balT_bytes, i1]; simp [Tr.bytes, List.append_assoc], by rw [balT_pcs, i2]; simp only [Tr.pcs]; omega⟩
    · split
      · rename_i h0 hd
        cases r with
        | nil => simp [Tr.dep] at hd
        | node rl rp rr =>
          simp only [Tr.node.sizeOf_spec] at h
          obtain ⟨i1, i2⟩ := ih l rl p (by omega)
          exact ⟨by rw [balT_bytes, i1]; simp [Tr.bytes, List.append_assoc], by rw [balT_pcs, i2]; simp only [Tr.pcs]; omega⟩
      · exact ⟨rfl, rfl⟩
theorem joinT_bytes (l r : Tr) (p : List UInt8) : (joinT l p r).bytes = l.bytes ++ p ++ r.bytes := (joinT_bp _ l r p (Nat.le_refl _)).1
theorem joinT_pcs (l r : Tr) (p : List UInt8) : (joinT l p r).pcs = l.pcs + 1 + r.pcs := (joinT_bp _ l r p (Nat.le_refl _)).2
theorem dep_node {t : Tr} (h : 0 < t.dep) : ∃ l p r, t = .node l p r := by
  cases t with
  | nil => exact absurd h (Nat.lt_irrefl _)
  | node l p r => exact ⟨l, p, r, rfl⟩
set_option maxRecDepth 100000 in
set_option maxHeartbeats 8000000 in
theorem balanceR {l r : Tr} {p : List UInt8} {L R : Option Addr} (w : World) (hf : Fine (.node l p r)) (hl : NAt w l L) (hr : NAt w r R) (hd : r.dep + 1 < l.dep) : Calls Try.prog 59 #[.pointer L, pcV p, .pointer R] w (RetN (balT l p r) w) := by
  have hB0 : Below w.heap.size w (w.alloc (.cells #[.string (bs p), .int .i64 (lf p : Nat)] 92)) := (Below.refl _ w).alloc (Nat.le_refl _) _
  have z0 : (w.alloc (.cells #[.string (bs p), .int .i64 (lf p : Nat)] 92)).cell? ⟨w.heap.size, 0, none⟩ = some (.string (bs p)) := by rw [World.cell?_alloc_new]; rfl
  have z1 : (w.alloc (.cells #[.string (bs p), .int .i64 (lf p : Nat)] 92)).cell? ⟨w.heap.size, 1, none⟩ = some (.int .i64 (lf p : Nat)) := by rw [World.cell?_alloc_new]; rfl
  have hz : (w.alloc (.cells #[.string (bs p), .int .i64 (lf p : Nat)] 92)).heap.size = w.heap.size + 1 := World.size_alloc _ _
  have b1 := hf.left.dep
  have b2 := hf.right.dep
  have g1 : (1 : Int) < (l.dep : Nat) - (r.dep : Nat) := by omega
  unfold pcV
  go_enter Try.func59, Try.ntmps59
  go_wp2_with fail
  generalize w.alloc (.cells #[.string (bs p), .int .i64 (lf p : Nat)] 92) = W at *
  have hl1 := NAt.below hB0 hl
  have hr1 := NAt.below hB0 hr
  refine (total_any _ hl1).mono ?_
  rintro e w1 ⟨rfl, k1⟩
  unfold smV
  have hr2 := NAt.below k1 hr1
  go_wp2_with fail
  refine (total_any _ hr2).mono ?_
  rintro e w2 ⟨rfl, k2⟩
  unfold smV
  have hwW : w.heap.size < W.heap.size := by omega
  have hB2 : Below W.heap.size W w2 := k1.trans (k2.mono k1.size)
  have Y0 := (hB2.cell (p := ⟨w.heap.size, 0, none⟩) hwW).trans z0
  have Y1 := (hB2.cell (p := ⟨w.heap.size, 1, none⟩) hwW).trans z1
  have hl3 := NAt.below hB2 hl1
  have hr3 := NAt.below hB2 hr1
  have hB3 : Below w.heap.size w w2 := hB0.trans (hB2.mono (by omega))
  have hw2 : w.heap.size < w2.heap.size := Nat.lt_of_lt_of_le hwW hB2.size
  clear z0 z1 k1 k2 hB0 hB2 hl1 hr1 hr2
  go_wp2_with fail
  obtain ⟨ll, lp, lr, rfl⟩ := dep_node (t := l) (by omega)
  refine (rotR_any w2 hf hl3 hr3 hd).mono ?_
  intro e v h
  unfold RetN at h
  obtain ⟨A1, rfl, n1, q1⟩ := h
  go_wp2
  go_ret
  exact ⟨A1, rfl, n1, hB3.trans (q1.mono (Nat.le_of_lt hw2))⟩
set_option maxRecDepth 100000 in
set_option maxHeartbeats 8000000 in
theorem balanceL {l r : Tr} {p : List UInt8} {L R : Option Addr} (w : World) (hf : Fine (.node l p r)) (hl : NAt w l L) (hr : NAt w r R) (hd0 : ¬ r.dep + 1 < l.dep) (hd : l.dep + 1 < r.dep) : Calls Try.prog 59 #[.pointer L, pcV p, .pointer R] w (RetN (balT l p r) w) := by
  have hB0 : Below w.heap.size w (w.alloc (.cells #[.string (bs p), .int .i64 (lf p : Nat)] 92)) := (Below.refl _ w).alloc (Nat.le_refl _) _
  have z0 : (w.alloc (.cells #[.string (bs p), .int .i64 (lf p : Nat)] 92)).cell? ⟨w.heap.size, 0, none⟩ = some (.string (bs p)) := by rw [World.cell?_alloc_new]; rfl
  have z1 : (w.alloc (.cells #[.string (bs p), .int .i64 (lf p : Nat)] 92)).cell? ⟨w.heap.size, 1, none⟩ = some (.int .i64 (lf p : Nat)) := by rw [World.cell?_alloc_new]; rfl
  have hz : (w.alloc (.cells #[.string (bs p), .int .i64 (lf p : Nat)] 92)).heap.size = w.heap.size + 1 := World.size_alloc _ _
  have b1 := hf.left.dep
  have b2 := hf.right.dep
  have g1 : ¬ (1 : Int) < (l.dep : Nat) - (r.dep : Nat) := by omega
  have g2 : ((l.dep : Nat) : Int) - (r.dep : Nat) < -1 := by omega
  unfold pcV
  go_enter Try.func59, Try.ntmps59
  go_wp2_with fail
  generalize w.alloc (.cells #[.string (bs p), .int .i64 (lf p : Nat)] 92) = W at *
  have hl1 := NAt.below hB0 hl
  have hr1 := NAt.below hB0 hr
  refine (total_any _ hl1).mono ?_
  rintro e w1 ⟨rfl, k1⟩
  unfold smV
  have hr2 := NAt.below k1 hr1
  go_wp2_with fail
  refine (total_any _ hr2).mono ?_
  rintro e w2 ⟨rfl, k2⟩
  unfold smV
  have hwW : w.heap.size < W.heap.size := by omega
  have hB2 : Below W.heap.size W w2 := k1.trans (k2.mono k1.size)
  have Y0 := (hB2.cell (p := ⟨w.heap.size, 0, none⟩) hwW).trans z0
  have Y1 := (hB2.cell (p := ⟨w.heap.size, 1, none⟩) hwW).trans z1
  have hl3 := NAt.below hB2 hl1
  have hr3 := NAt.below hB2 hr1
  have hB3 : Below w.heap.size w w2 := hB0.trans (hB2.mono (by omega))
  have hw2 : w.heap.size < w2.heap.size := Nat.lt_of_lt_of_le hwW hB2.size
  clear z0 z1 k1 k2 hB0 hB2 hl1 hr1 hr2
  go_wp2_with fail
  obtain ⟨rl, rp, rr, rfl⟩ := dep_node (t := r) (by omega)
  refine (rotL_any w2 hf hr3 hl3 hd0 hd).mono ?_
  intro e v h
  unfold RetN at h
  obtain ⟨A1, rfl, n1, q1⟩ := h
  go_wp2
  go_ret
  exact ⟨A1, rfl, n1, hB3.trans (q1.mono (Nat.le_of_lt hw2))⟩
set_option maxRecDepth 100000 in
set_option maxHeartbeats 8000000 in
theorem balanceN {l r : Tr} {p : List UInt8} {L R : Option Addr} (w : World) (hf : Fine (.node l p r)) (hl : NAt w l L) (hr : NAt w r R) (hd0 : ¬ r.dep + 1 < l.dep) (hd : ¬ l.dep + 1 < r.dep) : Calls Try.prog 59 #[.pointer L, pcV p, .pointer R] w (RetN (balT l p r) w) := by
  have hB0 : Below w.heap.size w (w.alloc (.cells #[.string (bs p), .int .i64 (lf p : Nat)] 92)) := (Below.refl _ w).alloc (Nat.le_refl _) _
  have z0 : (w.alloc (.cells #[.string (bs p), .int .i64 (lf p : Nat)] 92)).cell? ⟨w.heap.size, 0, none⟩ = some (.string (bs p)) := by rw [World.cell?_alloc_new]; rfl
  have z1 : (w.alloc (.cells #[.string (bs p), .int .i64 (lf p : Nat)] 92)).cell? ⟨w.heap.size, 1, none⟩ = some (.int .i64 (lf p : Nat)) := by rw [World.cell?_alloc_new]; rfl
  have hz : (w.alloc (.cells #[.string (bs p), .int .i64 (lf p : Nat)] 92)).heap.size = w.heap.size + 1 := World.size_alloc _ _
  have b1 := hf.left.dep
  have b2 := hf.right.dep
  have g1 : ¬ (1 : Int) < (l.dep : Nat) - (r.dep : Nat) := by omega
  have g2 : ¬ ((l.dep : Nat) : Int) - (r.dep : Nat) < -1 := by omega
  unfold pcV
  go_enter Try.func59, Try.ntmps59
  go_wp2_with fail
  generalize w.alloc (.cells #[.string (bs p), .int .i64 (lf p : Nat)] 92) = W at *
  have hl1 := NAt.below hB0 hl
  have hr1 := NAt.below hB0 hr
  refine (total_any _ hl1).mono ?_
  rintro e w1 ⟨rfl, k1⟩
  unfold smV
  have hr2 := NAt.below k1 hr1
  go_wp2_with fail
  refine (total_any _ hr2).mono ?_
  rintro e w2 ⟨rfl, k2⟩
  unfold smV
  have hwW : w.heap.size < W.heap.size := by omega
  have hB2 : Below W.heap.size W w2 := k1.trans (k2.mono k1.size)
  have Y0 := (hB2.cell (p := ⟨w.heap.size, 0, none⟩) hwW).trans z0
  have Y1 := (hB2.cell (p := ⟨w.heap.size, 1, none⟩) hwW).trans z1
  have hl3 := NAt.below hB2 hl1
  have hr3 := NAt.below hB2 hr1
  have hB3 : Below w.heap.size w w2 := hB0.trans (hB2.mono (by omega))
  have hw2 : w.heap.size < w2.heap.size := Nat.lt_of_lt_of_le hwW hB2.size
  clear z0 z1 k1 k2 hB0 hB2 hl1 hr1 hr2
  go_wp2_with fail
  refine (newNode_any w2 hf.left hf.right hf.piece hl3 hr3).mono ?_
  intro e v h
  unfold RetN at h
  obtain ⟨A1, rfl, n1, q1⟩ := h
  go_wp2
  go_ret
  exact ⟨A1, rfl, by unfold balT; rw [if_neg hd0, if_neg hd]; exact n1, hB3.trans (q1.mono (Nat.le_of_lt hw2))⟩
theorem balance_any {l r : Tr} {p : List UInt8} {L R : Option Addr} (w : World) (hf : Fine (.node l p r)) (hl : NAt w l L) (hr : NAt w r R) : Calls Try.prog 59 #[.pointer L, pcV p, .pointer R] w (RetN (balT l p r) w) := by
  by_cases h1 : r.dep + 1 < l.dep
  · exact balanceR w hf hl hr h1
  · by_cases h2 : l.dep + 1 < r.dep
    · exact balanceL w hf hl hr h1 h2
    · exact balanceN w hf hl hr h1 h2
set_option maxRecDepth 100000 in
set_option maxHeartbeats 8000000 in
theorem joinR {l r : Tr} {p : List UInt8} {L R : Option Addr} (w : World) (ih : ∀ (l' r' : Tr) (p' : List UInt8) (L' R' : Option Addr) (w' : World), SizeOf.sizeOf l' + SizeOf.sizeOf r' < SizeOf.sizeOf l + SizeOf.sizeOf r → Fine (.node l' p' r') → NAt w' l' L' → NAt w' r' R' → Calls Try.prog 51 #[.pointer L', pcV p', .pointer R'] w' (RetN (joinT l' p' r') w')) (hf : Fine (.node l p r)) (hl : NAt w l L) (hr : NAt w r R) (hd : r.dep + 1 < l.dep) : Calls Try.prog 51 #[.pointer L, pcV p, .pointer R] w (RetN (joinT l p r) w) := by
  have hB0 : Below w.heap.size w (w.alloc (.cells #[.string (bs p), .int .i64 (lf p : Nat)] 92)) := (Below.refl _ w).alloc (Nat.le_refl _) _
  have z0 : (w.alloc (.cells #[.string (bs p), .int .i64 (lf p : Nat)] 92)).cell? ⟨w.heap.size, 0, none⟩ = some (.string (bs p)) := by rw [World.cell?_alloc_new]; rfl
  have z1 : (w.alloc (.cells #[.string (bs p), .int .i64 (lf p : Nat)] 92)).cell? ⟨w.heap.size, 1, none⟩ = some (.int .i64 (lf p : Nat)) := by rw [World.cell?_alloc_new]; rfl
  have hz : (w.alloc (.cells #[.string (bs p), .int .i64 (lf p : Nat)] 92)).heap.size = w.heap.size + 1 := World.size_alloc _ _
  have b1 := hf.left.dep
  have b2 := hf.right.dep
  have g1 : (1 : Int) < (l.dep : Nat) - (r.dep : Nat) := by omega
  unfold pcV
  go_enter Try.func51, Try.ntmps51
  go_wp2_with fail
  generalize w.alloc (.cells #[.string (bs p), .int .i64 (lf p : Nat)] 92) = W at *
  have hl1 := NAt.below hB0 hl
  have hr1 := NAt.below hB0 hr
  refine (total_any _ hl1).mono ?_
  rintro e w1 ⟨rfl, k1⟩
  unfold smV
  have hr2 := NAt.below k1 hr1
  go_wp2_with fail
  refine (total_any _ hr2).mono ?_
  rintro e w2 ⟨rfl, k2⟩
  unfold smV
  have hwW : w.heap.size < W.heap.size := by omega
  have hB2 : Below W.heap.size W w2 := k1.trans (k2.mono k1.size)
  have Y0 := (hB2.cell (p := ⟨w.heap.size, 0, none⟩) hwW).trans z0
  have Y1 := (hB2.cell (p := ⟨w.heap.size, 1, none⟩) hwW).trans z1
  have hl3 := NAt.below hB2 hl1
  have hr3 := NAt.below hB2 hr1
  have hB3 : Below w.heap.size w w2 := hB0.trans (hB2.mono (by omega))
  have hw2 : w.heap.size < w2.heap.size := Nat.lt_of_lt_of_le hwW hB2.size
  clear z0 z1 k1 k2 hB0 hB2 hl1 hr1 hr2
  obtain ⟨ll, lp, lr, rfl⟩ := dep_node (t := l) (by omega)
  obtain ⟨b, A, B, rfl, hb2, ⟨D0, D1, D2, D3, _⟩, hA, hB⟩ := hl3
  have HB := Lib.hid (show joinT (.node ll lp lr) p r = balT ll lp (joinT lr p r) by rw [joinT.eq_def, if_pos hd])
  have f1 : Fine (.node lr p r) := hf.of (by simp only [Tr.bytes, List.length_append]; omega) (by simp only [Tr.pcs]; omega)
  have f2 : Fine (.node ll lp (joinT lr p r)) := hf.of (by simp only [Tr.bytes, joinT_bytes, List.length_append]; omega) (by simp only [Tr.pcs, joinT_pcs]; omega)
  have c51 := fun w' (h1 : NAt w' lr B) (h2 : NAt w' r R) => ih lr r p B R w' (by simp only [Tr.node.sizeOf_spec]; omega) f1 h1 h2
  clear ih
  go_wp2_with fail
  go_region_held3 (fun w' => w'.cell? ⟨b, 0, none⟩ = some (.pointer A) ∧ w'.cell? ⟨b, 1, none⟩ = some (.pointer B) ∧ w'.cell? ⟨b, 2, none⟩ = some (.string (bs lp)) ∧ w'.cell? ⟨b, 3, none⟩ = some (.int .i64 (lf lp : Nat)) ∧ w'.cell? ⟨w.heap.size, 0, none⟩ = some (.string (bs p)) ∧ w'.cell? ⟨w.heap.size, 1, none⟩ = some (.int .i64 (lf p : Nat)))
    (first
      | go_keep
      | exact ⟨(q2.cell hb3).trans ((q1.cell hb2).trans D0), (q2.cell hb3).trans ((q1.cell hb2).trans D1), (q2.cell hb3).trans ((q1.cell hb2).trans D2), (q2.cell hb3).trans ((q1.cell hb2).trans D3), (q2.cell hw3).trans ((q1.cell hw2).trans Y0), (q2.cell hw3).trans ((q1.cell hw2).trans Y1)⟩
      | exact ⟨(q1.cell hb2).trans D0, (q1.cell hb2).trans D1, (q1.cell hb2).trans D2, (q1.cell hb2).trans D3, (q1.cell hw2).trans Y0, (q1.cell hw2).trans Y1⟩)
    (first
      | (go_at_call 59; with_reducible refine (balance_any (l := ll) (p := lp) (r := joinT lr p r) _ f2 (NAt.below q1 hA.drew) n1).mono ?_; intro e v2 h2; unfold RetN at h2; obtain ⟨A2, rfl, n2, q2⟩ := h2)
      | (go_at_call 51; with_reducible refine (c51 _ hB.drew hr3.drew).mono ?_; intro e v1 h1; unfold RetN at h1; obtain ⟨A1, rfl, n1, q1⟩ := h1; have hb3 := Nat.lt_of_lt_of_le hb2 q1.size; have hw3 := Nat.lt_of_lt_of_le hw2 q1.size))
  go_wp2
  go_ret
  exact ⟨A2, rfl, by rw [HB.out]; exact n2, (hB3.drew.trans (q1.mono (Nat.le_of_lt hw2))).trans (q2.mono (Nat.le_of_lt hw3))⟩
set_option maxRecDepth 100000 in
set_option maxHeartbeats 8000000 in
theorem joinL {l r : Tr} {p : List UInt8} {L R : Option Addr} (w : World) (ih : ∀ (l' r' : Tr) (p' : List UInt8) (L' R' : Option Addr) (w' : World), SizeOf.sizeOf l' + SizeOf.sizeOf r' < SizeOf.sizeOf l + SizeOf.sizeOf r → Fine (.node l' p' r') → NAt w' l' L' → NAt w' r' R' → Calls Try.prog 51 #[.pointer L', pcV p', .pointer R'] w' (RetN (joinT l' p' r') w')) (hf : Fine (.node l p r)) (hl : NAt w l L) (hr : NAt w r R) (hd0 : ¬ r.dep + 1 < l.dep) (hd : l.dep + 1 < r.dep) : Calls Try.prog 51 #[.pointer L, pcV p, .pointer R] w (RetN (joinT l p r) w) := by
  have hB0 : Below w.heap.size w (w.alloc (.cells #[.string (bs p), .int .i64 (lf p : Nat)] 92)) := (Below.refl _ w).alloc (Nat.le_refl _) _
  have z0 : (w.alloc (.cells #[.string (bs p), .int .i64 (lf p : Nat)] 92)).cell? ⟨w.heap.size, 0, none⟩ = some (.string (bs p)) := by rw [World.cell?_alloc_new]; rfl
  have z1 : (w.alloc (.cells #[.string (bs p), .int .i64 (lf p : Nat)] 92)).cell? ⟨w.heap.size, 1, none⟩ = some (.int .i64 (lf p : Nat)) := by rw [World.cell?_alloc_new]; rfl
  have hz : (w.alloc (.cells #[.string (bs p), .int .i64 (lf p : Nat)] 92)).heap.size = w.heap.size + 1 := World.size_alloc _ _
  have b1 := hf.left.dep
  have b2 := hf.right.dep
  have g1 : ¬ (1 : Int) < (l.dep : Nat) - (r.dep : Nat) := by omega
  have g2 : ((l.dep : Nat) : Int) - (r.dep : Nat) < -1 := by omega
  unfold pcV
  go_enter Try.func51, Try.ntmps51
  go_wp2_with fail
  generalize w.alloc (.cells #[.string (bs p), .int .i64 (lf p : Nat)] 92) = W at *
  have hl1 := NAt.below hB0 hl
  have hr1 := NAt.below hB0 hr
  refine (total_any _ hl1).mono ?_
  rintro e w1 ⟨rfl, k1⟩
  unfold smV
  have hr2 := NAt.below k1 hr1
  go_wp2_with fail
  refine (total_any _ hr2).mono ?_
  rintro e w2 ⟨rfl, k2⟩
  unfold smV
  have hwW : w.heap.size < W.heap.size := by omega
  have hB2 : Below W.heap.size W w2 := k1.trans (k2.mono k1.size)
  have Y0 := (hB2.cell (p := ⟨w.heap.size, 0, none⟩) hwW).trans z0
  have Y1 := (hB2.cell (p := ⟨w.heap.size, 1, none⟩) hwW).trans z1
  have hl3 := NAt.below hB2 hl1
  have hr3 := NAt.below hB2 hr1
  have hB3 : Below w.heap.size w w2 := hB0.trans (hB2.mono (by omega))
  have hw2 : w.heap.size < w2.heap.size := Nat.lt_of_lt_of_le hwW hB2.size
  clear z0 z1 k1 k2 hB0 hB2 hl1 hr1 hr2
  obtain ⟨rl, rp, rr, rfl⟩ := dep_node (t := r) (by omega)
  obtain ⟨b, A, B, rfl, hb2, ⟨D0, D1, D2, D3, _⟩, hA, hB⟩ := hr3
  have HB := Lib.hid (show joinT l p (.node rl rp rr) = balT (joinT l p rl) rp rr by rw [joinT.eq_def, if_neg hd0, if_pos hd])
  have f1 : Fine (.node l p rl) := hf.of (by simp only [Tr.bytes, List.length_append]; omega) (by simp only [Tr.pcs]; omega)
  have f2 : Fine (.node (joinT l p rl) rp rr) := hf.of (by simp only [Tr.bytes, joinT_bytes, List.length_append]; omega) (by simp only [Tr.pcs, joinT_pcs]; omega)
  have c51 := fun w' (h1 : NAt w' l L) (h2 : NAt w' rl A) => ih l rl p L A w' (by simp only [Tr.node.sizeOf_spec]; omega) f1 h1 h2
  clear ih
  go_wp2_with fail
  go_region_held3 (fun w' => w'.cell? ⟨b, 0, none⟩ = some (.pointer A) ∧ w'.cell? ⟨b, 1, none⟩ = some (.pointer B) ∧ w'.cell? ⟨b, 2, none⟩ = some (.string (bs rp)) ∧ w'.cell? ⟨b, 3, none⟩ = some (.int .i64 (lf rp : Nat)) ∧ w'.cell? ⟨w.heap.size, 0, none⟩ = some (.string (bs p)) ∧ w'.cell? ⟨w.heap.size, 1, none⟩ = some (.int .i64 (lf p : Nat)))
    (first
      | go_keep
      | exact ⟨(q2.cell hb3).trans ((q1.cell hb2).trans D0), (q2.cell hb3).trans ((q1.cell hb2).trans D1), (q2.cell hb3).trans ((q1.cell hb2).trans D2), (q2.cell hb3).trans ((q1.cell hb2).trans D3), (q2.cell hw3).trans ((q1.cell hw2).trans Y0), (q2.cell hw3).trans ((q1.cell hw2).trans Y1)⟩
      | exact ⟨(q1.cell hb2).trans D0, (q1.cell hb2).trans D1, (q1.cell hb2).trans D2, (q1.cell hb2).trans D3, (q1.cell hw2).trans Y0, (q1.cell hw2).trans Y1⟩)
    (first
      | (go_at_call 59; with_reducible refine (balance_any (l := joinT l p rl) (p := rp) (r := rr) _ f2 n1 (NAt.below q1 hB.drew)).mono ?_; intro e v2 h2; unfold RetN at h2; obtain ⟨A2, rfl, n2, q2⟩ := h2)
      | (go_at_call 51; with_reducible refine (c51 _ hl3.drew hA.drew).mono ?_; intro e v1 h1; unfold RetN at h1; obtain ⟨A1, rfl, n1, q1⟩ := h1; have hb3 := Nat.lt_of_lt_of_le hb2 q1.size; have hw3 := Nat.lt_of_lt_of_le hw2 q1.size))
  go_wp2
  go_ret
  exact ⟨A2, rfl, by rw [HB.out]; exact n2, (hB3.drew.trans (q1.mono (Nat.le_of_lt hw2))).trans (q2.mono (Nat.le_of_lt hw3))⟩
set_option maxRecDepth 100000 in
set_option maxHeartbeats 8000000 in
theorem joinN {l r : Tr} {p : List UInt8} {L R : Option Addr} (w : World) (hf : Fine (.node l p r)) (hl : NAt w l L) (hr : NAt w r R) (hd0 : ¬ r.dep + 1 < l.dep) (hd : ¬ l.dep + 1 < r.dep) : Calls Try.prog 51 #[.pointer L, pcV p, .pointer R] w (RetN (joinT l p r) w) := by
  have hB0 : Below w.heap.size w (w.alloc (.cells #[.string (bs p), .int .i64 (lf p : Nat)] 92)) := (Below.refl _ w).alloc (Nat.le_refl _) _
  have z0 : (w.alloc (.cells #[.string (bs p), .int .i64 (lf p : Nat)] 92)).cell? ⟨w.heap.size, 0, none⟩ = some (.string (bs p)) := by rw [World.cell?_alloc_new]; rfl
  have z1 : (w.alloc (.cells #[.string (bs p), .int .i64 (lf p : Nat)] 92)).cell? ⟨w.heap.size, 1, none⟩ = some (.int .i64 (lf p : Nat)) := by rw [World.cell?_alloc_new]; rfl
  have hz : (w.alloc (.cells #[.string (bs p), .int .i64 (lf p : Nat)] 92)).heap.size = w.heap.size + 1 := World.size_alloc _ _
  have b1 := hf.left.dep
  have b2 := hf.right.dep
  have g1 : ¬ (1 : Int) < (l.dep : Nat) - (r.dep : Nat) := by omega
  have g2 : ¬ ((l.dep : Nat) : Int) - (r.dep : Nat) < -1 := by omega
  unfold pcV
  go_enter Try.func51, Try.ntmps51
  go_wp2_with fail
  generalize w.alloc (.cells #[.string (bs p), .int .i64 (lf p : Nat)] 92) = W at *
  have hl1 := NAt.below hB0 hl
  have hr1 := NAt.below hB0 hr
  refine (total_any _ hl1).mono ?_
  rintro e w1 ⟨rfl, k1⟩
  unfold smV
  have hr2 := NAt.below k1 hr1
  go_wp2_with fail
  refine (total_any _ hr2).mono ?_
  rintro e w2 ⟨rfl, k2⟩
  unfold smV
  have hwW : w.heap.size < W.heap.size := by omega
  have hB2 : Below W.heap.size W w2 := k1.trans (k2.mono k1.size)
  have Y0 := (hB2.cell (p := ⟨w.heap.size, 0, none⟩) hwW).trans z0
  have Y1 := (hB2.cell (p := ⟨w.heap.size, 1, none⟩) hwW).trans z1
  have hl3 := NAt.below hB2 hl1
  have hr3 := NAt.below hB2 hr1
  have hB3 : Below w.heap.size w w2 := hB0.trans (hB2.mono (by omega))
  have hw2 : w.heap.size < w2.heap.size := Nat.lt_of_lt_of_le hwW hB2.size
  clear z0 z1 k1 k2 hB0 hB2 hl1 hr1 hr2
  go_wp2_with fail
  refine (newNode_any w2 hf.left hf.right hf.piece hl3 hr3).mono ?_
  intro e v h
  unfold RetN at h
  obtain ⟨A1, rfl, n1, q1⟩ := h
  go_wp2
  go_ret
  exact ⟨A1, rfl, by rw [joinT.eq_def, if_neg hd0, if_neg hd]; exact n1, hB3.trans (q1.mono (Nat.le_of_lt hw2))⟩
theorem join_n (n : Nat) : ∀ (l r : Tr) (p : List UInt8) (L R : Option Addr) (w : World), SizeOf.sizeOf l + SizeOf.sizeOf r ≤ n → Fine (.node l p r) → NAt w l L → NAt w r R → Calls Try.prog 51 #[.pointer L, pcV p, .pointer R] w (RetN (joinT l p r) w) := by
  induction n with
  | zero => intro l r p L R w h; cases l <;> simp at h <;> omega
  | succ n ih =>
    intro l r p L R w h hf hl hr
    have IH : ∀ (l' r' : Tr) (p' : List UInt8) (L' R' : Option Addr) (w' : World), SizeOf.sizeOf l' + SizeOf.sizeOf r' < SizeOf.sizeOf l + SizeOf.sizeOf r → Fine (.node l' p' r') → NAt w' l' L' → NAt w' r' R' → Calls Try.prog 51 #[.pointer L', pcV p', .pointer R'] w' (RetN (joinT l' p' r') w') := fun l' r' p' L' R' w' hlt => ih l' r' p' L' R' w' (by omega)
    by_cases h1 : r.dep + 1 < l.dep
    · exact joinR w IH hf hl hr h1
    · by_cases h2 : l.dep + 1 < r.dep
      · exact joinL w IH hf hl hr h1 h2
      · exact joinN w hf hl hr h1 h2
theorem join_any {l r : Tr} {p : List UInt8} {L R : Option Addr} (w : World) (hf : Fine (.node l p r)) (hl : NAt w l L) (hr : NAt w r R) : Calls Try.prog 51 #[.pointer L, pcV p, .pointer R] w (RetN (joinT l p r) w) := join_n _ l r p L R w (Nat.le_refl _) hf hl hr
end Go.Proofs.Ytonplacldckbgaa
