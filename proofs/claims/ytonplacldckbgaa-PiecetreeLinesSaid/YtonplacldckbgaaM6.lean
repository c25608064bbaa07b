/- Layer 4: split (43). -/
import Derived.Test.YtonplacldckbgaaM5
namespace Go.Proofs.Ytonplacldckbgaa
open Go.RowKit Go.Lib Pt

theorem splitT_bp (t : Tr) : ∀ k, (splitT t k).1.bytes = t.bytes.take k ∧ (splitT t k).2.bytes = t.bytes.drop k ∧ (splitT t k).1.pcs + (splitT t k).2.pcs ≤ t.pcs + 1 := by
  induction t with
  | nil => intro k; simp [splitT, Tr.bytes, Tr.pcs]
  | node l p r il ir =>
    intro k
    have e : (Tr.node l p r).bytes = l.bytes ++ p ++ r.bytes := rfl
    unfold splitT
    split
    · rename_i hk
      obtain ⟨i1, i2, i5⟩ := il k
      refine ⟨?_, ?_, ?_⟩
      · rw [i1, e, List.append_assoc, List.take_append_of_le_length hk]
      · rw [joinT_bytes, i2, e, List.append_assoc, List.append_assoc, List.drop_append_of_le_length hk]
      · rw [joinT_pcs]; simp only [Tr.pcs]; omega
    · split
      · rename_i hk0 hk
        obtain ⟨i1, i2, i5⟩ := ir (k - (l.bytes.length + p.length))
        have el : (l.bytes ++ p).length = l.bytes.length + p.length := by simp
        refine ⟨?_, ?_, ?_⟩
        · rw [joinT_bytes, i1, e, List.take_append (l₁ := l.bytes ++ p), List.take_of_length_le (l := l.bytes ++ p) (by rw [el]; exact hk), el]
        · rw [i2, e, List.drop_append (l₁ := l.bytes ++ p), show List.drop k (l.bytes ++ p) = [] from List.drop_eq_nil_of_le (by rw [el]; exact hk), el, List.nil_append]
        · rw [joinT_pcs]; simp only [Tr.pcs]; omega
      · rename_i hk0 hk
        refine ⟨?_, ?_, ?_⟩
        · rw [joinT_bytes, e, List.append_assoc l.bytes p r.bytes, List.take_append (l₁ := l.bytes), List.take_of_length_le (l := l.bytes) (by omega), List.take_append_of_le_length (l₁ := p) (by omega)]
          simp [Tr.bytes]
        · rw [joinT_bytes, e, List.append_assoc l.bytes p r.bytes, List.drop_append (l₁ := l.bytes), show List.drop k l.bytes = [] from List.drop_eq_nil_of_le (by omega), List.nil_append, List.drop_append_of_le_length (l₁ := p) (by omega)]
          simp [Tr.bytes]
        · rw [joinT_pcs, joinT_pcs]; simp only [Tr.pcs]; omega
/-- Two trees. -/
def RetNN (s t : Tr) (w : World) : Ending → World → Prop := fun e w' => ∃ A B, e = .returned (.tuple #[.pointer A, .pointer B]) ∧ NAt w' s A ∧ NAt w' t B ∧ Below w.heap.size w w'
set_option maxRecDepth 100000 in
set_option maxHeartbeats 4000000 in
theorem split_nil (k : Nat) (w : World) : Calls Try.prog 43 #[.pointer none, .int .i64 (k : Nat)] w (RetNN .nil .nil w) := by
  go_enter Try.func43, Try.ntmps43
  go_wp2
  refine bodyPost_ret (results_tmp2 rfl _ _ _) rfl ?_
  exact ⟨none, none, rfl, rfl, rfl, Below.refl _ _⟩
set_option maxRecDepth 100000 in
set_option maxHeartbeats 8000000 in
theorem split_l {l r : Tr} {p : List UInt8} {A : Option Addr} (k : Nat) (w : World) (hf : Fine (.node l p r)) (hf1 : (Tr.node l p r).pcs + 1 ≤ 200000) (hk9 : k ≤ 200000) (h : NAt w (.node l p r) A) (hk : k ≤ l.bytes.length)
    (ih : ∀ (L : Option Addr) (w' : World), NAt w' l L → Calls Try.prog 43 #[.pointer L, .int .i64 (k : Nat)] w' (RetNN (splitT l k).1 (splitT l k).2 w')) : Calls Try.prog 43 #[.pointer A, .int .i64 (k : Nat)] w (RetNN (splitT l k).1 (joinT (splitT l k).2 p r) w) := by
  obtain ⟨b, L, R, rfl, hb, ⟨c0, c1, c2, c3, _⟩, hL, hR⟩ := h
  have b1 := hf.left.size
  have b2 := hf.piece
  have hs : (bs p).size = p.length := bs_size p
  obtain ⟨u1, u2, u3⟩ := splitT_bp l k
  generalize (splitT l k).1 = s at *
  generalize (splitT l k).2 = t at *
  have f1 : Fine (.node t p r) := ⟨by have := hf.size; simp only [Tr.bytes, List.length_append] at this ⊢; rw [u2, List.length_drop]; omega, by simp only [Tr.pcs] at hf1 ⊢; omega⟩
  go_enter Try.func43, Try.ntmps43
  go_wp2_with fail
  refine (total_any _ hL).mono ?_
  rintro e w1 ⟨rfl, k1⟩
  unfold smV
  have D0 := (k1.cell (p := ⟨b, 0, none⟩) hb).trans c0
  have D1 := (k1.cell (p := ⟨b, 1, none⟩) hb).trans c1
  have D2 := (k1.cell (p := ⟨b, 2, none⟩) hb).trans c2
  have D3 := (k1.cell (p := ⟨b, 3, none⟩) hb).trans c3
  have hL1 := NAt.below k1 hL
  have hR1 := NAt.below k1 hR
  have hb1 : b < w1.heap.size := Nat.lt_of_lt_of_le hb k1.size
  go_wp2_with fail
  refine (ih L w1 hL1).mono ?_
  intro e w2 h2
  unfold RetNN at h2
  obtain ⟨A1, A2, rfl, n1, n2, k2⟩ := h2
  have E1 := (k2.cell (p := ⟨b, 1, none⟩) hb1).trans D1
  have E2 := (k2.cell (p := ⟨b, 2, none⟩) hb1).trans D2
  have E3 := (k2.cell (p := ⟨b, 3, none⟩) hb1).trans D3
  have hR2 := NAt.below k2 hR1
  have hb2 : b < w2.heap.size := Nat.lt_of_lt_of_le hb1 k2.size
  clear ih
  go_wp2_with fail
  go_region_held3 (fun w' => w'.cell? ⟨b, 1, none⟩ = some (.pointer R) ∧ w'.cell? ⟨b, 2, none⟩ = some (.string (bs p)) ∧ w'.cell? ⟨b, 3, none⟩ = some (.int .i64 (lf p : Nat)))
    (first
      | exact ⟨E1, E2, E3⟩
      | exact ⟨(q1.cell hb2).trans E1, (q1.cell hb2).trans E2, (q1.cell hb2).trans E3⟩)
    (first
      | (go_at_call 51; (with_reducible refine (join_any (l := t) (p := p) (r := r) _ f1 n2.drew hR2.drew).mono ?_); intro e v1 h1; unfold RetN at h1; obtain ⟨A3, rfl, n3, q1⟩ := h1))
  go_wp2
  refine bodyPost_ret (results_tmp2 rfl _ _ _) rfl ?_
  exact ⟨A1, A3, rfl, NAt.below q1 n1.drew, n3, ((k1.trans (k2.mono k1.size)).drew).trans (q1.mono (Nat.le_trans k1.size k2.size))⟩
set_option maxRecDepth 100000 in
set_option maxHeartbeats 8000000 in
theorem split_r {l r : Tr} {p : List UInt8} {A : Option Addr} (k : Nat) (w : World) (hf : Fine (.node l p r)) (hf1 : (Tr.node l p r).pcs + 1 ≤ 200000) (hk9 : k ≤ 200000) (h : NAt w (.node l p r) A) (hk0 : ¬ k ≤ l.bytes.length) (hk : l.bytes.length + p.length ≤ k)
    (ih : ∀ (R : Option Addr) (w' : World), NAt w' r R → Calls Try.prog 43 #[.pointer R, .int .i64 ((k - (l.bytes.length + p.length) : Nat) : Nat)] w' (RetNN (splitT r (k - (l.bytes.length + p.length))).1 (splitT r (k - (l.bytes.length + p.length))).2 w')) : Calls Try.prog 43 #[.pointer A, .int .i64 (k : Nat)] w (RetNN (joinT l p (splitT r (k - (l.bytes.length + p.length))).1) (splitT r (k - (l.bytes.length + p.length))).2 w) := by
  obtain ⟨b, L, R, rfl, hb, ⟨c0, c1, c2, c3, _⟩, hL, hR⟩ := h
  have b1 := hf.left.size
  have b2 := hf.piece
  have hs : (bs p).size = p.length := bs_size p
  obtain ⟨u1, u2, u3⟩ := splitT_bp r (k - (l.bytes.length + p.length))
  generalize (splitT r (k - (l.bytes.length + p.length))).1 = s at *
  generalize (splitT r (k - (l.bytes.length + p.length))).2 = t at *
  have f1 : Fine (.node l p s) := ⟨by have := hf.size; simp only [Tr.bytes, List.length_append] at this ⊢; rw [u1, List.length_take]; omega, by simp only [Tr.pcs] at hf1 ⊢; omega⟩
  rw [show ((k - (l.bytes.length + p.length) : Nat) : Int) = (k : Int) - ((l.bytes.length : Int) + (p.length : Int)) by omega] at ih
  have hki : (l.bytes.length : Int) + (p.length : Int) ≤ (k : Int) := by omega
  go_enter Try.func43, Try.ntmps43
  go_wp2_with fail
  refine (total_any _ hL).mono ?_
  rintro e w1 ⟨rfl, k1⟩
  unfold smV
  have D0 := (k1.cell (p := ⟨b, 0, none⟩) hb).trans c0
  have D1 := (k1.cell (p := ⟨b, 1, none⟩) hb).trans c1
  have D2 := (k1.cell (p := ⟨b, 2, none⟩) hb).trans c2
  have D3 := (k1.cell (p := ⟨b, 3, none⟩) hb).trans c3
  have hL1 := NAt.below k1 hL
  have hR1 := NAt.below k1 hR
  have hb1 : b < w1.heap.size := Nat.lt_of_lt_of_le hb k1.size
  go_wp2_with fail
  refine (ih R w1 hR1).mono ?_
  intro e w2 h2
  unfold RetNN at h2
  obtain ⟨A1, A2, rfl, n1, n2, k2⟩ := h2
  have E0 := (k2.cell (p := ⟨b, 0, none⟩) hb1).trans D0
  have E2 := (k2.cell (p := ⟨b, 2, none⟩) hb1).trans D2
  have E3 := (k2.cell (p := ⟨b, 3, none⟩) hb1).trans D3
  have hL2 := NAt.below k2 hL1
  have hb2 : b < w2.heap.size := Nat.lt_of_lt_of_le hb1 k2.size
  clear ih
  go_wp2_with fail
  go_region_held3 (fun w' => w'.cell? ⟨b, 0, none⟩ = some (.pointer L) ∧ w'.cell? ⟨b, 2, none⟩ = some (.string (bs p)) ∧ w'.cell? ⟨b, 3, none⟩ = some (.int .i64 (lf p : Nat)))
    (first
      | exact ⟨E0, E2, E3⟩
      | exact ⟨(q1.cell hb2).trans E0, (q1.cell hb2).trans E2, (q1.cell hb2).trans E3⟩)
    (first
      | (go_at_call 51; (with_reducible refine (join_any (l := l) (p := p) (r := s) _ f1 hL2.drew n1.drew).mono ?_); intro e v1 h1; unfold RetN at h1; obtain ⟨A3, rfl, n3, q1⟩ := h1))
  go_wp2
  refine bodyPost_ret (results_tmp2 rfl _ _ _) rfl ?_
  exact ⟨A3, A2, rfl, n3, NAt.below q1 n2.drew, ((k1.trans (k2.mono k1.size)).drew).trans (q1.mono (Nat.le_trans k1.size k2.size))⟩
set_option maxRecDepth 100000 in
set_option maxHeartbeats 8000000 in
theorem split_m {l r : Tr} {p : List UInt8} {A : Option Addr} (k : Nat) (w : World) (hf : Fine (.node l p r)) (_ : (Tr.node l p r).pcs + 1 ≤ 200000) (hk9 : k ≤ 200000) (h : NAt w (.node l p r) A) (hk0 : ¬ k ≤ l.bytes.length) (hk : ¬ l.bytes.length + p.length ≤ k)
     : Calls Try.prog 43 #[.pointer A, .int .i64 (k : Nat)] w (RetNN (joinT l (p.take (k - l.bytes.length)) .nil) (joinT .nil (p.drop (k - l.bytes.length)) r) w) := by
  obtain ⟨b, L, R, rfl, hb, ⟨c0, c1, c2, c3, _⟩, hL, hR⟩ := h
  have b1 := hf.left.size
  have b2 := hf.piece
  have hs : (bs p).size = p.length := bs_size p
  have cc := fun w' => cut_any p (k - l.bytes.length) (by omega) (by omega) w'
  unfold pcV at cc
  rw [show ((k - l.bytes.length : Nat) : Int) = (k : Int) - (l.bytes.length : Int) by omega] at cc
  have hki : (l.bytes.length : Int) ≤ (k : Int) := by omega
  have f1 : Fine (.node l (p.take (k - l.bytes.length)) .nil) := hf.of (by simp only [Tr.bytes, List.length_append, List.length_take, List.length_nil]; omega) (by simp only [Tr.pcs]; omega)
  have f2 : Fine (.node .nil (p.drop (k - l.bytes.length)) r) := hf.of (by simp only [Tr.bytes, List.length_append, List.length_drop, List.length_nil]; omega) (by simp only [Tr.pcs]; omega)
  go_enter Try.func43, Try.ntmps43
  go_wp2_with fail
  refine (total_any _ hL).mono ?_
  rintro e w1 ⟨rfl, k1⟩
  unfold smV
  have D0 := (k1.cell (p := ⟨b, 0, none⟩) hb).trans c0
  have D1 := (k1.cell (p := ⟨b, 1, none⟩) hb).trans c1
  have D2 := (k1.cell (p := ⟨b, 2, none⟩) hb).trans c2
  have D3 := (k1.cell (p := ⟨b, 3, none⟩) hb).trans c3
  have hL1 := NAt.below k1 hL
  have hR1 := NAt.below k1 hR
  have hb1 : b < w1.heap.size := Nat.lt_of_lt_of_le hb k1.size
  go_wp2_with fail
  refine (cc w1).mono ?_
  rintro e w2 ⟨rfl, k2⟩
  have E0 := (k2.cell (p := ⟨b, 0, none⟩) hb1).trans D0
  have E1 := (k2.cell (p := ⟨b, 1, none⟩) hb1).trans D1
  have hL2 := NAt.below k2 hL1
  have hR2 := NAt.below k2 hR1
  have hb2 : b < w2.heap.size := Nat.lt_of_lt_of_le hb1 k2.size
  have z0 : ((w2.alloc (.cells #[.string (bs (p.take (k - l.bytes.length))), .int .i64 (lf (p.take (k - l.bytes.length)) : Nat)] 92)).alloc (.cells #[.string (bs (p.drop (k - l.bytes.length))), .int .i64 (lf (p.drop (k - l.bytes.length)) : Nat)] 92)).cell? ⟨w2.heap.size, 0, none⟩ = some (.string (bs (p.take (k - l.bytes.length)))) := by simp [go_sem]
  have z1 : ((w2.alloc (.cells #[.string (bs (p.take (k - l.bytes.length))), .int .i64 (lf (p.take (k - l.bytes.length)) : Nat)] 92)).alloc (.cells #[.string (bs (p.drop (k - l.bytes.length))), .int .i64 (lf (p.drop (k - l.bytes.length)) : Nat)] 92)).cell? ⟨w2.heap.size, 1, none⟩ = some (.int .i64 (lf (p.take (k - l.bytes.length)) : Nat)) := by simp [go_sem]
  have z2 : ((w2.alloc (.cells #[.string (bs (p.take (k - l.bytes.length))), .int .i64 (lf (p.take (k - l.bytes.length)) : Nat)] 92)).alloc (.cells #[.string (bs (p.drop (k - l.bytes.length))), .int .i64 (lf (p.drop (k - l.bytes.length)) : Nat)] 92)).cell? ⟨w2.heap.size + 1, 0, none⟩ = some (.string (bs (p.drop (k - l.bytes.length)))) := by simp [go_sem]
  have z3 : ((w2.alloc (.cells #[.string (bs (p.take (k - l.bytes.length))), .int .i64 (lf (p.take (k - l.bytes.length)) : Nat)] 92)).alloc (.cells #[.string (bs (p.drop (k - l.bytes.length))), .int .i64 (lf (p.drop (k - l.bytes.length)) : Nat)] 92)).cell? ⟨w2.heap.size + 1, 1, none⟩ = some (.int .i64 (lf (p.drop (k - l.bytes.length)) : Nat)) := by simp [go_sem]
  have hz : ((w2.alloc (.cells #[.string (bs (p.take (k - l.bytes.length))), .int .i64 (lf (p.take (k - l.bytes.length)) : Nat)] 92)).alloc (.cells #[.string (bs (p.drop (k - l.bytes.length))), .int .i64 (lf (p.drop (k - l.bytes.length)) : Nat)] 92)).heap.size = w2.heap.size + 2 := by rw [World.size_alloc, World.size_alloc]
  have hB : Below w2.heap.size w2 ((w2.alloc (.cells #[.string (bs (p.take (k - l.bytes.length))), .int .i64 (lf (p.take (k - l.bytes.length)) : Nat)] 92)).alloc (.cells #[.string (bs (p.drop (k - l.bytes.length))), .int .i64 (lf (p.drop (k - l.bytes.length)) : Nat)] 92)) := ((Below.refl _ w2).alloc (Nat.le_refl _) _).alloc (by rw [World.size_alloc]; exact Nat.le_succ _) _
  go_wp2_with fail
  generalize ((w2.alloc (.cells #[.string (bs (p.take (k - l.bytes.length))), .int .i64 (lf (p.take (k - l.bytes.length)) : Nat)] 92)).alloc (.cells #[.string (bs (p.drop (k - l.bytes.length))), .int .i64 (lf (p.drop (k - l.bytes.length)) : Nat)] 92)) = W at *
  have F0 := (hB.cell (p := ⟨b, 0, none⟩) hb2).trans E0
  have F1 := (hB.cell (p := ⟨b, 1, none⟩) hb2).trans E1
  have hL3 := NAt.below hB hL2
  have hR3 := NAt.below hB hR2
  have hb3 : b < W.heap.size := by omega
  have l0 : w2.heap.size < W.heap.size := by omega
  have l1 : w2.heap.size + 1 < W.heap.size := by omega
  have hN : ∀ w' : World, NAt w' .nil none := fun _ => rfl
  have hwW : w.heap.size ≤ W.heap.size := Nat.le_trans k1.size (Nat.le_trans k2.size (Nat.le_of_lt l0))
  go_region_held3 (fun w' => w'.cell? ⟨b, 0, none⟩ = some (.pointer L) ∧ w'.cell? ⟨b, 1, none⟩ = some (.pointer R) ∧ w'.cell? ⟨w2.heap.size, 0, none⟩ = some (.string (bs (p.take (k - l.bytes.length)))) ∧ w'.cell? ⟨w2.heap.size, 1, none⟩ = some (.int .i64 (lf (p.take (k - l.bytes.length)) : Nat)) ∧ w'.cell? ⟨w2.heap.size + 1, 0, none⟩ = some (.string (bs (p.drop (k - l.bytes.length)))) ∧ w'.cell? ⟨w2.heap.size + 1, 1, none⟩ = some (.int .i64 (lf (p.drop (k - l.bytes.length)) : Nat)))
    (first
      | exact ⟨F0, F1, z0, z1, z2, z3⟩
      | exact ⟨(q2.cell (Nat.lt_of_lt_of_le hb3 q1.size)).trans ((q1.cell hb3).trans F0), (q2.cell (Nat.lt_of_lt_of_le hb3 q1.size)).trans ((q1.cell hb3).trans F1), (q2.cell (Nat.lt_of_lt_of_le l0 q1.size)).trans ((q1.cell l0).trans z0), (q2.cell (Nat.lt_of_lt_of_le l0 q1.size)).trans ((q1.cell l0).trans z1), (q2.cell (Nat.lt_of_lt_of_le l1 q1.size)).trans ((q1.cell l1).trans z2), (q2.cell (Nat.lt_of_lt_of_le l1 q1.size)).trans ((q1.cell l1).trans z3)⟩
      | exact ⟨(q1.cell hb3).trans F0, (q1.cell hb3).trans F1, (q1.cell l0).trans z0, (q1.cell l0).trans z1, (q1.cell l1).trans z2, (q1.cell l1).trans z3⟩)
    (first
      | (go_at_call 51; (with_reducible refine (join_any (l := l) (p := p.take (k - l.bytes.length)) (r := .nil) _ f1 (NAt.below q1 hL3.drew) (hN _)).mono ?_); intro e v2 h2; unfold RetN at h2; obtain ⟨A1, rfl, n1, q2⟩ := h2; have m1 := n1; have m2 := NAt.below q2 n2)
      | (go_at_call 51; (with_reducible refine (join_any (l := .nil) (p := p.drop (k - l.bytes.length)) (r := r) _ f2 (hN _) (NAt.below q1 hR3.drew)).mono ?_); intro e v2 h2; unfold RetN at h2; obtain ⟨A2, rfl, n2, q2⟩ := h2; have m1 := NAt.below q2 n1; have m2 := n2)
      | (go_at_call 51; (with_reducible refine (join_any (l := l) (p := p.take (k - l.bytes.length)) (r := .nil) _ f1 hL3.drew (hN _)).mono ?_); intro e v1 h1; unfold RetN at h1; obtain ⟨A1, rfl, n1, q1⟩ := h1)
      | (go_at_call 51; (with_reducible refine (join_any (l := .nil) (p := p.drop (k - l.bytes.length)) (r := r) _ f2 (hN _) hR3.drew).mono ?_); intro e v1 h1; unfold RetN at h1; obtain ⟨A2, rfl, n2, q1⟩ := h1))
  all_goals
    go_wp2
    refine bodyPost_ret (results_tmp2 rfl _ _ _) rfl ?_
    exact ⟨A1, A2, rfl, m1, m2, ((((k1.trans (k2.mono k1.size)).trans (hB.mono (Nat.le_trans k1.size k2.size))).drew).trans (q1.mono hwW)).trans (q2.mono (Nat.le_trans hwW q1.size))⟩
theorem split_any (t : Tr) : ∀ (k : Nat) (A : Option Addr) (w : World), Fine t → t.pcs + 1 ≤ 200000 → k ≤ 200000 → NAt w t A → Calls Try.prog 43 #[.pointer A, .int .i64 (k : Nat)] w (RetNN (splitT t k).1 (splitT t k).2 w) := by
  induction t with
  | nil =>
    intro k A w _ _ _ h
    obtain rfl : A = none := h
    exact split_nil k w
  | node l p r il ir =>
    intro k A w hf hf1 hk9 h
    have g1 : l.pcs + 1 ≤ 200000 := by simp only [Tr.pcs] at hf1; omega
    have g2 : r.pcs + 1 ≤ 200000 := by simp only [Tr.pcs] at hf1; omega
    by_cases h1 : k ≤ l.bytes.length
    · rw [show splitT (.node l p r) k = ((splitT l k).1, joinT (splitT l k).2 p r) by rw [splitT, if_pos h1]]
      exact split_l k w hf hf1 hk9 h h1 (fun L w' h' => il k L w' hf.left g1 hk9 h')
    · by_cases h2 : l.bytes.length + p.length ≤ k
      · rw [show splitT (.node l p r) k = (joinT l p (splitT r (k - (l.bytes.length + p.length))).1, (splitT r (k - (l.bytes.length + p.length))).2) by rw [splitT, if_neg h1, if_pos h2]]
        exact split_r k w hf hf1 hk9 h h1 h2 (fun R w' h' => ir _ R w' hf.right g2 (by omega) h')
      · rw [show splitT (.node l p r) k = (joinT l (p.take (k - l.bytes.length)) .nil, joinT .nil (p.drop (k - l.bytes.length)) r) by rw [splitT, if_neg h1, if_neg h2]]
        exact split_m k w hf hf1 hk9 h h1 h2
end Go.Proofs.Ytonplacldckbgaa
