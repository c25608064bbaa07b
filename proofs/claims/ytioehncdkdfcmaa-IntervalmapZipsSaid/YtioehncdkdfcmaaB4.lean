/- Layer 5: slices.Replace: within, with room. -/
import Derived.Test.YtioehncdkdfcmaaB3
namespace Go.Proofs.Ytioehncdkdfcmaa
open Go.RowKit Go.Lib

theorem fit_facts (base g cap i j k m vb cJ : Nat) (R J : List Rn) (cur : List Value) (hR : R.length = j + k) (hij : i + m ≤ j) (hJ : J.length = m) (hnc : j + k ≤ cap) (hcm : cap ≤ maxLen) (hb : base ≤ g) (hsz : cur.length = cap * 3) (htk : cur.take ((j + k) * 3) = rowR R)
    (w W0 : World) (hWh : W0.heap = w.heap) (Bw : Below base w W0) (hg : w.heap[g]? = some (.cells cur.toArray 34 (0, 0))) (hJc : ∀ j u, (rowR J)[j]? = some u → w.cell? ⟨vb, j, none⟩ = some u) (A : Addr) (hA : i + m = j ∨ A = ⟨g, (i + m + k) * 3, none⟩) :
    ∃ W2 W3 W4,
      (∀ ty dc, (Builtin.copy_ #[31, 31] ty #[.slice (some ⟨g, i * 3, none⟩) (m + k) dc, .slice (some ⟨vb, 0, none⟩) m cJ]).run Try.prog W0 = .ok (goInt m) W2) ∧
      (∀ ty dc sc, (Builtin.copy_ #[31, 31] ty #[.slice (some ⟨g, (i + m) * 3, none⟩) k dc, .slice (some ⟨g, j * 3, none⟩) k sc]).run Try.prog W2.drew = .ok (goInt k) W3) ∧
      (∀ ty, (Builtin.clear_ #[31] ty #[.slice (some A) (j + k - (i + m + k)) (cap - (i + m + k))]).run Try.prog W3 = .ok (.tuple #[]) W4) ∧
      W4.ownsRow base 34 3 (.slice (some ⟨g, 0, none⟩) (i + m + k) cap) (i + m + k) (rowR (R.take i ++ J ++ R.drop j)) ∧ Below base w W4 ∧ Kp g w W4 := by
  have hJl : (rowR J).length = m * 3 := by rw [rowR_len, hJ]
  have hLl : (rowR (R.take i)).length = i * 3 := by rw [rowR_len, List.length_take]; omega
  have hRl : (rowR (R.drop j)).length = k * 3 := by rw [rowR_len, List.length_drop, hR]; omega
  have hWc : ∀ p, W0.cell? p = w.cell? p := fun p => by unfold World.cell?; rw [hWh]
  have hcurd : ∀ q u, (rowR (R.drop j))[q]? = some u → cur[j * 3 + q]? = some u := fun q u hj => by
    rw [← rowR_drop, List.getElem?_drop, ← htk, List.getElem?_take] at hj
    split at hj <;> first | exact hj | cases hj
  have hRowT : cur.take (i * 3) = rowR (R.take i) := by
    have := congrArg (List.take (i * 3)) htk
    rw [List.take_take, Nat.min_eq_left (by omega), rowR_take] at this
    exact this
  have hins := grow_cells cur (rowR (R.take i)) (rowR J) (rowR (R.drop j)) (by rw [hLl]; exact hRowT)
  rw [hLl, hJl] at hins
  dsimp only at hins
  generalize hRR : rowR (R.drop j) = RR at hRl hcurd hins
  have hR1 : ∀ u ∈ RR, u.oneCell' = true := by rw [← hRR]; exact rowR_one _
  obtain ⟨c1, hc1⟩ : ∃ c1, c1 = cur.take (i * 3) ++ rowR J ++ cur.drop (i * 3 + m * 3) := ⟨_, rfl⟩
  rw [← hc1] at hins
  have hc1l : c1.length = cap * 3 := by rw [hc1]; simp only [List.length_append, List.length_take, List.length_drop, hsz, hJl]; omega
  have hc1d : ∀ q u, RR[q]? = some u → c1[j * 3 + q]? = some u := fun q u hj => by
    rw [← hcurd q u hj, hc1, List.getElem?_append_right (by simp only [List.length_append, List.length_take, hsz, hJl]; omega), List.getElem?_drop]
    congr 1
    simp only [List.length_append, List.length_take, hsz, hJl]; omega
  have hg0 : W0.heap[g]? = some (.cells cur.toArray 34 (0, 0)) := by rw [hWh]; exact hg
  have hcA : ∀ ty dc, (Builtin.copy_ #[31, 31] ty #[.slice (some ⟨g, i * 3, none⟩) (m + k) dc, .slice (some ⟨vb, 0, none⟩) m cJ]).run Try.prog W0 = .ok (goInt m) (W0.setRow g c1.toArray) := fun ty dc => by
    have := run_copy3 W0 ty g (i * 3) (m + k) dc ⟨vb, 0, none⟩ m cJ m cur 34 (rowR J) hg0 (by simp only [Nat.min_def]; split <;> omega) hJl
      (fun q u hj => by rw [Addr.add_lit, Nat.zero_add]; exact (hWc _).trans (hJc q u hj)) (by rw [hsz, hJl]; omega) (rowR_one J)
    rw [this, hc1, hJl]
  have hB0 := setRow_heap W0 g _ c1.toArray 34 _ hg0
  have hcB : ∀ ty dc sc, (Builtin.copy_ #[31, 31] ty #[.slice (some ⟨g, (i + m) * 3, none⟩) k dc, .slice (some ⟨g, j * 3, none⟩) k sc]).run Try.prog (W0.setRow g c1.toArray).drew = .ok (goInt k) ((W0.setRow g c1.toArray).drew.setRow g (c1.take (i * 3 + m * 3) ++ RR ++ c1.drop (i * 3 + m * 3 + RR.length)).toArray) := fun ty dc sc => by
    have := run_copy3 (W0.setRow g c1.toArray).drew ty g ((i + m) * 3) k dc ⟨g, j * 3, none⟩ k sc k c1 34 RR hB0 (by simp only [Nat.min_def]; split <;> omega) hRl
      (fun q u hj => by
        rw [Addr.add_lit]
        have e : (W0.setRow g c1.toArray).drew.heap[g]? = some (.cells c1.toArray 34 (0, 0)) := hB0
        simp [World.cell?, e, hc1d q u hj]) (by rw [hRl, hc1l]; omega) hR1
    rw [this, show (i + m) * 3 = i * 3 + m * 3 by omega]
  have Bb : Below base w (W0.setRow g c1.toArray) := below_setRow Bw hb _
  have hg2 := setRow_heap (W0.setRow g c1.toArray).drew g _ (c1.take (i * 3 + m * 3) ++ RR ++ c1.drop (i * 3 + m * 3 + RR.length)).toArray 34 _ hB0
  have Bc : Below base w ((W0.setRow g c1.toArray).drew.setRow g (c1.take (i * 3 + m * 3) ++ RR ++ c1.drop (i * 3 + m * 3 + RR.length)).toArray) := below_setRow (bdrew1 Bb) hb _
  obtain ⟨c2, hc2⟩ : ∃ c2, c2 = c1.take (i * 3 + m * 3) ++ RR ++ c1.drop (i * 3 + m * 3 + RR.length) := ⟨_, rfl⟩
  rw [← hc2] at hg2 hcB Bc hins
  have hc2l : c2.length = cap * 3 := by rw [hc2]; simp only [List.length_append, List.length_take, List.length_drop, hc1l, hRl]; omega
  obtain ⟨W4, hcl, ⟨cur', h1, h2, h3⟩, h4, h5⟩ := run_clear3 _ g ((i + m + k) * 3) (j + k - (i + m + k)) (cap - (i + m + k)) A c2 (hA.imp (fun e => by omega) id) hg2 (by rw [hc2l]; omega)
  have K0 : Kp g w W0 := kp_heap (Kp.refl g w) hWh
  refine ⟨_, _, W4, hcA, hcB, hcl, ?_, h4 base w hb Bc, h5 w (kp_set (kp_heap (kp_set K0 _) rfl) _)⟩
  refine own_row3 (rest := cur'.drop ((i + m + k) * 3)) (by simp only [List.length_append, List.length_take, List.length_drop, hR, hJ]; omega) (by omega) hcm hb (by rw [List.length_drop, h2, hc2l]; omega) ?_
  have e3 : rowR (R.take i ++ J ++ R.drop j) = rowR (R.take i) ++ rowR J ++ RR := by rw [rowR_append, rowR_append, hRR]
  have e4 : rowR (R.take i ++ J ++ R.drop j) ++ cur'.drop ((i + m + k) * 3) = cur' := by
    have e5 : c2.take ((i + m + k) * 3) = rowR (R.take i ++ J ++ R.drop j) := by
      rw [hins, e3]; exact List.take_left' (by simp only [List.length_append, hLl, hJl, hRl]; omega)
    rw [← e5, ← h3, List.take_append_drop]
  rw [e4]; exact h1
theorem room_facts (base g cap i j k m vb cJ : Nat) (R J : List Rn) (cur : List Value) (hR : R.length = j + k) (hij : i ≤ j) (_ : j < i + m) (hJ : J.length = m) (hroom : i + m + k ≤ cap) (hcm : cap ≤ maxLen) (hb : base ≤ g) (hsz : cur.length = cap * 3) (htk : cur.take ((j + k) * 3) = rowR R)
    (w W0 : World) (hWh : W0.heap = w.heap) (Bw : Below base w W0) (hg : w.heap[g]? = some (.cells cur.toArray 34 (0, 0))) (hvb : vb ≠ g) (hJc : ∀ j u, (rowR J)[j]? = some u → w.cell? ⟨vb, j, none⟩ = some u) :
    ∃ W2 W3,
      (∀ ty dc sc, (Builtin.copy_ #[31, 31] ty #[.slice (some ⟨g, (i + m) * 3, none⟩) k dc, .slice (some ⟨g, j * 3, none⟩) k sc]).run Try.prog W0 = .ok (goInt k) W2) ∧
      (∀ ty dc, (Builtin.copy_ #[31, 31] ty #[.slice (some ⟨g, i * 3, none⟩) (m + k) dc, .slice (some ⟨vb, 0, none⟩) m cJ]).run Try.prog W2 = .ok (goInt m) W3) ∧
      W3.ownsRow base 34 3 (.slice (some ⟨g, 0, none⟩) (i + m + k) cap) (i + m + k) (rowR (R.take i ++ J ++ R.drop j)) ∧ Below base w W3 ∧ Kp g w W3 := by
  have hJl : (rowR J).length = m * 3 := by rw [rowR_len, hJ]
  have hLl : (rowR (R.take i)).length = i * 3 := by rw [rowR_len, List.length_take]; omega
  have hRl : (rowR (R.drop j)).length = k * 3 := by rw [rowR_len, List.length_drop, hR]; omega
  have hWc : ∀ p, W0.cell? p = w.cell? p := fun p => by unfold World.cell?; rw [hWh]
  have hcurd : ∀ q u, (rowR (R.drop j))[q]? = some u → cur[j * 3 + q]? = some u := fun q u hj => by
    rw [← rowR_drop, List.getElem?_drop, ← htk, List.getElem?_take] at hj
    split at hj <;> first | exact hj | cases hj
  have hRowT : cur.take (i * 3) = rowR (R.take i) := by
    have := congrArg (List.take (i * 3)) htk
    rw [List.take_take, Nat.min_eq_left (by omega), rowR_take] at this
    exact this
  have hins := ins_cells cur (rowR (R.take i)) (rowR J) (rowR (R.drop j)) (by rw [hLl]; exact hRowT) (by rw [hLl, hJl, hRl, hsz]; omega)
  rw [hLl, hJl] at hins
  dsimp only at hins
  generalize hRR : rowR (R.drop j) = RR at hRl hcurd hins
  have hR1 : ∀ u ∈ RR, u.oneCell' = true := by rw [← hRR]; exact rowR_one _
  obtain ⟨c1, hc1⟩ : ∃ c1, c1 = cur.take (i * 3 + m * 3) ++ RR ++ cur.drop (i * 3 + m * 3 + RR.length) := ⟨_, rfl⟩
  rw [← hc1] at hins
  have hc1l : c1.length = cap * 3 := by rw [hc1]; simp only [List.length_append, List.length_take, List.length_drop, hsz, hRl]; omega
  have hg0 : W0.heap[g]? = some (.cells cur.toArray 34 (0, 0)) := by rw [hWh]; exact hg
  have hcB : ∀ ty dc sc, (Builtin.copy_ #[31, 31] ty #[.slice (some ⟨g, (i + m) * 3, none⟩) k dc, .slice (some ⟨g, j * 3, none⟩) k sc]).run Try.prog W0 = .ok (goInt k) (W0.setRow g c1.toArray) := fun ty dc sc => by
    have := run_copy3 W0 ty g ((i + m) * 3) k dc ⟨g, j * 3, none⟩ k sc k cur 34 RR hg0 (by simp only [Nat.min_def]; split <;> omega) hRl
      (fun q u hj => by
        rw [Addr.add_lit]
        simp [World.cell?, hg0, hcurd q u hj]) (by rw [hRl, hsz]; omega) hR1
    rw [this, hc1, show (i + m) * 3 = i * 3 + m * 3 by omega]
  have hB0 := setRow_heap W0 g _ c1.toArray 34 _ hg0
  have hkJ : ∀ q u, (rowR J)[q]? = some u → (W0.setRow g c1.toArray).cell? ⟨vb, q, none⟩ = some u := fun q u hj => by
    have := (hWc _).trans (hJc q u hj)
    rw [← this]
    exact World.cell?_of_block (a := ⟨vb, q, none⟩) (setRow_other W0 g vb _ hvb)
  have hcA : ∀ ty dc, (Builtin.copy_ #[31, 31] ty #[.slice (some ⟨g, i * 3, none⟩) (m + k) dc, .slice (some ⟨vb, 0, none⟩) m cJ]).run Try.prog (W0.setRow g c1.toArray) = .ok (goInt m) ((W0.setRow g c1.toArray).setRow g (c1.take (i * 3) ++ rowR J ++ c1.drop (i * 3 + m * 3)).toArray) := fun ty dc => by
    have := run_copy3 (W0.setRow g c1.toArray) ty g (i * 3) (m + k) dc ⟨vb, 0, none⟩ m cJ m c1 34 (rowR J) hB0 (by simp only [Nat.min_def]; split <;> omega) hJl
      (fun q u hj => by rw [Addr.add_lit, Nat.zero_add]; exact hkJ q u hj) (by rw [hc1l, hJl]; omega) (rowR_one J)
    rw [this, hJl]
  have Bb : Below base w (W0.setRow g c1.toArray) := below_setRow Bw hb _
  have K0 : Kp g w W0 := kp_heap (Kp.refl g w) hWh
  refine ⟨_, _, hcB, hcA, ?_, below_setRow Bb hb _, kp_set (kp_set K0 _) _⟩
  refine own_row3 (rest := cur.drop ((i + m + k) * 3)) (by simp only [List.length_append, List.length_take, List.length_drop, hR, hJ]; omega) hroom hcm hb (by rw [List.length_drop, hsz]; omega) ?_
  have hg2 := setRow_heap (W0.setRow g c1.toArray) g _ (c1.take (i * 3) ++ rowR J ++ c1.drop (i * 3 + m * 3)).toArray 34 _ hB0
  have e3 : rowR (R.take i ++ J ++ R.drop j) = rowR (R.take i) ++ rowR J ++ RR := by rw [rowR_append, rowR_append, hRR]
  rw [hins, show i * 3 + m * 3 + RR.length = (i + m + k) * 3 by rw [hRl]; omega] at hg2 ⊢
  rw [e3]; exact hg2
end Go.Proofs.Ytioehncdkdfcmaa
