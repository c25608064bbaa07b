/- Layer 5: slices.Replace: within, no room. -/
import Derived.Test.YtioehncdkdfcmaaB2
namespace Go.Proofs.Ytioehncdkdfcmaa
open Go.RowKit Go.Lib

theorem zero3_size (k : Nat) : (Builtin.zeroCells (Value.agg #[.int .i64 0, .int .i64 0, .int .i64 0]).cells k).size = k * 3 := by simp [Builtin.zeroCells, Value.cells]
theorem grow_facts (base g cap i j k m vb cJ : Nat) (R J : List Rn) (cur : List Value) (hR : R.length = j + k) (hij : i < j) (hk : 0 < k) (hn : j + k ≤ 2000000) (hJ : J.length = m) (hm0 : 0 < m) (hm : m ≤ 2000000) (hroom : cap < i + m + k) (htk : cur.take ((j + k) * 3) = rowR R)
    (w W0 : World) (hbw : base ≤ w.heap.size) (hWh : W0.heap = w.heap) (Bw : Below w.heap.size w W0) (hg : w.heap[g]? = some (.cells cur.toArray 34 (0, 0))) (hvb : vb < w.heap.size) (hJc : ∀ j u, (rowR J)[j]? = some u → w.cell? ⟨vb, j, none⟩ = some u) :
    ∃ G H W1 W2 W3, i + m + k ≤ G ∧ G ≤ maxLen ∧
      (∀ ty, (Builtin.append_ #[31, 3] ty #[.slice (some ⟨g, 0, none⟩) i cap, .int .i64 ((i : Int) + (m : Int) + (k : Int) - (i : Int))]).run Try.prog W0 = .ok (.slice (some ⟨H, 0, none⟩) (i + m + k) G) W1) ∧
      (∀ ty dc, (Builtin.copy_ #[31, 31] ty #[.slice (some ⟨H, i * 3, none⟩) (m + k) dc, .slice (some ⟨vb, 0, none⟩) m cJ]).run Try.prog W1 = .ok (goInt m) W2) ∧
      (∀ ty dc sc, (Builtin.copy_ #[31, 31] ty #[.slice (some ⟨H, (i + m) * 3, none⟩) k dc, .slice (some ⟨g, j * 3, none⟩) k sc]).run Try.prog W2.drew = .ok (goInt k) W3) ∧
      W3.ownsRow base 34 3 (.slice (some ⟨H, 0, none⟩) (i + m + k) G) (i + m + k) (rowR (R.take i ++ J ++ R.drop j)) ∧ Below base w W3 ∧ Kp g w W3 ∧ w.heap.size ≤ H := by
  obtain ⟨i0, hi0, hz0, hzs, hzb⟩ := info_parts info34
  have hgw : g < w.heap.size := (Array.getElem?_eq_some_iff.1 hg).1
  have hJl : (rowR J).length = m * 3 := by rw [rowR_len, hJ]
  have hLl : (rowR (R.take i)).length = i * 3 := by rw [rowR_len, List.length_take]; omega
  have hRl : (rowR (R.drop j)).length = k * 3 := by rw [rowR_len, List.length_drop, hR]; omega
  have hWc : ∀ p, W0.cell? p = w.cell? p := fun p => by unfold World.cell?; rw [hWh]
  have hcur : ∀ q u, (rowR R)[q]? = some u → w.cell? ⟨g, q, none⟩ = some u := fun q u hj => by
    rw [← htk] at hj
    rw [List.getElem?_take] at hj
    split at hj
    · simp [World.cell?, hg, hj]
    · cases hj
  have hcell : ∀ q u, (rowR (R.drop j))[q]? = some u → w.cell? ⟨g, j * 3 + q, none⟩ = some u := fun q u hj => hcur _ u (by rw [← rowR_drop, List.getElem?_drop] at hj; exact hj)
  have hold : (Builtin.firstCells i0.size i (.slice (some ⟨g, 0, none⟩) i cap)).run Try.prog W0.drew = .ok (rowR (R.take i)).toArray W0.drew := by
    rw [hzs]
    exact run_firstCells_some W0.drew 3 i ⟨g, 0, none⟩ i cap (rowR (R.take i)) (by rw [hLl]) (fun q u hj => by
      rw [Addr.add_lit, Nat.zero_add]
      refine (hWc _).trans ?_
      exact hcur q u (by rw [← rowR_take, List.getElem?_take] at hj; split at hj <;> first | exact hj | cases hj))
  obtain ⟨G, hG⟩ : ∃ G, G = grownCap W0 (i + m + k) cap 34 := ⟨_, rfl⟩
  have hGn : i + m + k ≤ G := by rw [hG]; exact grownCap_ge W0 _ _ _
  have hGm : G ≤ maxLen := by rw [hG]; exact grownCap_le_maxLen W0 (i + m + k) cap 34 (by unfold maxLen; omega)
  obtain ⟨ROW, hROW⟩ : ∃ ROW : List Value, ROW.toArray = (rowR (R.take i)).toArray ++ Builtin.zeroCells (Value.agg #[.int .i64 0, .int .i64 0, .int .i64 0]).cells (m + k) ++ Builtin.zeroCells (Value.agg #[.int .i64 0, .int .i64 0, .int .i64 0]).cells (G - (i + m + k)) := ⟨((rowR (R.take i)).toArray ++ Builtin.zeroCells (Value.agg #[.int .i64 0, .int .i64 0, .int .i64 0]).cells (m + k) ++ Builtin.zeroCells (Value.agg #[.int .i64 0, .int .i64 0, .int .i64 0]).cells (G - (i + m + k))).toList, by simp⟩
  have hrz : ∀ ty, (Builtin.append_ #[31, 3] ty #[.slice (some ⟨g, 0, none⟩) i cap, .int .i64 ((i : Int) + (m : Int) + (k : Int) - (i : Int))]).run Try.prog W0 = .ok (.slice (some ⟨W0.heap.size, 0, none⟩) (i + m + k) G) (W0.drew.alloc (.cells ROW.toArray 34)) := fun ty => by
    have h := Lib.run_append_grow_zeros W0 31 3 ty 34 i0 _ .i64 .i64 Try.underlying31 Try.underlying3 hi0 hz0 (some ⟨g, 0, none⟩) i cap (rowR (R.take i)) hold (m + k) (by omega) (by omega) (by omega) (by omega) (by rw [hzb]; omega) (by rw [hzb, show i + (m + k) = i + m + k by omega]; exact growslice_fits (by omega) (by omega))
    rw [show i + (m + k) = i + m + k by omega] at h
    rw [show (i : Int) + (m : Int) + (k : Int) - (i : Int) = ((m + k : Nat) : Int) by omega, hROW, hG]
    exact h
  have hRowL : ROW.length = G * 3 := by
    have := congrArg Array.size hROW
    simp only [List.size_toArray, Array.size_append, zero3_size, hLl] at this
    omega
  have hRowT : ROW.take (i * 3) = rowR (R.take i) := by
    have := congrArg Array.toList hROW
    simp only [Array.toList_append] at this
    rw [this, List.append_assoc, List.take_left' hLl]
  have hins := grow_cells ROW (rowR (R.take i)) (rowR J) (rowR (R.drop j)) (by rw [hLl]; exact hRowT)
  rw [hLl, hJl] at hins
  dsimp only at hins
  generalize hRR : rowR (R.drop j) = RR at hRl hcell hins
  have hR1 : ∀ u ∈ RR, u.oneCell' = true := by rw [← hRR]; exact rowR_one _
  obtain ⟨c1, hc1⟩ : ∃ c1, c1 = ROW.take (i * 3) ++ rowR J ++ ROW.drop (i * 3 + m * 3) := ⟨_, rfl⟩
  rw [← hc1] at hins
  have hc1l : c1.length = G * 3 := by rw [hc1]; simp only [List.length_append, List.length_take, List.length_drop, hRowL, hJl]; omega
  obtain ⟨H, hH⟩ : ∃ H, H = W0.heap.size := ⟨_, rfl⟩
  have hcpA : ∀ (W : World), W.heap[H]? = some (.cells ROW.toArray 34 (0, 0)) → (∀ q u, (rowR J)[q]? = some u → W.cell? ⟨vb, q, none⟩ = some u) → ∀ ty dc, (Builtin.copy_ #[31, 31] ty #[.slice (some ⟨H, i * 3, none⟩) (m + k) dc, .slice (some ⟨vb, 0, none⟩) m cJ]).run Try.prog W = .ok (goInt m) (W.setRow H c1.toArray) := fun W hW wJ ty dc => by
    have := run_copy3 W ty H (i * 3) (m + k) dc ⟨vb, 0, none⟩ m cJ m ROW 34 (rowR J) hW (by simp only [Nat.min_def]; split <;> omega) hJl
      (fun q u hj => by rw [Addr.add_lit, Nat.zero_add]; exact wJ q u hj) (by rw [hRowL, hJl]; omega) (rowR_one J)
    rw [this, hc1, hJl]
  have hcpB : ∀ (W : World), W.heap[H]? = some (.cells c1.toArray 34 (0, 0)) → (∀ q u, RR[q]? = some u → W.cell? ⟨g, j * 3 + q, none⟩ = some u) → ∀ ty dc sc, (Builtin.copy_ #[31, 31] ty #[.slice (some ⟨H, (i + m) * 3, none⟩) k dc, .slice (some ⟨g, j * 3, none⟩) k sc]).run Try.prog W = .ok (goInt k) (W.setRow H (c1.take (i * 3 + m * 3) ++ RR ++ c1.drop (i * 3 + m * 3 + RR.length)).toArray) := fun W hW hs ty dc sc => by
    have := run_copy3 W ty H ((i + m) * 3) k dc ⟨g, j * 3, none⟩ k sc k c1 34 RR hW (by simp only [Nat.min_def]; split <;> omega) hRl
      (fun q u hj => by rw [Addr.add_lit]; exact hs q u hj) (by rw [hRl, hc1l]; omega) hR1
    rw [this, show (i + m) * 3 = i * 3 + m * 3 by omega]
  rw [← hH] at hrz
  have hA0 : (W0.drew.alloc (.cells ROW.toArray 34)).heap[H]? = some (.cells ROW.toArray 34 (0, 0)) := by rw [hH]; exact World.alloc_heap_new W0.drew _
  have hHw : w.heap.size = H := by rw [hH, hWh]
  have Ba : Below w.heap.size w (W0.drew.alloc (.cells ROW.toArray 34)) := (bdrew1 Bw).alloc Bw.size _
  have Bb : Below w.heap.size w ((W0.drew.alloc (.cells ROW.toArray 34)).setRow H c1.toArray) := below_setRow Ba (by omega) _
  have hk0 : ∀ q u, (rowR J)[q]? = some u → (W0.drew.alloc (.cells ROW.toArray 34)).cell? ⟨vb, q, none⟩ = some u := fun q u hj => (Ba.cell (p := ⟨vb, q, none⟩) hvb).trans (hJc q u hj)
  have hB0 := setRow_heap (W0.drew.alloc (.cells ROW.toArray 34)) H _ c1.toArray 34 _ hA0
  have hB1 : ∀ q u, RR[q]? = some u → (((W0.drew.alloc (.cells ROW.toArray 34)).setRow H c1.toArray).drew).cell? ⟨g, j * 3 + q, none⟩ = some u := fun q u hj => ((bdrew1 Bb).cell (p := ⟨g, j * 3 + q, none⟩) hgw).trans (hcell q u hj)
  have hcA := hcpA _ hA0 hk0
  have hcB := hcpB (((W0.drew.alloc (.cells ROW.toArray 34)).setRow H c1.toArray).drew) hB0 hB1
  refine ⟨G, H, _, _, _, hGn, hGm, hrz, hcA, hcB, ?_, (below_setRow (bdrew1 Bb) (by omega) _).mono hbw, kp_below (below_setRow (bdrew1 Bb) (by omega) _), Nat.le_of_eq hHw⟩
  refine own_row3 (rest := ROW.drop ((i + m + k) * 3)) (by simp only [List.length_append, List.length_take, List.length_drop, hR, hJ]; omega) hGn hGm (by omega) (by rw [List.length_drop, hRowL]; omega) ?_
  have hg2 := setRow_heap (((W0.drew.alloc (.cells ROW.toArray 34)).setRow H c1.toArray).drew) H _ (c1.take (i * 3 + m * 3) ++ RR ++ c1.drop (i * 3 + m * 3 + RR.length)).toArray 34 _ hB0
  have e3 : rowR (R.take i ++ J ++ R.drop j) = rowR (R.take i) ++ rowR J ++ RR := by rw [rowR_append, rowR_append, hRR]
  rw [hins, show i * 3 + m * 3 + RR.length = (i + m + k) * 3 by rw [hRl]; omega] at hg2 ⊢
  refine (hg2.trans ?_)
  rw [e3]
set_option maxRecDepth 100000 in
set_option maxHeartbeats 8000000 in
theorem rep_grow (base g cap i j k m vb cJ : Nat) (R J : List Rn) (cur : List Value) (hR : R.length = j + k) (hij : i < j) (hk : 0 < k) (hn : j + k ≤ 2000000) (hJ : J.length = m) (hm0 : 0 < m) (hm : m ≤ 2000000) (hroom : cap < i + m + k) (hnc : j + k ≤ cap) (htk : cur.take ((j + k) * 3) = rowR R)
    (w : World) (hbw : base ≤ w.heap.size) (hg : w.heap[g]? = some (.cells cur.toArray 34 (0, 0))) (hvb : vb < w.heap.size) (hJc : ∀ j u, (rowR J)[j]? = some u → w.cell? ⟨vb, j, none⟩ = some u) :
    Calls Try.prog 52 #[.slice (some ⟨g, 0, none⟩) (j + k) cap, .int .i64 i, .int .i64 j, .slice (some ⟨vb, 0, none⟩) m cJ] w (OwnX base g (R.take i ++ J ++ R.drop j) w) := by
  have HF := Go.Lib.hid (fun q => grow_facts base g cap i j k m vb cJ R J cur hR hij hk hn hJ hm0 hm hroom htk w (w.drewN q) hbw rfl (bdrew (Below.refl _ w) q) hg hvb hJc)
  have HL : Hid ((R.take i ++ J ++ R.drop j).length = i + m + k) := Go.Lib.hid (by simp only [List.length_append, List.length_take, List.length_drop, hR, hJ]; omega)
  have hw1 : IntKind.i64.wrap ((i : Int) + (m : Int)) = (i : Int) + (m : Int) := by rw [IntKind.wrap_i64]; omega
  have hw2 : IntKind.i64.wrap ((i : Int) + (m : Int) + (k : Int)) = (i : Int) + (m : Int) + (k : Int) := by rw [IntKind.wrap_i64]; omega
  have hb1 : (0 : Int) ≤ (i : Int) + (m : Int) := by omega
  have htn : ((i : Int) + (m : Int)).toNat = i + m := by omega
  have hz2 : ¬ ((i : Int) = (j : Int)) := by omega
  have hz3 : ¬ ((j : Int) = (j : Int) + (k : Int)) := by omega
  have hz4 : (cap : Int) < (i : Int) + (m : Int) + (k : Int) := by omega
  have hijl : i ≤ j := by omega
  have hic : i ≤ cap := by omega
  have hjc : j ≤ cap := by omega
  have hij2 : i ≤ j + k := by omega
  have hjk : j ≤ j + k := by omega
  have hci : ¬ (cap = i) := by omega
  have hcj : ¬ (cap = j) := by omega
  have him : i ≤ i + m + k := by omega
  have hjkI : (j : Int) ≤ (j : Int) + (k : Int) := by omega
  have himI : (i : Int) + (m : Int) ≤ (i : Int) + (m : Int) + (k : Int) := by omega
  have himk : i + m ≤ i + m + k := by omega
  have hmk : i + m + k - i = m + k := by omega
  clear hg hJc htk hR hJ
  go_enter Try.func52, Try.ntmps52
  go_wp2_with fail
  go_quiet (fail)
  obtain ⟨G, H, W1, W2, W3, hGn, hGm, hrz, hcA, hcB, hown, hbel, hkp, hH⟩ := HF.out nq
  have HOWN := Go.Lib.hid hown
  have HBEL := Go.Lib.hid hbel
  have HKP := Go.Lib.hid hkp
  have HH := Go.Lib.hid hH
  have HGM := Go.Lib.hid hGm
  unfold maxLen at hGm
  have hGi : ¬ (G = i) := by omega
  have hGi1 : ¬ (G = i + m) := by omega
  have hGi2 : i ≤ G := by omega
  have hGi3 : i + m ≤ G := by omega
  clear HF hown hbel hkp hH
  go_wp2_with (first
    | (at_builtin; refine Lib.wpList_append_run _ rfl _ _ _ _ rfl _ _ rfl rfl _ _ (hrz _) ?_)
    | (at_builtin; refine wpList_copy_runI _ rfl _ _ 31 31 rfl _ _ rfl rfl (hcA _ _) ?_))
  go_region_law (refine step_copy_runI rfl _ _ 31 31 rfl (.slice (some ⟨H, (i + m) * 3, none⟩) k (G - (i + m))) (.slice (some ⟨g, j * 3, none⟩) k (cap - j)) (by simp [Act.eval, Act.put]) (by simp [Act.eval, Act.put]) (hcB _ _ _) ?_)
  go_wp2
  go_ret
  exact ⟨⟨some ⟨H, 0, none⟩, _, G, rfl, HOWN.out, HL.out, HBEL.out⟩, HKP.out, whr_at (.inr HH.out)⟩
end Go.Proofs.Ytioehncdkdfcmaa
