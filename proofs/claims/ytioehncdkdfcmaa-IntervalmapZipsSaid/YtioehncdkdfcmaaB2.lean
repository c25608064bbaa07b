/- Layer 5: slices.Replace: up to the end, with room. -/
import Derived.Test.YtioehncdkdfcmaaB1
namespace Go.Proofs.Ytioehncdkdfcmaa
open Go.RowKit Go.Lib

set_option maxRecDepth 100000 in
set_option maxHeartbeats 8000000 in
theorem rep_tail_room (base g n cap i m vb cJ : Nat) (R J : List Rn) (cur : List Value) (hR : R.length = n) (hi : i < n) (_ : n ≤ 2000000) (hJ : J.length = m) (hm : m ≤ 2000000) (hroom : i + m ≤ cap) (hnc : n ≤ cap) (hcm : cap ≤ maxLen) (hb : base ≤ g) (hsz : cur.length = cap * 3) (htk : cur.take (n * 3) = rowR R)
    (w : World) (hg : w.heap[g]? = some (.cells cur.toArray 34 (0, 0))) (hJc : ∀ j u, (rowR J)[j]? = some u → w.cell? ⟨vb, j, none⟩ = some u) :
    Calls Try.prog 52 #[.slice (some ⟨g, 0, none⟩) n cap, .int .i64 i, .int .i64 n, .slice (some ⟨vb, 0, none⟩) m cJ] w (OwnX base g (R.take i ++ J) w) := by
  have hcm' := hcm
  unfold maxLen at hcm'
  obtain ⟨i0, hi0, hz0, hz1, hz2⟩ := info_parts info34
  have hJl : (rowR J).length = m * 3 := by rw [rowR_len, hJ]
  have htl : cur.take (i * 3) = rowR (R.take i) := by
    have := congrArg (List.take (i * 3)) htk
    rw [List.take_take, Nat.min_eq_left (by omega), rowR_take] at this
    exact this
  obtain ⟨c1, hc1⟩ : ∃ c1, c1 = rowR (R.take i ++ J) ++ cur.drop ((i + m) * 3) := ⟨_, rfl⟩
  have hll : (R.take i ++ J).length = i + m := by rw [List.length_append, List.length_take, hJ]; omega
  have hc1l : c1.length = cap * 3 := by rw [hc1, List.length_append, rowR_len, hll, List.length_drop, hsz]; omega
  have hap : ∀ ty, (Builtin.append_ #[31, 31] ty #[.slice (some ⟨g, 0, none⟩) i cap, .slice (some ⟨vb, 0, none⟩) m cJ]).run Try.prog w = .ok (.slice (some ⟨g, 0, none⟩) (i + m) cap) (w.setRow g c1.toArray) := fun ty => by
    have := run_append_room (P := Try.prog) (w := w) 31 ty 34 i0 Try.underlying31 hi0 g i cap cur.toArray hg ⟨vb, 0, none⟩ m cJ (rowR J) (by rw [hJl, hz1]) (fun j u hj => by rw [Addr.add_lit, Nat.zero_add]; exact hJc j u hj) (rowR_one J) hroom (by rw [hz1, hJl]; simp [hsz]; omega)
    rw [this, hz1, hJl, htl, hc1, rowR_append, show i * 3 + m * 3 = (i + m) * 3 by omega]
  have hg1 := setRow_heap w g _ c1.toArray 34 _ hg
  have B1 : Below base w (w.setRow g c1.toArray) := below_setRow (Below.refl _ w) hb _
  have K1 : Kp g w (w.setRow g c1.toArray) := kp_set (Kp.refl g w) _
  have HC1 := Go.Lib.hid hc1
  have HC1L := Go.Lib.hid hc1l
  have HLL := Go.Lib.hid hll
  have HSZ := Go.Lib.hid hsz
  have hin : i ≤ n := by omega
  have hz2' : ¬ ((i : Int) = (n : Int)) := by omega
  have hic : i ≤ cap := by omega
  by_cases hlt : i + m < n
  · obtain ⟨w2, hcl, hw2⟩ := run_clear3 (w.setRow g c1.toArray) g ((i + m) * 3) (n - (i + m)) (cap - (i + m)) ⟨g, (i + m) * 3, none⟩ c1 (.inr rfl) hg1 (by rw [hc1l]; omega)
    have HW2 := Go.Lib.hid hw2
    have hlt' : (i : Int) + (m : Int) < (n : Int) := by omega
    have hmc : ¬ (cap = i + m) := by omega
    have hmn : i + m ≤ n := by omega
    have hmc2 : i + m ≤ cap := by omega
    clear hw2 hg1 hg hJc htl htk hJl hJ hR hc1 hc1l hll hsz hz0 hz2 hi0 hz1
    go_enter Try.func52, Try.ntmps52
    go_wp2_with (at_builtin; refine Lib.wpList_append_run _ rfl _ _ _ _ rfl _ _ rfl rfl _ _ (hap _) ?_)
    go_ret
    obtain ⟨⟨cur', h1, h2, h3⟩, h4, h5⟩ := HW2.out
    refine ⟨⟨some ⟨g, 0, none⟩, i + m, cap, rfl, ?_, HLL.out, h4 base w hb B1⟩, h5 w K1, whr_at (.inl rfl)⟩
    refine own_row3 (rest := cur'.drop ((i + m) * 3)) HLL.out (by omega) hcm hb (by rw [List.length_drop, h2, HC1L.out]; omega) ?_
    have e : rowR (List.take i R ++ J) ++ cur'.drop ((i + m) * 3) = cur' := by
      have e1 : c1.take ((i + m) * 3) = rowR (List.take i R ++ J) := by rw [HC1.out]; exact List.take_left' (by rw [rowR_len, HLL.out])
      rw [← e1, ← h3, List.take_append_drop]
    rw [e]; exact h1
  · have HG1 := Go.Lib.hid hg1
    have hlt' : ¬ ((i : Int) + (m : Int) < (n : Int)) := by omega
    clear hg1 hg hJc htl htk hJl hJ hR hc1 hc1l hll hsz hz0 hz2 hi0 hz1
    go_enter Try.func52, Try.ntmps52
    go_wp2_with (at_builtin; refine Lib.wpList_append_run _ rfl _ _ _ _ rfl _ _ rfl rfl _ _ (hap _) ?_)
    go_ret
    refine ⟨⟨some ⟨g, 0, none⟩, i + m, cap, rfl, ?_, HLL.out, B1⟩, K1, whr_at (.inl rfl)⟩
    refine own_row3 (rest := cur.drop ((i + m) * 3)) HLL.out (by omega) hcm hb (by rw [List.length_drop, HSZ.out]; omega) ?_
    rw [← HC1.out]; exact HG1.out
set_option maxRecDepth 100000 in
set_option maxHeartbeats 8000000 in
/-- Nothing new. -/
theorem rep_tail_none (base g n cap i : Nat) (R : List Rn) (cur : List Value) (hR : R.length = n) (hi : i < n) (_ : n ≤ 2000000) (hnc : n ≤ cap) (hcm : cap ≤ maxLen) (hb : base ≤ g) (hsz : cur.length = cap * 3) (htk : cur.take (n * 3) = rowR R)
    (w : World) (hg : w.heap[g]? = some (.cells cur.toArray 34 (0, 0))) :
    Calls Try.prog 52 #[.slice (some ⟨g, 0, none⟩) n cap, .int .i64 i, .int .i64 n, .slice none 0 0] w (OwnX base g (R.take i) w) := by
  have hcm' := hcm
  unfold maxLen at hcm'
  obtain ⟨i0, hi0, hz0, hz1, hz2⟩ := info_parts info34
  have htl : cur.take (i * 3) = rowR (R.take i) := by
    have := congrArg (List.take (i * 3)) htk
    rw [List.take_take, Nat.min_eq_left (by omega), rowR_take] at this
    exact this
  have hll : (R.take i).length = i := by rw [List.length_take]; omega
  have hcur : cur = rowR (R.take i) ++ cur.drop (i * 3) := by rw [← htl, List.take_append_drop]
  have hown : w.ownsRow base 34 3 (.slice (some ⟨g, 0, none⟩) i cap) i (rowR (R.take i)) := own_row3 (rest := cur.drop (i * 3)) hll (by omega) hcm hb (by rw [List.length_drop, hsz]; omega) (by rw [← hcur]; exact hg)
  obtain ⟨w2, hcl, hw2⟩ := run_clear3 w g (i * 3) (n - i) (cap - i) ⟨g, i * 3, none⟩ cur (.inr rfl) hg (by rw [hsz]; omega)
  have HW2 := Go.Lib.hid hw2
  have HLL := Go.Lib.hid hll
  have HSZ := Go.Lib.hid hsz
  have HTL := Go.Lib.hid htl
  have hin : i ≤ n := by omega
  have hz2' : ¬ ((i : Int) = (n : Int)) := by omega
  have hic : i ≤ cap := by omega
  have hlt' : (i : Int) < (n : Int) := by omega
  have hmc : ¬ (cap = i) := by omega
  clear hw2 hg htl htk hR hll hsz hz0 hz2 hcur hz1
  go_enter Try.func52, Try.ntmps52
  go_wp2_with (at_builtin; refine wpList_append_own_none rfl _ _ 31 rfl base 34 i0 3 Try.underlying31 hi0 _ _ _ rfl hown rfl ?_)
  go_ret
  obtain ⟨⟨cur', h1, h2, h3⟩, h4, h5⟩ := HW2.out
  refine ⟨⟨some ⟨g, 0, none⟩, i, cap, rfl, ?_, HLL.out, h4 base w hb (Below.refl _ w)⟩, h5 w (Kp.refl g w), whr_at (.inl rfl)⟩
  refine own_row3 (rest := cur'.drop (i * 3)) HLL.out (by omega) hcm hb (by rw [List.length_drop, h2, HSZ.out]; omega) ?_
  have e : rowR (List.take i R) ++ cur'.drop (i * 3) = cur' := by
    rw [← HTL.out, ← h3, List.take_append_drop]
  rw [e]; exact h1
set_option maxRecDepth 100000 in
set_option maxHeartbeats 8000000 in
/-- No room. -/
theorem rep_tail_grow (base g n cap i m vb cJ : Nat) (R J : List Rn) (hR : R.length = n) (hi : i < n) (hn : n ≤ 2000000) (hJ : J.length = m) (hm : m ≤ 2000000) (hroom : cap < i + m) (hnc : n ≤ cap) (_ : cap ≤ maxLen)
    (w : World) (hbw : base ≤ w.heap.size) (hown : w.ownsRow base 34 3 (.slice (some ⟨g, 0, none⟩) i cap) i (rowR (R.take i))) (hJc : ∀ j u, (rowR J)[j]? = some u → w.cell? ⟨vb, j, none⟩ = some u) :
    Calls Try.prog 52 #[.slice (some ⟨g, 0, none⟩) n cap, .int .i64 i, .int .i64 n, .slice (some ⟨vb, 0, none⟩) m cJ] w (OwnX base g (R.take i ++ J) w) := by
  obtain ⟨i0, hi0, hz0, hz1, hz2⟩ := info_parts info34
  have HJL := Go.Lib.hid ((rowR_len J).trans (by rw [hJ]))
  have HJC := Go.Lib.hid hJc
  have HLL : Hid ((R.take i ++ J).length = i + m) := Go.Lib.hid (by rw [List.length_append, List.length_take, hJ]; omega)
  have hin : i ≤ n := by omega
  have hz2' : ¬ ((i : Int) = (n : Int)) := by omega
  have hic : i ≤ cap := by omega
  have hlt' : ¬ ((i : Int) + (m : Int) < (n : Int)) := by omega
  clear hJc hR hJ
  go_enter Try.func52, Try.ntmps52
  go_wp2_with (at_builtin; refine wpList_append_own_at _ rfl _ _ 31 rfl base 34 i0 (.agg #[.int .i64 0, .int .i64 0, .int .i64 0]) 3 24 Try.underlying31 hi0 hz0 hz1 hz2 rfl (by decide) _ _ _ rfl hown ⟨vb, 0, none⟩ m cJ (rowR J) rfl HJL.out (fun j u hj => by rw [Addr.add_lit, Nat.zero_add]; exact HJC.out j u hj) (rowR_one J) (by unfold maxLen; omega) (by omega) hbw ?_; intro v1 w1 hown1 hgrow1 _ hat1; obtain ⟨B1, cb1, rfl⟩ := own_form hown1)
  go_ret
  refine ⟨⟨B1, i + m, cb1, rfl, ?_, HLL.out, ((Below.refl _ w).mono hbw).grown hgrow1 hbw (fun j e => (hown.lt j e).1)⟩, kp_grown (Kp.refl g w) hgrow1 (fun k e => by injection e with e; exact e.symm), whr_own (fun k e => by injection e with e; exact e.symm) hat1⟩
  rw [rowR_append]; exact hown1
end Go.Proofs.Ytioehncdkdfcmaa
