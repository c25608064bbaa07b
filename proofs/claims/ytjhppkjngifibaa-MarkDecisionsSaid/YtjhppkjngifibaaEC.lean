/- Layer 23: slices.Delete of one property. -/
import Derived.Test.YtjhppkjngifibaaE6
namespace Go.Proofs.Ytjhppkjngifibaa
open Go.RowKit Go.Lib
set_option linter.unusedVariables false

theorem setCells_row (w : World) (g o : Nat) (cur vs : List Value) (t : TypeId) (hg : w.heap[g]? = some (.cells cur.toArray t (0, 0))) (hfit : o + vs.length ≤ cur.length) (h1 : ∀ v ∈ vs, v.oneCell' = true) :
    w.setCells g o vs = w.setRow g (cur.take o ++ vs ++ cur.drop (o + vs.length)).toArray := by
  have e1 := run_storeCells_at Try.prog g o t vs 0 cur.toArray w hg (by simpa using hfit) h1
  have e2 := run_storeCells_cells (P := Try.prog) g o vs 0 w (fun j hj => by simp [World.cell?, hg]; omega) (fun j hj => by simp [World.frozen?, hg]) h1
  rw [e2] at e1
  simpa using e1
theorem run_clearP (w : World) (ty : TypeId) (g o c : Nat) (cur : List Value) (t : TypeId) (hg : w.heap[g]? = some (.cells cur.toArray t (0, 0))) (hfit : o + 2 ≤ cur.length) :
    (Builtin.clear_ #[22] ty #[.slice (some ⟨g, o, none⟩) 1 c]).run Try.prog w = .ok (.tuple #[]) (w.setRow g (cur.take o ++ [Value.int .i64 0, Value.int .i64 0] ++ cur.drop (o + 2)).toArray) := by
  have e1 := run_storeCells_at Try.prog g o t [Value.int .i64 0, Value.int .i64 0] 0 cur.toArray w hg (by simpa using hfit) (fun u hu => by simp at hu; rcases hu with rfl | rfl <;> rfl)
  have hz := Try.zeroValue61 w
  have hzc : (Builtin.zeroCells (Value.agg #[.int .i64 0, .int .i64 0]).cells 1).toList = [Value.int .i64 0, Value.int .i64 0] := by kernel_rfl
  simp [Builtin.clear_, run_underlying Try.underlying22, hz, hzc, e1]
set_option maxRecDepth 100000 in
set_option maxHeartbeats 8000000 in
theorem deleteP_any (w : World) (base m i : Nat) (B : Option Addr) (cb : Nat) (l : List Pr) (hl : l.length = m + 1) (hi : i ≤ m) (hn : m ≤ 100000)
    (hown : w.ownsRow base 61 2 (.slice B (m + 1) cb) (m + 1) (rowP l)) :
    Calls Try.prog 113 #[.slice B (m + 1) cb, .int .i64 i, .int .i64 ((i : Int) + 1)] w (OwP base m (l.take i ++ l.drop (i + 1)) w) := by
  rcases hown.2 with ⟨hvv, h0⟩ | ⟨g, cap, cur, hvv, hgb, hg, hcap, hcm, hsz, htk⟩
  · omega
  injection hvv with h1 h2 h3
  clear h2
  subst h1 h3
  obtain ⟨cur⟩ := cur
  simp only [List.size_toArray] at hsz htk
  obtain ⟨i0, hi0, hz0, hz1, hz2⟩ := info_parts info61
  have hcm' := hcm
  unfold maxLen at hcm'
  have hLl : (rowP (l.take i)).length = i * 2 := by rw [rowP_len, List.length_take]; omega
  have hRl : (rowP (l.drop (i + 1))).length = (m - i) * 2 := by rw [rowP_len, List.length_drop, hl]; omega
  have hLR : rowP l = rowP (l.take (i + 1)) ++ rowP (l.drop (i + 1)) := by rw [← rowP_append, List.take_append_drop]
  have hTl : (rowP (l.take (i + 1))).length = (i + 1) * 2 := by rw [rowP_len, List.length_take]; omega
  have htl : cur.take (i * 2) = rowP (l.take i) := by
    have := congrArg (List.take (i * 2)) htk
    rw [List.take_take, Nat.min_eq_left (by omega)] at this
    rw [this]
    have e : rowP l = rowP (l.take i) ++ rowP (l.drop i) := by rw [← rowP_append, List.take_append_drop]
    rw [e, List.take_left' hLl]
  have hcell : ∀ j u, (rowP (l.drop (i + 1)))[j]? = some u → w.cell? ⟨g, (i + 1) * 2 + j, none⟩ = some u := fun j u hj => by
    have h1 : j < (m - i) * 2 := by rw [← hRl]; exact (List.getElem?_eq_some_iff.1 hj).1
    have h2 : (cur.take ((m + 1) * 2))[(i + 1) * 2 + j]? = some u := by
      rw [htk, hLR, List.getElem?_append_right (by omega), hTl, Nat.add_sub_cancel_left]; exact hj
    rw [List.getElem?_take, if_pos (by omega)] at h2
    simp [World.cell?, hg, h2]
  have hres : rowP (l.take i ++ l.drop (i + 1)) = rowP (l.take i) ++ rowP (l.drop (i + 1)) := rowP_append _ _
  generalize hR : rowP (l.drop (i + 1)) = R at hRl hcell hres
  have hR1 : ∀ u ∈ R, u.oneCell' = true := by rw [← hR]; exact rowP_one _
  obtain ⟨A, hA, hsrc⟩ : ∃ A : Addr, (if cb = i + 1 then (some ⟨g, 0, none⟩ : Option Addr) else some ⟨g, (i + 1) * 2, none⟩) = some A ∧ Hid (∀ j u, R[j]? = some u → w.drew.cell? (A.add j) = some u) := by
    by_cases h : cb = i + 1
    · refine ⟨⟨g, 0, none⟩, by simp [h], fun j u hu => ?_⟩
      have h0 : R.length = 0 := by rw [hRl]; omega
      rw [List.length_eq_zero_iff.1 h0] at hu
      simp at hu
    · refine ⟨⟨g, (i + 1) * 2, none⟩, by simp [h], fun j u hu => ?_⟩
      rw [Addr.add_lit]
      exact hcell j u hu
  obtain ⟨c1, hc1⟩ : ∃ c1, c1 = cur.take (i * 2) ++ R ++ cur.drop (i * 2 + R.length) := ⟨_, rfl⟩
  have hc1l : c1.length = cb * 2 := by rw [hc1]; simp only [List.length_append, List.length_take, List.length_drop, hsz, hRl]; omega
  have hset : w.drew.setCells g (0 + i * 2) R = w.drew.setRow g c1.toArray := by
    rw [Nat.zero_add, setCells_row w.drew g (i * 2) cur R 61 hg (by rw [hRl, hsz]; omega) hR1, hc1]
  have hg1 : (w.drew.setRow g c1.toArray).heap[g]? = some (.cells c1.toArray 61 (0, 0)) := setRow_heap w.drew g _ _ 61 _ hg
  have hcl : ∀ ty, (Builtin.clear_ #[22] ty #[.slice (some ⟨g, m * 2, none⟩) 1 (cb - m)]).run Try.prog (w.drew.setRow g c1.toArray) = .ok (.tuple #[]) ((w.drew.setRow g c1.toArray).setRow g (c1.take (m * 2) ++ [Value.int .i64 0, Value.int .i64 0] ++ c1.drop (m * 2 + 2)).toArray) := fun ty =>
    run_clearP _ ty g (m * 2) (cb - m) c1 61 hg1 (by rw [hc1l]; omega)
  have htk1 : c1.take (m * 2) = rowP (l.take i ++ l.drop (i + 1)) := by
    rw [hres, hc1, htl]
    exact List.take_left' (by rw [List.length_append, hLl, hRl]; omega)
  have s1 : Hid (R.length = (m - i) * 2) := Go.Lib.hid hRl
  have s3 : Hid (∀ j, j < R.length → (w.drew.cell? ⟨g, 0 + i * 2 + j, none⟩).isSome = true ∧ w.drew.frozen? ⟨g, 0 + i * 2 + j, none⟩ = false) := by
    intro j hj
    rw [hRl] at hj
    constructor
    · show (w.cell? ⟨g, 0 + i * 2 + j, none⟩).isSome = true
      simp [World.cell?, hg, show i * 2 + j < cur.length by omega]
    · show w.frozen? ⟨g, 0 + i * 2 + j, none⟩ = false
      simp [World.frozen?, hg]
  have HSET := Go.Lib.hid hset
  have HTK := Go.Lib.hid htk1
  have HC1 := Go.Lib.hid hc1l
  have HR1 := Go.Lib.hid hR1
  have HG1 := Go.Lib.hid hg1
  have HL := Go.Lib.hid hl
  have hw1 : IntKind.i64.wrap ((i : Int) + 1) = (i : Int) + 1 := by rw [IntKind.wrap_i64]; omega
  have hic : i ≤ cb := by omega
  have hb1 : (0 : Int) ≤ (i : Int) + 1 := by omega
  have hjc : i + 1 ≤ cb := by omega
  have him : i + 1 ≤ m + 1 := by omega
  have hz2' : ¬ ((i : Int) = (i : Int) + 1) := by omega
  have hcm2 : ¬ (cb = m) := by omega
  clear hset htk1 hc1l hR1 hg1 hl hRl hLR hTl htl hcell hres hR hc1 htk hsz hLl hz0 hz2
  go_enter Try.func113, Try.ntmps113
  go_wp2_with fail
  go_region_law (refine step_append_room rfl (.tmp 22) (.tmp 25) 22 rfl 61 i0 2 Try.underlying22 hi0 hz1 g 0 i cb (by simp [Act.eval, Act.put]) A (m - i) (cb - (i + 1)) R (by simp [Act.eval, Act.put]) s1.out hsrc.out HR1.out (by omega) s3.out ?_; rw [HSET.out, show i + (m - i) = m by omega])
  go_wp2
  go_ret
  have hlen : (rowP (l.take i ++ l.drop (i + 1))).length = m * 2 := by
    rw [rowP_len, List.length_append, List.length_take, List.length_drop, HL.out]
    have : min i (m + 1) = i := Nat.min_eq_left (by omega)
    omega
  refine ⟨some ⟨g, 0, none⟩, cb, rfl, ⟨hlen, .inr ⟨g, cb, _, rfl, hgb, setRow_heap _ g _ _ 61 _ HG1.out, by omega, hcm, ?_, ?_⟩⟩, below_setRow (below_setRow (bdrew1 (Below.refl _ w)) hgb _) hgb _⟩
  · simp only [List.size_toArray, List.length_append, List.length_cons, List.length_take, List.length_drop, HC1.out]
    omega
  · show (c1.take (m * 2) ++ _).take (m * 2) = _
    rw [List.take_left' (by rw [List.length_take, HC1.out]; omega), HTK.out]
end Go.Proofs.Ytjhppkjngifibaa
