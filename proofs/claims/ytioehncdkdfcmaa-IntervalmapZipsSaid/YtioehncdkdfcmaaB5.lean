/- Layer 5: slices.Replace: within, with room: the walks. -/
import Derived.Test.YtioehncdkdfcmaaB4
import Derived.Lib.Builder
namespace Go.Proofs.Ytioehncdkdfcmaa
open Go.RowKit Go.Lib

set_option maxRecDepth 100000 in
set_option maxHeartbeats 8000000 in
theorem rep_fit (base g cap i j k m vb cJ : Nat) (R J : List Rn) (cur : List Value) (hR : R.length = j + k) (hij : i < j) (hk : 0 < k) (hn : j + k ≤ 2000000) (hJ : J.length = m) (hm0 : 0 < m) (hm : m ≤ 2000000) (hroom : i + m + k ≤ cap) (hfit : i + m ≤ j) (hnc : j + k ≤ cap) (hcm : cap ≤ maxLen) (hb : base ≤ g) (hsz : cur.length = cap * 3) (htk : cur.take ((j + k) * 3) = rowR R)
    (w : World) (hg : w.heap[g]? = some (.cells cur.toArray 34 (0, 0))) (hJc : ∀ j u, (rowR J)[j]? = some u → w.cell? ⟨vb, j, none⟩ = some u) :
    Calls Try.prog 52 #[.slice (some ⟨g, 0, none⟩) (j + k) cap, .int .i64 i, .int .i64 j, .slice (some ⟨vb, 0, none⟩) m cJ] w (OwnX base g (R.take i ++ J ++ R.drop j) w) := by
  have HF := Go.Lib.hid (fun q A hA => fit_facts base g cap i j k m vb cJ R J cur hR hfit hJ hnc hcm hb hsz htk w (w.drewN q) rfl (bdrew (Below.refl _ w) q) hg hJc A hA)
  have HL : Hid ((R.take i ++ J ++ R.drop j).length = i + m + k) := Go.Lib.hid (by simp only [List.length_append, List.length_take, List.length_drop, hR, hJ]; omega)
  have hcm' := hcm
  unfold maxLen at hcm'
  have hw1 : IntKind.i64.wrap ((i : Int) + (m : Int)) = (i : Int) + (m : Int) := by rw [IntKind.wrap_i64]; omega
  have hw2 : IntKind.i64.wrap ((i : Int) + (m : Int) + (k : Int)) = (i : Int) + (m : Int) + (k : Int) := by rw [IntKind.wrap_i64]; omega
  have hb1 : (0 : Int) ≤ (i : Int) + (m : Int) := by omega
  have htn : ((i : Int) + (m : Int)).toNat = i + m := by omega
  have hb2 : (0 : Int) ≤ (i : Int) + (m : Int) + (k : Int) := by omega
  have htn2 : ((i : Int) + (m : Int) + (k : Int)).toNat = i + m + k := by omega
  have hz2 : ¬ ((i : Int) = (j : Int)) := by omega
  have hz3 : ¬ ((j : Int) = (j : Int) + (k : Int)) := by omega
  have hz4 : ¬ ((cap : Int) < (i : Int) + (m : Int) + (k : Int)) := by omega
  have hijl : i ≤ j := by omega
  have hic : i ≤ cap := by omega
  have hjc : j ≤ cap := by omega
  have hij2 : i ≤ j + k := by omega
  have hjk : j ≤ j + k := by omega
  have hci : ¬ (cap = i) := by omega
  have hcj : ¬ (cap = j) := by omega
  have hcim : ¬ (cap = i + m) := by omega
  have him : i ≤ i + m + k := by omega
  have hjkI : (j : Int) ≤ (j : Int) + (k : Int) := by omega
  have himI : (i : Int) + (m : Int) ≤ (i : Int) + (m : Int) + (k : Int) := by omega
  have himc : (i : Int) + (m : Int) + (k : Int) ≤ (cap : Int) := by omega
  have himk : i + m ≤ i + m + k := by omega
  have himk2 : i + m ≤ cap := by omega
  have hmk : i + m + k - i = m + k := by omega
  have hle : (i : Int) + (m : Int) ≤ (j : Int) := by omega
  have hlk : (i : Int) + (m : Int) + (k : Int) ≤ (j : Int) + (k : Int) := by omega
  have hlk2 : i + m + k ≤ j + k := by omega
  clear hg hJc htk hR hJ hsz
  go_enter Try.func52, Try.ntmps52
  go_wp2_with fail
  go_quiet (fail)
  by_cases hend : cap = i + m + k
  · obtain ⟨W2, W3, W4, hcA, hcB, hcl, hown, hbel, hkp⟩ := HF.out nq ⟨g, 0, none⟩ (.inl (by omega))
    have HOWN := Go.Lib.hid hown
    have HBEL := Go.Lib.hid hbel
    have HKP := Go.Lib.hid hkp
    subst hend
    simp only [Nat.sub_self, show j + k - (i + m + k) = 0 by omega] at hcl
    have hkk : i + m + k - (i + m) = k := by omega
    have hk0 : ¬ (k = 0) := by omega
    clear HF hown hbel hkp
    go_wp2_with (first
      | (at_builtin; refine wpList_copy_runI _ rfl _ _ 31 31 rfl _ _ rfl rfl (hcA _ _) ?_))
    go_region_law (refine step_copy_runI rfl _ _ 31 31 rfl (.slice (some ⟨g, (i + m) * 3, none⟩) k k) (.slice (some ⟨g, j * 3, none⟩) k ((i + m + k) - j)) (by simp [Act.eval, Act.put]) (by simp [Act.eval, Act.put]) (hcB _ _ _) ?_)
    go_wp2
    go_ret
    exact ⟨⟨some ⟨g, 0, none⟩, _, (i + m + k), rfl, HOWN.out, HL.out, HBEL.out⟩, HKP.out, whr_at (.inl rfl)⟩
  · obtain ⟨W2, W3, W4, hcA, hcB, hcl, hown, hbel, hkp⟩ := HF.out nq ⟨g, (i + m + k) * 3, none⟩ (.inr rfl)
    have HOWN := Go.Lib.hid hown
    have HBEL := Go.Lib.hid hbel
    have HKP := Go.Lib.hid hkp
    clear HF hown hbel hkp
    go_wp2_with (first
      | (at_builtin; refine wpList_copy_runI _ rfl _ _ 31 31 rfl _ _ rfl rfl (hcA _ _) ?_))
    go_region_law (refine step_copy_runI rfl _ _ 31 31 rfl (.slice (some ⟨g, (i + m) * 3, none⟩) k (cap - (i + m))) (.slice (some ⟨g, j * 3, none⟩) k (cap - j)) (by simp [Act.eval, Act.put]) (by simp [Act.eval, Act.put]) (hcB _ _ _) ?_)
    go_wp2
    go_ret
    exact ⟨⟨some ⟨g, 0, none⟩, _, cap, rfl, HOWN.out, HL.out, HBEL.out⟩, HKP.out, whr_at (.inl rfl)⟩
set_option maxRecDepth 100000 in
set_option maxHeartbeats 8000000 in
theorem rep_room (base g cap i j k m vb cJ : Nat) (R J : List Rn) (cur : List Value) (hR : R.length = j + k) (hij : i < j) (hk : 0 < k) (hn : j + k ≤ 2000000) (hJ : J.length = m) (hm0 : 0 < m) (hm : m ≤ 2000000) (hroom : i + m + k ≤ cap) (hfit : j < i + m) (hnc : j + k ≤ cap) (hcm : cap ≤ maxLen) (hb : base ≤ g) (hsz : cur.length = cap * 3) (htk : cur.take ((j + k) * 3) = rowR R)
    (w : World) (hg : w.heap[g]? = some (.cells cur.toArray 34 (0, 0))) (cv : Array Value) (tv : TypeId) (hv : w.heap[vb]? = some (.cells cv tv (0, 0))) (hcv : cv.size ≠ 0) (hvb : vb ≠ g) (hJc : ∀ j u, (rowR J)[j]? = some u → w.cell? ⟨vb, j, none⟩ = some u) :
    Calls Try.prog 52 #[.slice (some ⟨g, 0, none⟩) (j + k) cap, .int .i64 i, .int .i64 j, .slice (some ⟨vb, 0, none⟩) m cJ] w (OwnX base g (R.take i ++ J ++ R.drop j) w) := by
  have HF := Go.Lib.hid (fun q => room_facts base g cap i j k m vb cJ R J cur hR (Nat.le_of_lt hij) hfit hJ hroom hcm hb hsz htk w (w.drewN q).drew rfl (bdrew1 (bdrew (Below.refl _ w) q)) hg hvb hJc)
  have hov : ∀ q cb, (callFunc 55 #[.slice (some ⟨g, (i + m) * 3, none⟩) k cb, .slice (some ⟨vb, 0, none⟩) m cJ]).run Try.prog (w.drewN q) = .ok (.value (.bool false)) (w.drewN q) := fun q cb => by
    rw [run_callFunc_extern Try.func55 (by kernel_rfl) (by kernel_rfl) (by kernel_rfl) (e := Extern.SlicesOverlaps.overlaps #[31, 31] #[4]) (by kernel_rfl),
      Lib.run_overlaps_apart (w.drewN q) 31 4 34 Try.underlying31 3 Try.sizeOf34 ⟨g, (i + m) * 3, none⟩ ⟨vb, 0, none⟩ k cb m cJ (Ne.symm hvb) 34 tv (cap * 3) cv.size (by simp [World.shape?, hg, hsz]) (by simp [World.shape?, hv]) hcv (frozen_of_heap (w := w.drewN q) hg _) (frozen_of_heap (w := w.drewN q) hg _)]
    rfl
  have HOV := Go.Lib.hid hov
  clear hov hv hvb hcv
  have HL : Hid ((R.take i ++ J ++ R.drop j).length = i + m + k) := Go.Lib.hid (by simp only [List.length_append, List.length_take, List.length_drop, hR, hJ]; omega)
  have hcm' := hcm
  unfold maxLen at hcm'
  have hw1 : IntKind.i64.wrap ((i : Int) + (m : Int)) = (i : Int) + (m : Int) := by rw [IntKind.wrap_i64]; omega
  have hw2 : IntKind.i64.wrap ((i : Int) + (m : Int) + (k : Int)) = (i : Int) + (m : Int) + (k : Int) := by rw [IntKind.wrap_i64]; omega
  have hb1 : (0 : Int) ≤ (i : Int) + (m : Int) := by omega
  have htn : ((i : Int) + (m : Int)).toNat = i + m := by omega
  have hb2 : (0 : Int) ≤ (i : Int) + (m : Int) + (k : Int) := by omega
  have htn2 : ((i : Int) + (m : Int) + (k : Int)).toNat = i + m + k := by omega
  have hz2 : ¬ ((i : Int) = (j : Int)) := by omega
  have hz3 : ¬ ((j : Int) = (j : Int) + (k : Int)) := by omega
  have hz4 : ¬ ((cap : Int) < (i : Int) + (m : Int) + (k : Int)) := by omega
  have hijl : i ≤ j := by omega
  have hic : i ≤ cap := by omega
  have hjc : j ≤ cap := by omega
  have hij2 : i ≤ j + k := by omega
  have hjk : j ≤ j + k := by omega
  have hci : ¬ (cap = i) := by omega
  have hcj : ¬ (cap = j) := by omega
  have hcim : ¬ (cap = i + m) := by omega
  have him : i ≤ i + m + k := by omega
  have hjkI : (j : Int) ≤ (j : Int) + (k : Int) := by omega
  have himI : (i : Int) + (m : Int) ≤ (i : Int) + (m : Int) + (k : Int) := by omega
  have himc : (i : Int) + (m : Int) + (k : Int) ≤ (cap : Int) := by omega
  have himk : i + m ≤ i + m + k := by omega
  have himk2 : i + m ≤ cap := by omega
  have hmk : i + m + k - i = m + k := by omega
  have hle : ¬ ((i : Int) + (m : Int) ≤ (j : Int)) := by omega
  clear hg hJc htk hR hJ hsz
  go_enter Try.func52, Try.ntmps52
  go_wp2_with fail
  go_quiet (fail)
  have hov1 := HOV.out nq
  go_wp2_with (simp only [hov1])
  obtain ⟨W2, W3, hcA, hcB, hown, hbel, hkp⟩ := HF.out nq
  have HOWN := Go.Lib.hid hown
  have HBEL := Go.Lib.hid hbel
  have HKP := Go.Lib.hid hkp
  clear HF hown hbel hkp
  go_region_law (refine step_copy_runI rfl _ _ 31 31 rfl (.slice (some ⟨g, (i + m) * 3, none⟩) k (cap - (i + m))) (.slice (some ⟨g, j * 3, none⟩) k (cap - j)) (by simp [Act.eval, Act.put]) (by simp [Act.eval, Act.put]) (hcA _ _ _) ?_)
  go_wp2_with (at_builtin; refine wpList_copy_runI _ rfl _ _ 31 31 rfl _ _ rfl rfl (hcB _ _) ?_)
  go_ret
  exact ⟨⟨some ⟨g, 0, none⟩, _, cap, rfl, HOWN.out, HL.out, HBEL.out⟩, HKP.out, whr_at (.inl rfl)⟩

end Go.Proofs.Ytioehncdkdfcmaa
