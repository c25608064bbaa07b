/- What remains of the clusters from a boundary on, plainly. -/
import Derived.Test.YtigbmhddkcgjfaaDoorGw
import Derived.Test.YtigbmhddkcgjfaaDoorLm
namespace Go.Proofs.YtigbmhddkcgjfaaDoor
open Gc

theorem cls_dropAt (cs : List Int) (k : Nat) (h : k ≤ (cls cs).length) :
    (cls cs).drop k = (cls (cs.drop ((bnd cs)[k]'(by rw [bnd_len]; omega)))).map fun x => (x.1 + (bnd cs)[k]'(by rw [bnd_len]; omega), x.2 + (bnd cs)[k]'(by rw [bnd_len]; omega)) := by
  cases k with
  | zero =>
    have e : (bnd cs)[0]'(by rw [bnd_len]; omega) = 0 := bnd_first cs
    rw [e]; simp
  | succ i =>
    by_cases hl : i + 1 = (cls cs).length
    · have e : (bnd cs)[i + 1]'(by rw [bnd_len]; omega) = cs.length := by
        have := bnd_end cs
        rw [← this]; congr 1
      rw [e, List.drop_of_length_le (by omega), List.drop_length, cls_nil]; rfl
    · cases cs with
      | nil => simp [cls_nil] at h
      | cons c cs =>
        have hs : (bnd (c :: cs))[i + 1]'(by rw [bnd_len]; omega) = ((cls (c :: cs))[i]).2 := (cls_snd _ i (by omega)).symm
        rw [hs]
        have hd := clGo_drop cs [c] 0 1 (by decide) i (by have := h; rw [cls_cons] at this hl; omega)
        have h1 : 0 < ((cls (c :: cs))[i]).2 := by
          have := cls_range (c :: cs) _ (List.getElem_mem (l := cls (c :: cs)) (n := i) (by omega))
          omega
        have ed : (c :: cs).drop ((cls (c :: cs))[i]).2 = cs.drop (((cls (c :: cs))[i]).2 - 1) := by
          obtain ⟨m, hm⟩ : ∃ m, ((cls (c :: cs))[i]).2 = m + 1 := ⟨_, (Nat.succ_pred_eq_of_pos h1).symm⟩
          rw [hm, List.drop_succ_cons, Nat.add_sub_cancel]
        rw [ed]
        exact hd
theorem bl_suf (cs : List Int) (k : Nat) (h : k < (bl (cls cs)).length) :
    (bl (cls (cs.drop (nx cs k)))).length = (bl (cls cs)).length - k ∧
    ∀ j (hj : j < (bl (cls (cs.drop (nx cs k)))).length) (hj2 : k + j < (bl (cls cs)).length), (bl (cls (cs.drop (nx cs k))))[j] + (nx cs k : Nat) = (bl (cls cs))[k + j] := by
  have hk : k ≤ (cls cs).length := by rw [bl_len] at h; omega
  have e : nx cs k = (bnd cs)[k]'(by rw [bnd_len]; omega) := by
    unfold nx
    congr 1; omega
  have hd := cls_dropAt cs k hk
  rw [← e] at hd
  have hl : (cls cs).length - k = (cls (cs.drop (nx cs k))).length := by
    have := congrArg List.length hd
    rw [List.length_drop, List.length_map] at this
    exact this
  refine ⟨by rw [bl_len, bl_len]; omega, fun j hj hj2 => ?_⟩
  cases j with
  | zero =>
    have := nx_at cs k h
    rw [show (bl (cls cs))[k + 0] = (bl (cls cs))[k] from rfl, this]
    show (0 : Int) + _ = _
    omega
  | succ j =>
    rw [bl_len] at hj hj2
    have h1 : (bl (cls (cs.drop (nx cs k))))[j + 1]'(by rw [bl_len]; omega) = (((cls (cs.drop (nx cs k)))[j]'(by omega)).2 : Int) := by
      unfold bl; rw [List.getElem_cons_succ, List.getElem_map]
    have h2 : (bl (cls cs))[k + (j + 1)]'(by rw [bl_len]; omega) = (((cls cs)[k + j]'(by omega)).2 : Int) := by
      unfold bl
      show (0 :: (cls cs).map fun x => (x.2 : Int))[(k + j) + 1]'_ = _
      rw [List.getElem_cons_succ, List.getElem_map]
    rw [h1, h2]
    have h3 : ((cls cs).drop k)[j]'(by rw [List.length_drop]; omega) = (((cls (cs.drop (nx cs k)))[j]'(by omega)).1 + nx cs k, ((cls (cs.drop (nx cs k)))[j]'(by omega)).2 + nx cs k) := by
      have := List.getElem_of_eq hd (i := j) (by rw [List.length_drop]; omega)
      rw [this, List.getElem_map]
    rw [List.getElem_drop] at h3
    rw [h3]
    simp
theorem cp_drop (P : List Nat) (b : Nat) : cp (P.drop b) = (cp P).drop b := by simp [cp, clsOf, List.map_drop]
theorem off_size {s : ByteArray} {P : List Nat} (h : Str s P []) (b : Nat) : U.off P b ≤ s.size := by
  have h1 := U.off_le P b
  have h2 : s.size = (U.bytes P).length := by rw [← h.whole]; simp
  omega
theorem str_suf {s : ByteArray} {P : List Nat} (h : Str s P []) (b : Nat) : Str (s.extract (U.off P b) s.size) (P.drop b) [] := by
  refine ⟨fun p hp => h.pts p (List.mem_of_mem_drop hp), ?_, h.bad, ?_⟩
  · have h1 := U.drop_off P [] b
    rw [List.append_nil, List.append_nil] at h1
    rw [List.append_nil, ← h1, ← h.whole]
    rw [ByteArray.data_extract, Array.toList_extract, List.extract_eq_take_drop]
    exact List.take_of_length_le (by simp)
  · rw [ByteArray.size_extract]; have := h.size; omega
end Go.Proofs.YtigbmhddkcgjfaaDoor
