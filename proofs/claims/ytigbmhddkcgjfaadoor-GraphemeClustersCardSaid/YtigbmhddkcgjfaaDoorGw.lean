/- Walking along the boundaries, plainly. -/
import Derived.Test.YtigbmhddkcgjfaaDoorGf
namespace Go.Proofs.YtigbmhddkcgjfaaDoor
open Gc

theorem bnd_pos (cs : List Int) : 0 < (bnd cs).length := by rw [bnd_len]; omega
theorem bnd_get_lt (cs : List Int) (i j : Nat) (h : i < j) (hj : j < (bnd cs).length) : (bnd cs)[i]'(by omega) < (bnd cs)[j] := List.pairwise_iff_getElem.1 (bnd_up cs) i j _ _ h
theorem bnd_get_le (cs : List Int) (i j : Nat) (h : i ≤ j) (hj : j < (bnd cs).length) : (bnd cs)[i]'(by omega) ≤ (bnd cs)[j] := by
  rcases Nat.lt_or_eq_of_le h with h | h
  · exact Nat.le_of_lt (bnd_get_lt cs i j h hj)
  · subst h; exact Nat.le_refl _
theorem bnd_first (cs : List Int) : (bnd cs)[0]'(bnd_pos cs) = 0 := rfl
theorem bnd_end (cs : List Int) : (bnd cs)[(cls cs).length]'(by rw [bnd_len]; omega) = cs.length := by
  have h := bnd_last cs
  rw [List.getLast?_eq_getElem?] at h
  have e : (bnd cs).length - 1 = (cls cs).length := by rw [bnd_len]; omega
  rw [e, List.getElem?_eq_getElem (by rw [bnd_len]; omega)] at h
  exact Option.some.inj h
theorem lastOf_take (cs : List Int) (m : Nat) (h : m ≤ (cls cs).length) : lastOf ((cls cs).take m) = (bnd cs)[m]'(by rw [bnd_len]; omega) := by
  cases m with
  | zero => rfl
  | succ m =>
    rw [List.take_succ_eq_append_getElem (by omega), lastOf_snoc, cls_snd cs m (by omega)]
theorem le_take (cs : List Int) (m : Nat) (h : m ≤ (cls cs).length) (at' : Int) (ha : ((bnd cs)[m]'(by rw [bnd_len]; omega) : Int) ≤ at') : AllLe ((cls cs).take m) at' := by
  intro x hx
  obtain ⟨i, hi, rfl⟩ := List.getElem_of_mem hx
  have hi' : i < m := by rw [List.length_take] at hi; omega
  rw [List.getElem_take, cls_snd cs i (by omega)]
  have := bnd_get_le cs (i + 1) m (by omega) (by rw [bnd_len]; omega)
  omega
theorem take_pre (cs : List Int) (m : Nat) (h : m < (cls cs).length) : (cls cs).take m ++ [(cls cs)[m]] <+: cls cs := by
  rw [← List.take_succ_eq_append_getElem h]; exact List.take_prefix _ _
theorem nxt_step (cs : List Int) (k : Nat) (h : k < (cls cs).length) : nxt (cls cs) ((bnd cs)[k]'(by rw [bnd_len]; omega) : Nat) = ((bnd cs)[k + 1]'(by rw [bnd_len]; omega) : Nat) := by
  rw [nxt_cut (le_take cs k (by omega) _ (Int.le_refl _)) (x := (cls cs)[k]) _ (take_pre cs k h), cls_snd cs k h]
  rw [cls_snd cs k h]
  have := bnd_get_lt cs k (k + 1) (by omega) (by rw [bnd_len]; omega)
  omega
theorem nxt_last (cs : List Int) : nxt (cls cs) ((bnd cs)[(cls cs).length]'(by rw [bnd_len]; omega) : Nat) = ((bnd cs)[(cls cs).length]'(by rw [bnd_len]; omega) : Nat) := by
  refine nxt_all ?_
  have := le_take cs (cls cs).length (Nat.le_refl _) ((bnd cs)[(cls cs).length]'(by rw [bnd_len]; omega) : Nat) (Int.le_refl _)
  rwa [List.take_length] at this
theorem flo_step (cs : List Int) (j : Nat) (h : j < (cls cs).length) : flo (cls cs) (((bnd cs)[j + 1]'(by rw [bnd_len]; omega) : Nat) - 1 : Int) = (bnd cs)[j]'(by rw [bnd_len]; omega) := by
  have h1 := bnd_get_lt cs j (j + 1) (by omega) (by rw [bnd_len]; omega)
  rw [flo_cut (le_take cs j (by omega) _ (by omega)) (x := (cls cs)[j]) _ (take_pre cs j h), lastOf_take cs j (by omega)]
  rw [cls_snd cs j h]
  omega
theorem flo_first (cs : List Int) : flo (cls cs) (((0 : Nat) : Int) - 1) = 0 := by
  cases hc : cls cs with
  | nil => rfl
  | cons x l =>
    unfold flo
    rw [List.takeWhile_cons_of_neg (by simp; omega)]; rfl
/-- Where Next has come to at the k-th round, and Prev. -/
def nx (cs : List Int) (k : Nat) : Nat := (bnd cs)[min k (cls cs).length]'(by rw [bnd_len]; omega)
def pv (cs : List Int) (k : Nat) : Nat := (bnd cs)[(cls cs).length - k]'(by rw [bnd_len]; omega)
theorem nx_succ (cs : List Int) (k : Nat) : nxt (cls cs) (nx cs k : Nat) = (nx cs (k + 1) : Nat) := by
  unfold nx
  by_cases h : k < (cls cs).length
  · have e1 : min k (cls cs).length = k := by omega
    have e2 : min (k + 1) (cls cs).length = k + 1 := by omega
    simp only [e1, e2]
    exact nxt_step cs k h
  · have e1 : min k (cls cs).length = (cls cs).length := by omega
    have e2 : min (k + 1) (cls cs).length = (cls cs).length := by omega
    simp only [e1, e2]
    exact nxt_last cs
theorem pv_succ (cs : List Int) (k : Nat) : flo (cls cs) ((pv cs k : Nat) - 1 : Int) = pv cs (k + 1) := by
  unfold pv
  by_cases h : k < (cls cs).length
  · obtain ⟨j, hj⟩ : ∃ j, (cls cs).length - k = j + 1 := ⟨(cls cs).length - k - 1, by omega⟩
    have e2 : (cls cs).length - (k + 1) = j := by omega
    simp only [hj, e2]
    exact flo_step cs j (by omega)
  · have e1 : (cls cs).length - k = 0 := by omega
    have e2 : (cls cs).length - (k + 1) = 0 := by omega
    simp only [e1, e2]
    exact flo_first cs
theorem nx_le (cs : List Int) (k : Nat) : nx cs k ≤ cs.length := bnd_le cs _ (List.getElem_mem _)
theorem pv_le (cs : List Int) (k : Nat) : pv cs k ≤ cs.length := bnd_le cs _ (List.getElem_mem _)
theorem nx_zero (cs : List Int) : nx cs 0 = 0 := by unfold nx; simp only [Nat.zero_min]; rfl
theorem pv_zero (cs : List Int) : pv cs 0 = cs.length := by unfold pv; simp only [Nat.sub_zero]; exact bnd_end cs
theorem nx_at (cs : List Int) (k : Nat) (h : k < (bl (cls cs)).length) : (bl (cls cs))[k] = (nx cs k : Nat) := by
  have e : min k (cls cs).length = k := by rw [bl_len] at h; omega
  unfold nx
  simp only [bl_bnd, List.getElem_map, e]
theorem pv_at (cs : List Int) (k : Nat) (h : k < (bl (cls cs)).length) : (bl (cls cs))[(bl (cls cs)).length - 1 - k]'(by omega) = (pv cs k : Nat) := by
  unfold pv
  simp only [bl_bnd, List.getElem_map]
  congr 2
  rw [List.length_map, bnd_len]; omega
theorem nx_fin (cs : List Int) : nx cs (bl (cls cs)).length = cs.length := by
  unfold nx
  have e : min (bl (cls cs)).length (cls cs).length = (cls cs).length := by rw [bl_len]; omega
  simp only [e]
  exact bnd_end cs
theorem pv_fin (cs : List Int) : pv cs (bl (cls cs)).length = 0 := by
  unfold pv
  have e : (cls cs).length - (bl (cls cs)).length = 0 := by rw [bl_len]; omega
  simp only [e]
  rfl
end Go.Proofs.YtigbmhddkcgjfaaDoor
