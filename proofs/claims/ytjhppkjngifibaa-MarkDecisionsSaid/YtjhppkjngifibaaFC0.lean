/- Layer 23: how long what is kept may be. -/
import Derived.Test.YtjhppkjngifibaaE1
namespace Go.Proofs.Ytjhppkjngifibaa
open Go.RowKit Go.Lib
set_option linter.unusedVariables false

theorem sum_other (x : Ly) (l : List Ly) (ks : List Int) (h : ∀ k ∈ ks, x.key ≠ k) : (ks.map (fun k => (grp (x :: l) k).length)).sum = (ks.map (fun k => (grp l k).length)).sum := by
  induction ks with
  | nil => rfl
  | cons k ks ih =>
    simp only [List.map_cons, List.sum_cons]
    rw [ih (fun q hq => h q (by simp [hq])), grp_cons_other (h k (by simp))]
theorem sum_add (x : Ly) (l : List Ly) (ks : List Int) (hk : ks.Pairwise (· < ·)) : (ks.map (fun k => (grp (x :: l) k).length)).sum ≤ (ks.map (fun k => (grp l k).length)).sum + 1 := by
  induction ks with
  | nil => simp
  | cons k ks ih =>
    have h1 := List.pairwise_cons.1 hk
    simp only [List.map_cons, List.sum_cons]
    by_cases e : x.key = k
    · rw [sum_other x l ks (fun q hq => by have := h1.1 q hq; omega), grp_cons_same e, List.length_cons]; omega
    · have := ih h1.2
      rw [grp_cons_other e]; omega
theorem sum_grp (l : List Ly) (ks : List Int) (hk : ks.Pairwise (· < ·)) : (ks.map (fun k => (grp l k).length)).sum ≤ l.length := by
  induction l with
  | nil =>
    have : (ks.map (fun k => (grp [] k).length)).sum = 0 := by
      clear hk
      induction ks with
      | nil => rfl
      | cons k ks ih => simp only [List.map_cons, List.sum_cons, ih]; rfl
    rw [this]; exact Nat.le_refl _
  | cons x l ih =>
    have := sum_add x l ks hk
    rw [List.length_cons]; omega
theorem fold_llen (a r : Int → Bool) (h : Hd) (ks : List Int) : ∀ S : List Pr × List Ly, (ks.foldl (stepH a r h) S).2.length ≤ S.2.length + (ks.map (fun k => (grp h.lays k).length)).sum := by
  induction ks with
  | nil => intro S; simp
  | cons k ks ih =>
    intro S
    have h1 := ih (stepH a r h S k)
    have h2 : (stepH a r h S k).2.length ≤ S.2.length + (grp h.lays k).length := by
      unfold stepH
      dsimp only
      rw [List.length_append]
      have := decL_len a r (grp h.lays k) (pres h.props k)
      omega
    rw [List.foldl_cons]
    simp only [List.map_cons, List.sum_cons]
    omega
theorem fold_plen (a r : Int → Bool) (h : Hd) (ks : List Int) : ∀ S : List Pr × List Ly, (ks.foldl (stepH a r h) S).1.length ≤ S.1.length + ks.length := by
  induction ks with
  | nil => intro S; simp
  | cons k ks ih =>
    intro S
    have h1 := ih (stepH a r h S k)
    have h2 : (stepH a r h S k).1.length ≤ S.1.length + 1 := put_len _ _ _
    rw [List.foldl_cons, List.length_cons]; omega
theorem kept_lens {a r : Int → Bool} {h : Hd} (ho : Ord h) : (keptH a r h).props.length ≤ h.props.length + h.lays.length ∧ (keptH a r h).dels.length ≤ h.dels.length ∧ (keptH a r h).lays.length ≤ h.lays.length := by
  have h1 := fold_plen a r h (keysU h.lays) (h.props, [])
  have h2 := fold_llen a r h (keysU h.lays) (h.props, [])
  have h3 := keysU_len h.lays
  have h4 := sum_grp h.lays (keysU h.lays) (keysU_srt ho.lays)
  refine ⟨?_, List.length_filter_le _ _, ?_⟩
  · show ((keysU h.lays).foldl (stepH a r h) (h.props, [])).1.length ≤ _
    dsimp only at h1; omega
  · show ((keysU h.lays).foldl (stepH a r h) (h.props, [])).2.length ≤ _
    simp only [List.length_nil] at h2; omega
end Go.Proofs.Ytjhppkjngifibaa
