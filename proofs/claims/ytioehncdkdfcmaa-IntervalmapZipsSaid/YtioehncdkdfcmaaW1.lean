/- Layer 5, plainly: the parts of runs that lie in a range. -/
import Derived.Test.YtioehncdkdfcmaaC3
namespace Go.Proofs.Ytioehncdkdfcmaa
namespace Im

def prt (f t : Int) (r : Rn) : Rn := (max r.1 f, min r.2.1 t, r.2.2)
def parts (f t : Int) : List Rn → List Rn
  | [] => []
  | r :: R => if (prt f t r).2.1 ≤ (prt f t r).1 then [] else prt f t r :: parts f t R
def partsW (f t : Int) (R : List Rn) : List Rn := parts f t (R.dropWhile fun r => decide (r.2.1 ≤ f))
theorem parts_stop {f t : Int} {r : Rn} {R : List Rn} (h : (prt f t r).2.1 ≤ (prt f t r).1) : parts f t (r :: R) = [] := by rw [parts, if_pos h]
theorem parts_go {f t : Int} {r : Rn} {R : List Rn} (h : ¬ (prt f t r).2.1 ≤ (prt f t r).1) : parts f t (r :: R) = prt f t r :: parts f t R := by rw [parts, if_neg h]
theorem parts_len (f t : Int) (R : List Rn) : (parts f t R).length ≤ R.length := by
  induction R with
  | nil => exact Nat.le_refl _
  | cons r R ih =>
    rw [parts]
    split
    · simp
    · simp; exact ih
theorem drop_while {R : List Rn} {f : Int} {i : Nat} (h : AtR R f i) : R.drop i = R.dropWhile fun r => decide (r.2.1 ≤ f) := by
  induction R generalizing i with
  | nil => simp
  | cons r R ih =>
    obtain ⟨h1, h2, h3⟩ := h
    cases i with
    | zero =>
      have := h3 0 (by simp) (Nat.le_refl _)
      rw [List.drop_zero, List.dropWhile_cons_of_neg (by simpa using this)]
    | succ i =>
      have := h2 0 (by simp) (by omega)
      rw [List.drop_succ_cons, List.dropWhile_cons_of_pos (by simpa using this)]
      refine ih ⟨by simpa using h1, fun k hk hlt => ?_, fun k hk hle => ?_⟩
      · have := h2 (k + 1) (by simpa using hk) (by omega)
        simpa using this
      · have := h3 (k + 1) (by simpa using hk) (by omega)
        simpa using this
theorem parts_tail {f t e : Int} {R : List Rn} {a : Int} (h : Ch a R e) (hf : f ≤ a) (ht : t ≤ e) : Fits (min a t) (parts f t R) t ∧ vals (parts f t R) = (vals R).take (t - a).toNat := by
  induction R generalizing a with
  | nil =>
    have e0 : a = e := h
    refine ⟨?_, by simp [parts, vals]⟩
    show min a t = t
    omega
  | cons r R ih =>
    obtain ⟨h1, h2, h3⟩ := h
    by_cases hta : t ≤ a
    · have hs : (prt f t r).2.1 ≤ (prt f t r).1 := by show min r.2.1 t ≤ max r.1 f; omega
      rw [parts_stop hs]
      have e0 : (t - a).toNat = 0 := by omega
      rw [e0, List.take_zero]
      refine ⟨?_, rfl⟩
      show min a t = t
      omega
    · have hs : ¬ (prt f t r).2.1 ≤ (prt f t r).1 := by show ¬ min r.2.1 t ≤ max r.1 f; omega
      rw [parts_go hs]
      obtain ⟨i1, i2⟩ := ih h3 (by omega)
      refine ⟨⟨min r.2.1 t, .inr ⟨?_, ?_, rfl⟩, i1⟩, ?_⟩
      · show max r.1 f = min a t
        omega
      · show max r.1 f < min r.2.1 t
        omega
      · rw [vals_cons, vals_cons, i2, List.take_append, List.length_replicate, List.take_replicate]
        have e1 : (t - a).toNat - (r.2.1 - r.1).toNat = (t - r.2.1).toNat := by omega
        have e2 : ((prt f t r).2.1 - (prt f t r).1).toNat = min (t - a).toNat (r.2.1 - r.1).toNat := by
          show (min r.2.1 t - max r.1 f).toNat = _
          omega
        rw [e1, e2]; rfl
theorem parts_ok {f t e : Int} {R : List Rn} {s : Int} (h : Ch s R e) (hs : s ≤ f) (hft : f ≤ t) (ht : t ≤ e) : Fits f (partsW f t R) t ∧ vals (partsW f t R) = ((vals R).drop (f - s).toNat).take (t - f).toNat := by
  unfold partsW
  induction R generalizing s with
  | nil =>
    have e0 : s = e := h
    refine ⟨?_, by simp [parts, vals]⟩
    show f = t
    omega
  | cons r R ih =>
    obtain ⟨h1, h2, h3⟩ := h
    by_cases hr : r.2.1 ≤ f
    · rw [List.dropWhile_cons_of_pos (by simpa using hr)]
      obtain ⟨i1, i2⟩ := ih h3 hr
      refine ⟨i1, ?_⟩
      rw [i2, vals_cons, List.drop_append, List.length_replicate, List.drop_of_length_le (l := List.replicate _ _) (by rw [List.length_replicate]; omega), List.nil_append]
      congr 2
      omega
    · rw [List.dropWhile_cons_of_neg (by simpa using hr)]
      by_cases hft2 : f = t
      · have hs : (prt f t r).2.1 ≤ (prt f t r).1 := by show min r.2.1 t ≤ max r.1 f; omega
        rw [parts_stop hs]
        have e0 : (t - f).toNat = 0 := by omega
        rw [e0, List.take_zero]
        exact ⟨hft2, rfl⟩
      · have hs : ¬ (prt f t r).2.1 ≤ (prt f t r).1 := by show ¬ min r.2.1 t ≤ max r.1 f; omega
        rw [parts_go hs]
        obtain ⟨i1, i2⟩ := parts_tail (f := f) h3 (by omega) ht
        refine ⟨⟨min r.2.1 t, .inr ⟨?_, ?_, rfl⟩, i1⟩, ?_⟩
        · show max r.1 f = f
          omega
        · show max r.1 f < min r.2.1 t
          omega
        · rw [vals_cons, vals_cons, i2, List.drop_append, List.length_replicate, List.drop_replicate, List.take_append, List.length_replicate, List.take_replicate]
          have e0 : (f - s).toNat - (r.2.1 - r.1).toNat = 0 := by omega
          have e1 : (t - f).toNat - ((r.2.1 - r.1).toNat - (f - s).toNat) = (t - r.2.1).toNat := by omega
          have e2 : ((prt f t r).2.1 - (prt f t r).1).toNat = min (t - f).toNat ((r.2.1 - r.1).toNat - (f - s).toNat) := by
            show (min r.2.1 t - max r.1 f).toNat = _
            omega
          rw [e0, e1, e2, List.drop_zero]; rfl
/-- Runs with other values. -/
def turn (fn : Int → Int) (r : Rn) : Rn := (r.1, r.2.1, fn r.2.2)
theorem fits_turn (fn : Int → Int) {m e : Int} {R : List Rn} (h : Fits m R e) : Fits m (R.map (turn fn)) e := by
  induction R generalizing m with
  | nil => exact h
  | cons r R ih =>
    obtain ⟨m', h1, h2⟩ := h
    exact ⟨m', h1, ih h2⟩
theorem vals_turn (fn : Int → Int) (R : List Rn) : vals (R.map (turn fn)) = (vals R).map fn := by
  induction R with
  | nil => rfl
  | cons r R ih => rw [List.map_cons, vals_cons, vals_cons, ih, List.map_append, List.map_replicate]; rfl
end Im
end Go.Proofs.Ytioehncdkdfcmaa
