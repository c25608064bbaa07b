/- Layer 5, plainly: runs of values, and how a run is put behind others. -/
import Derived.Test.YtioehncdkdfcmaaA6
namespace Go.Proofs.Ytioehncdkdfcmaa
namespace Im

/-- The values that some runs stand for. -/
def vals (R : List Rn) : List Int := R.flatMap fun r => List.replicate (r.2.1 - r.1).toNat r.2.2
theorem vals_nil : vals [] = [] := rfl
theorem vals_cons (r : Rn) (R : List Rn) : vals (r :: R) = List.replicate (r.2.1 - r.1).toNat r.2.2 ++ vals R := rfl
theorem vals_append (A B : List Rn) : vals (A ++ B) = vals A ++ vals B := by simp [vals]
theorem vals_one (r : Rn) : vals [r] = List.replicate (r.2.1 - r.1).toNat r.2.2 := by simp [vals]
/-- Runs that follow each other from s to e, none empty. -/
def Ch : Int → List Rn → Int → Prop
  | s, [], e => s = e
  | s, r :: R, e => r.1 = s ∧ s < r.2.1 ∧ Ch r.2.1 R e
/-- Neighbours have different values. -/
def Df : List Rn → Prop
  | [] => True
  | [_] => True
  | r :: q :: R => r.2.2 ≠ q.2.2 ∧ Df (q :: R)
theorem ch_append {s e : Int} {A B : List Rn} : Ch s (A ++ B) e ↔ ∃ m, Ch s A m ∧ Ch m B e := by
  induction A generalizing s with
  | nil => exact ⟨fun h => ⟨s, rfl, h⟩, fun ⟨m, h1, h2⟩ => by cases (show s = m from h1); exact h2⟩
  | cons a A ih =>
    constructor
    · rintro ⟨h1, h2, h3⟩
      obtain ⟨m, h4, h5⟩ := ih.1 h3
      exact ⟨m, ⟨h1, h2, h4⟩, h5⟩
    · rintro ⟨m, ⟨h1, h2, h4⟩, h5⟩
      exact ⟨h1, h2, ih.2 ⟨m, h4, h5⟩⟩
theorem ch_le {s e : Int} {A : List Rn} (h : Ch s A e) : s ≤ e := by
  induction A generalizing s with
  | nil => exact Int.le_of_eq h
  | cons a A ih => have := ih h.2.2; have := h.2.1; omega
theorem ch_len {s e : Int} {A : List Rn} (h : Ch s A e) : ((vals A).length : Int) = e - s := by
  induction A generalizing s with
  | nil => cases (show s = e from h); simp [vals]
  | cons a A ih =>
    obtain ⟨h1, h2, h3⟩ := h
    have := ih h3
    rw [vals_cons, List.length_append, List.length_replicate]
    omega
theorem df_snoc2 (A : List Rn) (l r : Rn) : Df (A ++ [l, r]) ↔ Df (A ++ [l]) ∧ l.2.2 ≠ r.2.2 := by
  induction A with
  | nil => simp [Df]
  | cons a A ih =>
    cases A with
    | nil => simp only [List.cons_append, List.nil_append, Df, and_true]
    | cons b A =>
      simp only [List.cons_append, Df] at ih ⊢
      rw [ih, and_assoc]
theorem df_last (A : List Rn) (l l' : Rn) (hv : l.2.2 = l'.2.2) (h : Df (A ++ [l])) : Df (A ++ [l']) := by
  induction A with
  | nil => trivial
  | cons a A ih =>
    cases A with
    | nil => exact ⟨hv ▸ h.1, trivial⟩
    | cons b A => exact ⟨h.1, ih h.2⟩
/-- The next piece fits: it is empty, or begins where the runs end. -/
def Fit (m : Int) (r : Rn) (m' : Int) : Prop := (r.2.1 ≤ r.1 ∧ m' = m) ∨ (r.1 = m ∧ r.1 < r.2.1 ∧ m' = r.2.1)
theorem app_ok {s m m' : Int} {J : List Rn} {r : Rn} (hJ : Ch s J m) (hd : Df J) (hf : Fit m r m') : Ch s (app J r) m' ∧ Df (app J r) ∧ vals (app J r) = vals J ++ vals [r] := by
  rcases hf with ⟨h1, rfl⟩ | ⟨h1, h2, rfl⟩
  · unfold app
    rw [if_pos h1]
    refine ⟨hJ, hd, ?_⟩
    have : (r.2.1 - r.1).toNat = 0 := by omega
    rw [vals_one, this]; simp
  · unfold app
    rw [if_neg (by omega)]
    rcases List.eq_nil_or_concat J with rfl | ⟨A, l, rfl⟩
    · have e : s = m := hJ
      refine ⟨⟨by omega, by omega, rfl⟩, trivial, rfl⟩
    · rw [List.concat_eq_append] at hJ hd ⊢
      rw [List.getLast?_concat, List.dropLast_concat]
      obtain ⟨k, hA, hl⟩ := ch_append.1 hJ
      obtain ⟨g1, g2, g3⟩ := hl
      have g3 : l.2.1 = m := g3
      dsimp only
      by_cases hv : l.2.2 = r.2.2
      · rw [if_pos hv]
        refine ⟨ch_append.2 ⟨k, hA, g1, by show k < r.2.1; omega, rfl⟩, df_last A l _ rfl hd, ?_⟩
        rw [vals_append, vals_append, vals_one, vals_one, vals_one, List.append_assoc]
        congr 1
        show List.replicate (r.2.1 - l.1).toNat l.2.2 = _
        rw [hv, List.replicate_append_replicate]
        congr 1
        omega
      · rw [if_neg hv]
        refine ⟨ch_append.2 ⟨m, hJ, h1, by omega, rfl⟩, ?_, vals_append _ _⟩
        have := (df_snoc2 A l r).2 ⟨hd, hv⟩
        simpa using this
/-- Pieces that fit one behind the other. -/
def Fits : Int → List Rn → Int → Prop
  | m, [], e => m = e
  | m, r :: R, e => ∃ m', Fit m r m' ∧ Fits m' R e
theorem fold_ok {s m e : Int} (R : List Rn) {J : List Rn} (hJ : Ch s J m) (hd : Df J) (hf : Fits m R e) : Ch s (R.foldl app J) e ∧ Df (R.foldl app J) ∧ vals (R.foldl app J) = vals J ++ vals R := by
  induction R generalizing J m with
  | nil => cases (show m = e from hf); exact ⟨hJ, hd, by simp [vals]⟩
  | cons r R ih =>
    obtain ⟨m', h1, h2⟩ := hf
    obtain ⟨a1, a2, a3⟩ := app_ok hJ hd h1
    obtain ⟨b1, b2, b3⟩ := ih a1 a2 h2
    refine ⟨b1, b2, ?_⟩
    rw [List.foldl_cons, b3, a3, List.append_assoc, ← vals_append]; rfl
theorem fits_append {s m e : Int} {A B : List Rn} (h1 : Fits s A m) (h2 : Fits m B e) : Fits s (A ++ B) e := by
  induction A generalizing s with
  | nil => cases (show s = m from h1); exact h2
  | cons a A ih => obtain ⟨m', h3, h4⟩ := h1; exact ⟨m', h3, ih h4⟩
/-- Two canonical lists of runs of the same values from the same place are the same. -/
theorem vals_head {s e : Int} {r : Rn} {R : List Rn} (h : Ch s (r :: R) e) : (vals (r :: R))[0]? = some r.2.2 := by
  obtain ⟨h1, h2, _⟩ := h
  obtain ⟨n, hn⟩ : ∃ n, (r.2.1 - r.1).toNat = n + 1 := ⟨(r.2.1 - r.1).toNat - 1, by omega⟩
  rw [vals_cons, hn, List.replicate_succ]; rfl
end Im
end Go.Proofs.Ytioehncdkdfcmaa
