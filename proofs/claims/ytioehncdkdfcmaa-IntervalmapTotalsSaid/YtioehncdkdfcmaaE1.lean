/- Layer 5, plainly: values, beginnings, and first places. -/
import Derived.Test.YtioehncdkdfcmaaF1
namespace Go.Proofs.Ytioehncdkdfcmaa
open Go.RowKit Go.Lib Im

theorem val_at {s e : Int} {R : List Rn} (h : Ch s R e) {k : Nat} (hk : k < R.length) {p : Int} (h1 : R[k].1 ≤ p) (h2 : p < R[k].2.1) : (vals R)[(p - s).toNat]? = some R[k].2.2 := by
  induction R generalizing s k with
  | nil => simp at hk
  | cons r R ih =>
    obtain ⟨c1, c2, c3⟩ := h
    rw [vals_cons]
    cases k with
    | zero =>
      have h1 : r.1 ≤ p := h1
      have h2 : p < r.2.1 := h2
      rw [List.getElem?_append_left (by rw [List.length_replicate]; omega), List.getElem?_replicate, if_pos (by omega)]
      rfl
    | succ k =>
      have hk' : k < R.length := by simpa using hk
      have h1' : R[k].1 ≤ p := by simpa using h1
      have h2' : p < R[k].2.1 := by simpa using h2
      have := (ch_in c3 hk').1
      rw [List.getElem?_append_right (by rw [List.length_replicate]; omega), List.length_replicate, show (p - s).toNat - (r.2.1 - r.1).toNat = (p - r.2.1).toNat by omega, ih c3 hk' h1' h2']
      rfl
theorem df_at {R : List Rn} (h : Df R) {j : Nat} (hj : j + 1 < R.length) : R[j].2.2 ≠ R[j + 1].2.2 := by
  induction R generalizing j with
  | nil => simp at hj
  | cons r R ih =>
    cases R with
    | nil => simp at hj
    | cons q R =>
      cases j with
      | zero => exact h.1
      | succ j => exact ih h.2 (by simpa using hj)
/-- The run that has p. -/
theorem run_of (l : List Int) {p : Int} (h0 : 0 ≤ p) (hp : p < l.length) : ∃ (i : Nat) (hi : i < (runs l).length), AtR (runs l) p i ∧ (runs l)[i].1 ≤ p ∧ p < (runs l)[i].2.1 ∧ l[p.toNat]? = some (runs l)[i].2.2 := by
  obtain ⟨hC, hD, hV⟩ := runs_ok l
  obtain ⟨i, hi⟩ := at_exists p (ch_sortT hC)
  have hil := at_in hi h0 (by rw [lenR_runs]; exact hp)
  have h2 := hi.2.2 i hil (Nat.le_refl _)
  have h1 : (runs l)[i].1 ≤ p := by
    cases i with
    | zero => have := ch_first hC hil; omega
    | succ j =>
      have := ch_next hC hil
      have := hi.2.1 j (by omega) (by omega)
      omega
  refine ⟨i, hil, hi, h1, h2, ?_⟩
  have := val_at hC hil h1 h2
  rw [hV, Int.sub_zero] at this
  exact this
/-- A run begins at q. -/
def bg (l : List Int) (q : Nat) : Prop := q < l.length ∧ (q = 0 ∨ l[q]? ≠ l[q - 1]?)
theorem bg_iff (l : List Int) (q : Nat) : bg l q ↔ ∃ (k : Nat) (h : k < (runs l).length), (runs l)[k].1 = (q : Int) := by
  obtain ⟨hC, hD, hV⟩ := runs_ok l
  constructor
  · rintro ⟨hq, hb⟩
    obtain ⟨i, hi, _, h1, h2, h3⟩ := run_of l (p := q) (by omega) (by omega)
    rcases Int.lt_or_eq_of_le h1 with h | h
    · exfalso
      have hp := (ch_in hC hi).1
      have h4 := val_at hC hi (p := (q : Int) - 1) (by omega) (by omega)
      rw [hV, show ((q : Int) - 1 - 0).toNat = q - 1 by omega] at h4
      rw [Int.toNat_natCast] at h3
      rcases hb with hb | hb
      · omega
      · exact hb (h3.trans h4.symm)
    · exact ⟨i, hi, h⟩
  · rintro ⟨k, hk, he⟩
    have hin := ch_in hC hk
    refine ⟨by omega, ?_⟩
    cases k with
    | zero => have := ch_first hC hk; exact .inl (by omega)
    | succ j =>
      right
      have h1 := ch_next hC hk
      have hj := ch_in hC (k := j) (by omega)
      have h3 := val_at hC hk (p := (q : Int)) (by omega) (by omega)
      have h4 := val_at hC (k := j) (by omega) (p := (q : Int) - 1) (by omega) (by omega)
      rw [hV, Int.sub_zero, Int.toNat_natCast] at h3
      rw [hV, show ((q : Int) - 1 - 0).toNat = q - 1 by omega] at h4
      rw [h3, h4]
      intro e
      exact df_at hD hk (Option.some.inj e).symm
/-- The first beginning from p on. -/
def IsN (l : List Int) (p r : Int) : Prop := (r = -1 ∧ ∀ q : Nat, p ≤ q → ¬ bg l q) ∨ ∃ q : Nat, r = q ∧ p ≤ q ∧ bg l q ∧ ∀ q' : Nat, p ≤ q' → q' < q → ¬ bg l q'
theorem isN_unique {l : List Int} {p r r' : Int} (h : IsN l p r) (h' : IsN l p r') : r = r' := by
  rcases h with ⟨rfl, h⟩ | ⟨q, rfl, h1, h2, h3⟩
  · rcases h' with ⟨rfl, _⟩ | ⟨q', rfl, g1, g2, _⟩
    · rfl
    · exact absurd g2 (h q' g1)
  · rcases h' with ⟨rfl, h⟩ | ⟨q', rfl, g1, g2, g3⟩
    · exact absurd h2 (h q h1)
    · rcases Nat.lt_trichotomy q q' with h | h | h
      · exact absurd h2 (g3 q h1 h)
      · rw [h]
      · exact absurd g2 (h3 q' g1 h)
theorem part_isN {l : List Int} {p : Int} {i : Nat} (h : PartF (runs l) p i) : IsN l p (if h : i < (runs l).length then (runs l)[i].1 else -1) := by
  obtain ⟨hC, hD, hV⟩ := runs_ok l
  obtain ⟨h1, h2, h3⟩ := h
  by_cases hi : i < (runs l).length
  · rw [dif_pos hi]
    have hin := ch_in hC hi
    have hq : (((runs l)[i].1.toNat : Nat) : Int) = (runs l)[i].1 := by omega
    have hp := h3 i hi (Nat.le_refl _)
    refine .inr ⟨(runs l)[i].1.toNat, hq.symm, by omega, (bg_iff l _).2 ⟨i, hi, hq.symm⟩, fun q' g1 g2 hb => ?_⟩
    obtain ⟨k, hk, he⟩ := (bg_iff l q').1 hb
    rcases Nat.lt_or_ge k i with h | h
    · have := h2 k hk h; omega
    · have := (ch_sortF hC).le i k hi hk h; omega
  · rw [dif_neg hi]
    refine .inl ⟨rfl, fun q hq hb => ?_⟩
    obtain ⟨k, hk, he⟩ := (bg_iff l q).1 hb
    have := h2 k hk (by omega)
    omega
/-- The first place of a value from p on. -/
def IsF (l : List Int) (p v r : Int) : Prop := (r = -1 ∧ ∀ q : Nat, p ≤ q → l[q]? ≠ some v) ∨ ∃ q : Nat, r = q ∧ p ≤ q ∧ l[q]? = some v ∧ ∀ q' : Nat, p ≤ q' → q' < q → l[q']? ≠ some v
theorem isF_unique {l : List Int} {p v r r' : Int} (h : IsF l p v r) (h' : IsF l p v r') : r = r' := by
  rcases h with ⟨rfl, h⟩ | ⟨q, rfl, h1, h2, h3⟩
  · rcases h' with ⟨rfl, _⟩ | ⟨q', rfl, g1, g2, _⟩
    · rfl
    · exact absurd g2 (h q' g1)
  · rcases h' with ⟨rfl, h⟩ | ⟨q', rfl, g1, g2, g3⟩
    · exact absurd h2 (h q h1)
    · rcases Nat.lt_trichotomy q q' with h | h | h
      · exact absurd h2 (g3 q h1 h)
      · rw [h]
      · exact absurd g2 (h3 q' g1 h)
theorem parts_ne (f t : Int) (R : List Rn) : ∀ r ∈ parts f t R, r.1 < r.2.1 := by
  induction R with
  | nil => intro r h; simp [parts] at h
  | cons q R ih =>
    intro r h
    rw [parts] at h
    split at h
    · simp at h
    · rename_i hn
      rw [List.mem_cons] at h
      rcases h with rfl | h
      · omega
      · exact ih r h
theorem fits_ch {m e : Int} {P : List Rn} (h : Fits m P e) (hn : ∀ r ∈ P, r.1 < r.2.1) : Ch m P e := by
  induction P generalizing m with
  | nil => exact h
  | cons r P ih =>
    obtain ⟨m', h1, h2⟩ := h
    have hr := hn r (by simp)
    rcases h1 with ⟨g1, rfl⟩ | ⟨g1, g2, rfl⟩
    · omega
    · exact ⟨g1, by omega, ih h2 (fun x hx => hn x (by simp [hx]))⟩
theorem fnd_ch {m e v : Int} {P : List Rn} (h : Ch m P e) : (fndB P v = false ∧ fndV P v = 0 ∧ ∀ i : Nat, (vals P)[i]? ≠ some v) ∨
    (fndB P v = true ∧ ∃ i : Nat, fndV P v = m + i ∧ (vals P)[i]? = some v ∧ ∀ i' : Nat, i' < i → (vals P)[i']? ≠ some v) := by
  induction P generalizing m with
  | nil => exact .inl ⟨rfl, rfl, fun i h => by simp [vals] at h⟩
  | cons r P ih =>
    obtain ⟨c1, c2, c3⟩ := h
    have hl : (List.replicate (r.2.1 - r.1).toNat r.2.2).length = (r.2.1 - r.1).toNat := List.length_replicate
    by_cases hr : r.2.2 = v
    · right
      have e1 : (r :: P).find? (fun r => r.2.2 == v) = some r := by rw [List.find?_cons, show (r.2.2 == v) = true by simpa using hr]
      refine ⟨by unfold fndB; rw [e1]; rfl, 0, ?_, ?_, fun i' h => by omega⟩
      · unfold fndV
        rw [e1]
        show r.1 = m + 0
        omega
      · rw [vals_cons, List.getElem?_append_left (by omega), List.getElem?_replicate, if_pos (by omega), hr]
    · have e1 : (r :: P).find? (fun r => r.2.2 == v) = P.find? (fun r => r.2.2 == v) := by rw [List.find?_cons, show (r.2.2 == v) = false by simpa using hr]
      have hlow : ∀ i : Nat, i < (r.2.1 - r.1).toNat → (vals (r :: P))[i]? ≠ some v := fun i hi e => by
        rw [vals_cons, List.getElem?_append_left (by omega), List.getElem?_replicate, if_pos (by omega)] at e
        exact hr (Option.some.inj e)
      have hup : ∀ i : Nat, (vals (r :: P))[(r.2.1 - r.1).toNat + i]? = (vals P)[i]? := fun i => by
        rw [vals_cons, List.getElem?_append_right (by omega), hl, Nat.add_sub_cancel_left]
      rcases ih c3 with ⟨g1, g0, g2⟩ | ⟨g1, i, g2, g3, g4⟩
      · refine .inl ⟨by unfold fndB at g1 ⊢; rw [e1]; exact g1, by unfold fndV at g0 ⊢; rw [e1]; exact g0, fun i e => ?_⟩
        rcases Nat.lt_or_ge i (r.2.1 - r.1).toNat with h | h
        · exact hlow i h e
        · obtain ⟨j, rfl⟩ : ∃ j, i = (r.2.1 - r.1).toNat + j := ⟨i - (r.2.1 - r.1).toNat, by omega⟩
          rw [hup] at e
          exact g2 j e
      · refine .inr ⟨by unfold fndB at g1 ⊢; rw [e1]; exact g1, (r.2.1 - r.1).toNat + i, ?_, ?_, fun i' h' e => ?_⟩
        · unfold fndV at g2 ⊢
          rw [e1, g2]
          omega
        · rw [hup]; exact g3
        · rcases Nat.lt_or_ge i' (r.2.1 - r.1).toNat with h | h
          · exact hlow i' h e
          · obtain ⟨j, rfl⟩ : ∃ j, i' = (r.2.1 - r.1).toNat + j := ⟨i' - (r.2.1 - r.1).toNat, by omega⟩
            rw [hup] at e
            exact g4 j (by omega) e
theorem parts_low {f t : Int} {R : List Rn} (h : ∀ r ∈ R, 0 ≤ r.1 ∧ 0 < r.2.1) : parts f t R = parts (max 0 f) t R := by
  induction R with
  | nil => rfl
  | cons r R ih =>
    have hr := h r (by simp)
    have e : prt f t r = prt (max 0 f) t r := by
      unfold prt
      congr 1
      omega
    rw [parts, parts, e, ih (fun x hx => h x (by simp [hx]))]
theorem partsW_low {f t : Int} {R : List Rn} (h : ∀ r ∈ R, 0 ≤ r.1 ∧ 0 < r.2.1) : partsW f t R = partsW (max 0 f) t R := by
  unfold partsW
  have e : (R.dropWhile fun r => decide (r.2.1 ≤ f)) = R.dropWhile fun r => decide (r.2.1 ≤ max 0 f) := by
    clear t
    induction R with
    | nil => rfl
    | cons r R ih =>
      have hr := h r (by simp)
      have ed : decide (r.2.1 ≤ f) = decide (r.2.1 ≤ max 0 f) := by
        apply decide_eq_decide.2
        omega
      rw [List.dropWhile_cons, List.dropWhile_cons, ed, ih (fun x hx => h x (by simp [hx]))]
  rw [e]
  exact parts_low fun r hr => h r ((List.dropWhile_sublist _).subset hr)
theorem dropWhile_all {α : Type} {p : α → Bool} {R : List α} (h : ∀ r ∈ R, p r = true) : R.dropWhile p = [] := by
  induction R with
  | nil => rfl
  | cons r R ih => rw [List.dropWhile_cons_of_pos (h r (by simp)), ih (fun x hx => h x (by simp [hx]))]
theorem fnd_isF (l : List Int) (f v : Int) : (fndB (partsW f l.length (runs l)) v = false ∧ fndV (partsW f l.length (runs l)) v = 0 ∧ IsF l f v (-1)) ∨
    (fndB (partsW f l.length (runs l)) v = true ∧ IsF l f v (fndV (partsW f l.length (runs l)) v) ∧ 0 ≤ fndV (partsW f l.length (runs l)) v) := by
  obtain ⟨hC, hD, hV⟩ := runs_ok l
  have hpos : ∀ r ∈ runs l, 0 ≤ r.1 ∧ 0 < r.2.1 := by
    intro r hr
    obtain ⟨k, hk, rfl⟩ := List.getElem_of_mem hr
    have := ch_in hC hk
    omega
  rw [partsW_low hpos]
  by_cases hf : f ≤ l.length
  · obtain ⟨h1, h2⟩ := parts_ok hC (show 0 ≤ max 0 f by omega) (show max 0 f ≤ l.length by omega) (Int.le_refl _)
    rw [hV, List.take_of_length_le (by rw [List.length_drop]; omega), Int.sub_zero] at h2
    have hch := fits_ch h1 (parts_ne _ _ _)
    have hge : ∀ i : Nat, (l.drop (max 0 f).toNat)[i]? = l[(max 0 f).toNat + i]? := fun i => List.getElem?_drop
    rcases fnd_ch (v := v) hch with ⟨g1, g0, g2⟩ | ⟨g1, i, g2, g3, g4⟩
    · refine .inl ⟨g1, g0, .inl ⟨rfl, fun q hq e => ?_⟩⟩
      apply g2 (q - (max 0 f).toNat)
      rw [h2, hge, show (max 0 f).toNat + (q - (max 0 f).toNat) = q by omega]
      exact e
    · rw [h2, hge] at g3
      refine .inr ⟨g1, .inr ⟨(max 0 f).toNat + i, by rw [g2]; omega, by omega, g3, fun q' h1' h2' e => ?_⟩, by rw [g2]; omega⟩
      apply g4 (q' - (max 0 f).toNat) (by omega)
      rw [h2, hge, show (max 0 f).toNat + (q' - (max 0 f).toNat) = q' by omega]
      exact e
  · have hnil : partsW (max 0 f) l.length (runs l) = [] := by
      unfold partsW
      have : ((runs l).dropWhile fun r => decide (r.2.1 ≤ max 0 f)) = [] := by
        apply dropWhile_all
        intro r hr
        obtain ⟨k, hk, rfl⟩ := List.getElem_of_mem hr
        have := ch_in hC hk
        simp only [decide_eq_true_eq]
        omega
      rw [this]; rfl
    rw [hnil]
    refine .inl ⟨rfl, rfl, .inl ⟨rfl, fun q hq e => ?_⟩⟩
    have := (List.getElem?_eq_some_iff.1 e).1
    omega
end Go.Proofs.Ytioehncdkdfcmaa
