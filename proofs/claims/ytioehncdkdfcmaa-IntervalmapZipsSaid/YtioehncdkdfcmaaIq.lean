/- Layer 5, plainly: what replace does to the runs that touch a range. -/
import Derived.Test.YtioehncdkdfcmaaIp
namespace Go.Proofs.Ytioehncdkdfcmaa
namespace Im

def clipL (f : Int) (r : Rn) : Rn := (r.1, min r.2.1 f, r.2.2)
def clipR (t d : Int) (r : Rn) : Rn := (max r.1 t + d, r.2.1 + d, r.2.2)
def shift (d : Int) (r : Rn) : Rn := (r.1 + d, r.2.1 + d, r.2.2)
theorem clipL_none {f c b : Int} {O : List Rn} (h : Ch c O b) (hf : f ≤ c) : Fits f (O.map (clipL f)) f := by
  induction O generalizing c with
  | nil => exact rfl
  | cons r O ih =>
    obtain ⟨h1, h2, h3⟩ := h
    exact ⟨f, .inl ⟨by show min r.2.1 f ≤ r.1; omega, rfl⟩, ih h3 (by omega)⟩
theorem clipL_fits {f a b : Int} {O : List Rn} (h : Ch a O b) (ha : a ≤ f) (hb : f ≤ b) : Fits a (O.map (clipL f)) f := by
  induction O generalizing a with
  | nil =>
    have e : a = b := h
    show a = f
    omega
  | cons r O ih =>
    obtain ⟨h1, h2, h3⟩ := h
    by_cases hc : r.2.1 ≤ f
    · exact ⟨r.2.1, .inr ⟨h1, by show r.1 < min r.2.1 f; omega, by show r.2.1 = min r.2.1 f; omega⟩, ih h3 hc⟩
    · by_cases haf : a = f
      · subst haf
        exact ⟨a, .inl ⟨by show min r.2.1 a ≤ r.1; omega, rfl⟩, clipL_none h3 (by omega)⟩
      · exact ⟨f, .inr ⟨h1, by show r.1 < min r.2.1 f; omega, by show f = min r.2.1 f; omega⟩, clipL_none h3 (by omega)⟩
theorem clipR_all {t d c b : Int} {O : List Rn} (h : Ch c O b) (ht : t ≤ c) : Fits (c + d) (O.map (clipR t d)) (b + d) := by
  induction O generalizing c with
  | nil =>
    have e : c = b := h
    show c + d = b + d
    omega
  | cons r O ih =>
    obtain ⟨h1, h2, h3⟩ := h
    exact ⟨r.2.1 + d, .inr ⟨by show max r.1 t + d = c + d; omega, by show max r.1 t + d < r.2.1 + d; omega, rfl⟩, ih h3 (by omega)⟩
theorem clipR_fits {t d a b : Int} {O : List Rn} (h : Ch a O b) (ha : a ≤ t) (hb : t ≤ b) : Fits (t + d) (O.map (clipR t d)) (b + d) := by
  induction O generalizing a with
  | nil =>
    have e : a = b := h
    show t + d = b + d
    omega
  | cons r O ih =>
    obtain ⟨h1, h2, h3⟩ := h
    by_cases hc : r.2.1 ≤ t
    · exact ⟨t + d, .inl ⟨by show r.2.1 + d ≤ max r.1 t + d; omega, rfl⟩, ih h3 hc⟩
    · exact ⟨r.2.1 + d, .inr ⟨by show max r.1 t + d = t + d; omega, by show max r.1 t + d < r.2.1 + d; omega, rfl⟩, clipR_all h3 (by omega)⟩
theorem ch_shift {d s e : Int} {B : List Rn} (h : Ch s B e) : Ch (s + d) (B.map (shift d)) (e + d) := by
  induction B generalizing s with
  | nil =>
    have e : s = e := h
    show s + d = _
    omega
  | cons r B ih =>
    obtain ⟨h1, h2, h3⟩ := h
    exact ⟨by show r.1 + d = s + d; omega, by show s + d < r.2.1 + d; omega, ih h3⟩
theorem vals_shift (d : Int) (B : List Rn) : vals (B.map (shift d)) = vals B := by
  induction B with
  | nil => rfl
  | cons r B ih =>
    rw [List.map_cons, vals_cons, vals_cons, ih]
    congr 2
    show (r.2.1 + d - (r.1 + d)).toNat = _
    omega
theorem df_shift (d : Int) (B : List Rn) (h : Df B) : Df (B.map (shift d)) := by
  induction B with
  | nil => trivial
  | cons r B ih =>
    cases B with
    | nil => trivial
    | cons q B => exact ⟨h.1, ih h.2⟩
/-- What is left of the values ahead of f, and behind t. -/
theorem vals_clipL {f a b : Int} {O : List Rn} (h : Ch a O b) (ha : a ≤ f) : vals (O.map (clipL f)) = (vals O).take (f - a).toNat := by
  induction O generalizing a with
  | nil => simp [vals]
  | cons r O ih =>
    obtain ⟨h1, h2, h3⟩ := h
    rw [List.map_cons, vals_cons, vals_cons]
    by_cases hc : r.2.1 ≤ f
    · rw [ih h3 hc, List.take_append, List.length_replicate, List.take_of_length_le (l := List.replicate (r.2.1 - r.1).toNat r.2.2) (by rw [List.length_replicate]; omega)]
      have e2 : ((clipL f r).2.1 - (clipL f r).1).toNat = (r.2.1 - r.1).toNat := by
        show (min r.2.1 f - r.1).toNat = _
        omega
      have e3 : (f - a).toNat - (r.2.1 - r.1).toNat = (f - r.2.1).toNat := by omega
      rw [e2, e3]; rfl
    · have e0 : ∀ (c : Int) (Q : List Rn), Ch c Q b → f ≤ c → vals (Q.map (clipL f)) = [] := by
        intro c Q
        induction Q generalizing c with
        | nil => intros; rfl
        | cons q Q ihq =>
          rintro ⟨g1, g2, g3⟩ g4
          rw [List.map_cons, vals_cons, ihq _ g3 (by omega)]
          have : (min q.2.1 f - q.1).toNat = 0 := by omega
          show List.replicate (min q.2.1 f - q.1).toNat q.2.2 ++ [] = []
          rw [this]; rfl
      rw [e0 _ O h3 (by omega), List.append_nil, List.take_append, List.length_replicate]
      have e1 : (f - a).toNat - (r.2.1 - r.1).toNat = 0 := by omega
      rw [e1, List.take_zero, List.append_nil, List.take_replicate]
      congr 1
      show (min r.2.1 f - r.1).toNat = _
      omega
theorem vals_clipR {t d a b : Int} {O : List Rn} (h : Ch a O b) (ha : a ≤ t) : vals (O.map (clipR t d)) = (vals O).drop (t - a).toNat := by
  induction O generalizing a with
  | nil => simp [vals]
  | cons r O ih =>
    obtain ⟨h1, h2, h3⟩ := h
    rw [List.map_cons, vals_cons, vals_cons]
    by_cases hc : r.2.1 ≤ t
    · rw [ih h3 hc, List.drop_append, List.length_replicate, List.drop_of_length_le (l := List.replicate (r.2.1 - r.1).toNat r.2.2) (by rw [List.length_replicate]; omega)]
      have e0 : ((clipR t d r).2.1 - (clipR t d r).1).toNat = 0 := by
        show (r.2.1 + d - (max r.1 t + d)).toNat = 0
        omega
      rw [e0, List.replicate_zero]
      congr 2
      omega
    · have e0 : ∀ (c : Int) (Q : List Rn), Ch c Q b → t ≤ c → vals (Q.map (clipR t d)) = vals Q := by
        intro c Q
        induction Q generalizing c with
        | nil => intros; rfl
        | cons q Q ihq =>
          rintro ⟨g1, g2, g3⟩ g4
          rw [List.map_cons, vals_cons, vals_cons, ihq _ g3 (by omega)]
          congr 2
          show (q.2.1 + d - (max q.1 t + d)).toNat = _
          omega
      rw [e0 _ O h3 (by omega), List.drop_append, List.length_replicate]
      have e1 : (t - a).toNat - (r.2.1 - r.1).toNat = 0 := by omega
      rw [e1, List.drop_zero, List.drop_replicate]
      congr 2
      show (r.2.1 + d - (max r.1 t + d)).toNat = _
      omega
/-- The pieces that replace puts together: what is left of the old ahead of the range, the new, what is left behind it. -/
def pieces (f t d : Int) (O N : List Rn) : List Rn := O.map (clipL f) ++ N ++ O.map (clipR t d)
theorem joined_ok {a b f t d : Int} {O N : List Rn} (h : Ch a O b) (ha : a ≤ f) (hft : f ≤ t) (hb : t ≤ b) (hN : Fits f N (t + d)) :
    Ch a ((pieces f t d O N).foldl app []) (b + d) ∧ Df ((pieces f t d O N).foldl app []) ∧
    vals ((pieces f t d O N).foldl app []) = (vals O).take (f - a).toNat ++ vals N ++ (vals O).drop (t - a).toNat := by
  have hF : Fits a (pieces f t d O N) (b + d) := fits_append (fits_append (clipL_fits h ha (by omega)) hN) (clipR_fits h (by omega) hb)
  obtain ⟨h1, h2, h3⟩ := fold_ok (pieces f t d O N) (J := []) (show Ch a [] a from rfl) trivial hF
  refine ⟨h1, h2, ?_⟩
  rw [h3]
  unfold pieces
  rw [vals_nil, List.nil_append, vals_append, vals_append, vals_clipL h ha, vals_clipR h (by omega)]
end Im
end Go.Proofs.Ytioehncdkdfcmaa
