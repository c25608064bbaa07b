/- Layer 5, plainly: canonical runs are told by their values; the reference's runs. -/
import Derived.Test.YtioehncdkdfcmaaIr
namespace Go.Proofs.Ytioehncdkdfcmaa
namespace Im

theorem first_le {s e e' : Int} {r r' : Rn} {T T' : List Rn} (h : Ch s (r :: T) e) (d : Df (r :: T)) (h' : Ch s (r' :: T') e') (hv : vals (r :: T) = vals (r' :: T')) (he : r.2.2 = r'.2.2) : r'.2.1 ≤ r.2.1 := by
  by_cases hlt : r.2.1 < r'.2.1
  · exfalso
    obtain ⟨h1, h2, h3⟩ := h
    obtain ⟨g1, g2, g3⟩ := h'
    rw [vals_cons, vals_cons] at hv
    obtain ⟨m, hm⟩ : ∃ m, (r.2.1 - r.1).toNat = m := ⟨_, rfl⟩
    have e1 : (List.replicate (r'.2.1 - r'.1).toNat r'.2.2 ++ vals T')[m]? = some r'.2.2 := by
      rw [List.getElem?_append_left (by rw [List.length_replicate]; omega), List.getElem?_replicate, if_pos (by omega)]
    rw [← hv, hm, List.getElem?_append_right (by rw [List.length_replicate]; omega), List.length_replicate, Nat.sub_self] at e1
    cases T with
    | nil => simp [vals] at e1
    | cons q T =>
      rw [vals_head h3] at e1
      have := Option.some.inj e1
      exact d.1 (by rw [he, this])
  · omega
theorem canon_unique {s e e' : Int} {R R' : List Rn} (h : Ch s R e) (d : Df R) (h' : Ch s R' e') (d' : Df R') (hv : vals R = vals R') : R = R' := by
  induction R generalizing s R' with
  | nil =>
    cases R' with
    | nil => rfl
    | cons r R' => have := vals_head h'; rw [← hv] at this; simp [vals] at this
  | cons r T ih =>
    cases R' with
    | nil => have := vals_head h; rw [hv] at this; simp [vals] at this
    | cons r' T' =>
      have e1 : r.2.2 = r'.2.2 := by
        have a := vals_head h
        have b := vals_head h'
        rw [hv, b] at a
        exact (Option.some.inj a).symm
      have l1 := first_le h d h' hv e1
      have l2 := first_le h' d' h hv.symm e1.symm
      obtain ⟨h1, h2, h3⟩ := h
      obtain ⟨g1, g2, g3⟩ := h'
      have er : r = r' := by
        obtain ⟨p, q, v⟩ := r
        obtain ⟨p', q', v'⟩ := r'
        simp only at h1 g1 l1 l2 e1
        have : q = q' := by omega
        subst this
        rw [h1, g1, e1]
      subst er
      rw [vals_cons, vals_cons] at hv
      have hv2 := List.append_cancel_left hv
      have dt : Df T := by cases T with | nil => trivial | cons q T => exact d.2
      have dt' : Df T' := by cases T' with | nil => trivial | cons q T' => exact d'.2
      rw [ih h3 dt g3 dt' hv2]
/-- One value each. -/
def units : Int → List Int → List Rn
  | _, [] => []
  | i, v :: l => (i, i + 1, v) :: units (i + 1) l
theorem units_fits (i : Int) (l : List Int) : Fits i (units i l) (i + l.length) := by
  induction l generalizing i with
  | nil => show i = _; simp
  | cons v l ih =>
    refine ⟨i + 1, .inr ⟨rfl, by show i < i + 1; omega, rfl⟩, ?_⟩
    have := ih (i + 1)
    have e : i + ((v :: l).length : Int) = i + 1 + (l.length : Int) := by rw [List.length_cons]; omega
    rw [e]; exact this
theorem units_vals (i : Int) (l : List Int) : vals (units i l) = l := by
  induction l generalizing i with
  | nil => rfl
  | cons v l ih =>
    rw [units, vals_cons, ih]
    have e : (i + 1 - i).toNat = 1 := by omega
    show List.replicate (i + 1 - i).toNat v ++ l = _
    rw [e]; rfl
/-- The reference's runs of some values. -/
def runs (l : List Int) : List Rn := (units 0 l).foldl app []
theorem runs_ok (l : List Int) : Ch 0 (runs l) l.length ∧ Df (runs l) ∧ vals (runs l) = l := by
  obtain ⟨h1, h2, h3⟩ := fold_ok (units 0 l) (J := []) (show Ch 0 [] 0 from rfl) trivial (units_fits 0 l)
  rw [Int.zero_add] at h1
  refine ⟨h1, h2, ?_⟩
  unfold runs
  rw [h3, units_vals, vals_nil, List.nil_append]
/-- A map's runs are the reference's runs of its values. -/
theorem runs_unique {e : Int} {R : List Rn} (h : Ch 0 R e) (d : Df R) : R = runs (vals R) :=
  canon_unique h d (runs_ok _).1 (runs_ok _).2.1 (runs_ok _).2.2.symm
end Im
end Go.Proofs.Ytioehncdkdfcmaa
