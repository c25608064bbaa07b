/- Layer 5, plainly: runs of pairs of values; what two maps' runs give side by side. -/
import Derived.Test.YtioehncdkdfcmaaW1
namespace Go.Proofs.Ytioehncdkdfcmaa
namespace Im2

abbrev Rq := Int × Int × (Int × Int)
def app (J : List Rq) (r : Rq) : List Rq :=
  if r.2.1 ≤ r.1 then J
  else match J.getLast? with
    | some l => if l.2.2 = r.2.2 then J.dropLast ++ [(l.1, r.2.1, l.2.2)] else J ++ [r]
    | none => J ++ [r]

/-- The values that some runs stand for. -/
def vals (R : List Rq) : List (Int × Int) := R.flatMap fun r => List.replicate (r.2.1 - r.1).toNat r.2.2
theorem vals_nil : vals [] = [] := rfl
theorem vals_cons (r : Rq) (R : List Rq) : vals (r :: R) = List.replicate (r.2.1 - r.1).toNat r.2.2 ++ vals R := rfl
theorem vals_append (A B : List Rq) : vals (A ++ B) = vals A ++ vals B := by simp [vals]
theorem vals_one (r : Rq) : vals [r] = List.replicate (r.2.1 - r.1).toNat r.2.2 := by simp [vals]
/-- Runs that follow each other from s to e, none empty. -/
def Ch : Int → List Rq → Int → Prop
  | s, [], e => s = e
  | s, r :: R, e => r.1 = s ∧ s < r.2.1 ∧ Ch r.2.1 R e
/-- Neighbours have different values. -/
def Df : List Rq → Prop
  | [] => True
  | [_] => True
  | r :: q :: R => r.2.2 ≠ q.2.2 ∧ Df (q :: R)
theorem ch_append {s e : Int} {A B : List Rq} : Ch s (A ++ B) e ↔ ∃ m, Ch s A m ∧ Ch m B e := by
  induction A generalizing s with
  | nil => exact ⟨fun h => ⟨s, rfl, h⟩, fun ⟨m, h1, h2⟩ => by cases (show s = m from h1); exact h2⟩
  | cons a A ih =>
    constructor
    · rintro ⟨h1, h2, h3⟩
      obtain ⟨m, h4, h5⟩ := ih.1 h3
      exact ⟨m, ⟨h1, h2, h4⟩, h5⟩
    · rintro ⟨m, ⟨h1, h2, h4⟩, h5⟩
      exact ⟨h1, h2, ih.2 ⟨m, h4, h5⟩⟩
theorem ch_le {s e : Int} {A : List Rq} (h : Ch s A e) : s ≤ e := by
  induction A generalizing s with
  | nil => exact Int.le_of_eq h
  | cons a A ih => have := ih h.2.2; have := h.2.1; omega
theorem ch_len {s e : Int} {A : List Rq} (h : Ch s A e) : ((vals A).length : Int) = e - s := by
  induction A generalizing s with
  | nil => cases (show s = e from h); simp [vals]
  | cons a A ih =>
    obtain ⟨h1, h2, h3⟩ := h
    have := ih h3
    rw [vals_cons, List.length_append, List.length_replicate]
    omega
theorem df_snoc2 (A : List Rq) (l r : Rq) : Df (A ++ [l, r]) ↔ Df (A ++ [l]) ∧ l.2.2 ≠ r.2.2 := by
  induction A with
  | nil => simp [Df]
  | cons a A ih =>
    cases A with
    | nil => simp only [List.cons_append, List.nil_append, Df, and_true]
    | cons b A =>
      simp only [List.cons_append, Df] at ih ⊢
      rw [ih, and_assoc]
theorem df_last (A : List Rq) (l l' : Rq) (hv : l.2.2 = l'.2.2) (h : Df (A ++ [l])) : Df (A ++ [l']) := by
  induction A with
  | nil => trivial
  | cons a A ih =>
    cases A with
    | nil => exact ⟨hv ▸ h.1, trivial⟩
    | cons b A => exact ⟨h.1, ih h.2⟩
/-- The next piece fits: it is empty, or begins where the runs end. -/
def Fit (m : Int) (r : Rq) (m' : Int) : Prop := (r.2.1 ≤ r.1 ∧ m' = m) ∨ (r.1 = m ∧ r.1 < r.2.1 ∧ m' = r.2.1)
theorem app_ok {s m m' : Int} {J : List Rq} {r : Rq} (hJ : Ch s J m) (hd : Df J) (hf : Fit m r m') : Ch s (app J r) m' ∧ Df (app J r) ∧ vals (app J r) = vals J ++ vals [r] := by
  rcases hf with ⟨h1, rfl⟩ | ⟨h1, h2, rfl⟩
  · unfold app
    rw [if_pos h1]
    refine ⟨hJ, hd, ?_⟩
    have : (r.2.1 - r.1).toNat = 0 := by omega
    rw [vals_one, this]; simp
  · unfold app
    rw [if_neg (by omega)]
    rcases List.eq_nil_or_concat J with rfl | ⟨A, l, rfl⟩
    · have e : s = m := hJ
      refine ⟨⟨by omega, by omega, rfl⟩, trivial, rfl⟩
    · rw [List.concat_eq_append] at hJ hd ⊢
      rw [List.getLast?_concat, List.dropLast_concat]
      obtain ⟨k, hA, hl⟩ := ch_append.1 hJ
      obtain ⟨g1, g2, g3⟩ := hl
      have g3 : l.2.1 = m := g3
      dsimp only
      by_cases hv : l.2.2 = r.2.2
      · rw [if_pos hv]
        refine ⟨ch_append.2 ⟨k, hA, g1, by show k < r.2.1; omega, rfl⟩, df_last A l _ rfl hd, ?_⟩
        rw [vals_append, vals_append, vals_one, vals_one, vals_one, List.append_assoc]
        congr 1
        show List.replicate (r.2.1 - l.1).toNat l.2.2 = _
        rw [hv, List.replicate_append_replicate]
        congr 1
        omega
      · rw [if_neg hv]
        refine ⟨ch_append.2 ⟨m, hJ, h1, by omega, rfl⟩, ?_, vals_append _ _⟩
        have := (df_snoc2 A l r).2 ⟨hd, hv⟩
        simpa using this
/-- Pieces that fit one behind the other. -/
def Fits : Int → List Rq → Int → Prop
  | m, [], e => m = e
  | m, r :: R, e => ∃ m', Fit m r m' ∧ Fits m' R e
theorem fold_ok {s m e : Int} (R : List Rq) {J : List Rq} (hJ : Ch s J m) (hd : Df J) (hf : Fits m R e) : Ch s (R.foldl app J) e ∧ Df (R.foldl app J) ∧ vals (R.foldl app J) = vals J ++ vals R := by
  induction R generalizing J m with
  | nil => cases (show m = e from hf); exact ⟨hJ, hd, by simp [vals]⟩
  | cons r R ih =>
    obtain ⟨m', h1, h2⟩ := hf
    obtain ⟨a1, a2, a3⟩ := app_ok hJ hd h1
    obtain ⟨b1, b2, b3⟩ := ih a1 a2 h2
    refine ⟨b1, b2, ?_⟩
    rw [List.foldl_cons, b3, a3, List.append_assoc, ← vals_append]; rfl
theorem fits_append {s m e : Int} {A B : List Rq} (h1 : Fits s A m) (h2 : Fits m B e) : Fits s (A ++ B) e := by
  induction A generalizing s with
  | nil => cases (show s = m from h1); exact h2
  | cons a A ih => obtain ⟨m', h3, h4⟩ := h1; exact ⟨m', h3, ih h4⟩
/-- Two canonical lists of runs of the same values from the same place are the same. -/
theorem vals_head {s e : Int} {r : Rq} {R : List Rq} (h : Ch s (r :: R) e) : (vals (r :: R))[0]? = some r.2.2 := by
  obtain ⟨h1, h2, _⟩ := h
  obtain ⟨n, hn⟩ : ∃ n, (r.2.1 - r.1).toNat = n + 1 := ⟨(r.2.1 - r.1).toNat - 1, by omega⟩
  rw [vals_cons, hn, List.replicate_succ]; rfl

theorem first_le {s e e' : Int} {r r' : Rq} {T T' : List Rq} (h : Ch s (r :: T) e) (d : Df (r :: T)) (h' : Ch s (r' :: T') e') (hv : vals (r :: T) = vals (r' :: T')) (he : r.2.2 = r'.2.2) : r'.2.1 ≤ r.2.1 := by
  by_cases hlt : r.2.1 < r'.2.1
  · exfalso
    obtain ⟨h1, h2, h3⟩ := h
    obtain ⟨g1, g2, g3⟩ := h'
    rw [vals_cons, vals_cons] at hv
    obtain ⟨m, hm⟩ : ∃ m, (r.2.1 - r.1).toNat = m := ⟨_, rfl⟩
    have e1 : (List.replicate (r'.2.1 - r'.1).toNat r'.2.2 ++ vals T')[m]? = some r'.2.2 := by
      rw [List.getElem?_append_left (by rw [List.length_replicate]; omega), List.getElem?_replicate, if_pos (by omega)]
    rw [← hv, hm, List.getElem?_append_right (by rw [List.length_replicate]; omega), List.length_replicate, Nat.sub_self] at e1
    cases T with
    | nil => simp [vals] at e1
    | cons q T =>
      rw [vals_head h3] at e1
      have := Option.some.inj e1
      exact d.1 (by rw [he, this])
  · omega
theorem canon_unique {s e e' : Int} {R R' : List Rq} (h : Ch s R e) (d : Df R) (h' : Ch s R' e') (d' : Df R') (hv : vals R = vals R') : R = R' := by
  induction R generalizing s R' with
  | nil =>
    cases R' with
    | nil => rfl
    | cons r R' => have := vals_head h'; rw [← hv] at this; simp [vals] at this
  | cons r T ih =>
    cases R' with
    | nil => have := vals_head h; rw [hv] at this; simp [vals] at this
    | cons r' T' =>
      have e1 : r.2.2 = r'.2.2 := by
        have a := vals_head h
        have b := vals_head h'
        rw [hv, b] at a
        exact (Option.some.inj a).symm
      have l1 := first_le h d h' hv e1
      have l2 := first_le h' d' h hv.symm e1.symm
      obtain ⟨h1, h2, h3⟩ := h
      obtain ⟨g1, g2, g3⟩ := h'
      have er : r = r' := by
        obtain ⟨p, q, v⟩ := r
        obtain ⟨p', q', v'⟩ := r'
        simp only at h1 g1 l1 l2 e1
        have : q = q' := by omega
        subst this
        rw [h1, g1, e1]
      subst er
      rw [vals_cons, vals_cons] at hv
      have hv2 := List.append_cancel_left hv
      have dt : Df T := by cases T with | nil => trivial | cons q T => exact d.2
      have dt' : Df T' := by cases T' with | nil => trivial | cons q T' => exact d'.2
      rw [ih h3 dt g3 dt' hv2]
/-- One value each. -/
def units : Int → List (Int × Int) → List Rq
  | _, [] => []
  | i, v :: l => (i, i + 1, v) :: units (i + 1) l
theorem units_fits (i : Int) (l : List (Int × Int)) : Fits i (units i l) (i + l.length) := by
  induction l generalizing i with
  | nil => show i = _; simp
  | cons v l ih =>
    refine ⟨i + 1, .inr ⟨rfl, by show i < i + 1; omega, rfl⟩, ?_⟩
    have := ih (i + 1)
    have e : i + ((v :: l).length : Int) = i + 1 + (l.length : Int) := by rw [List.length_cons]; omega
    rw [e]; exact this
theorem units_vals (i : Int) (l : List (Int × Int)) : vals (units i l) = l := by
  induction l generalizing i with
  | nil => rfl
  | cons v l ih =>
    rw [units, vals_cons, ih]
    have e : (i + 1 - i).toNat = 1 := by omega
    show List.replicate (i + 1 - i).toNat v ++ l = _
    rw [e]; rfl
/-- The reference's runs of some values. -/
def runs (l : List (Int × Int)) : List Rq := (units 0 l).foldl app []
theorem runs_ok (l : List (Int × Int)) : Ch 0 (runs l) l.length ∧ Df (runs l) ∧ vals (runs l) = l := by
  obtain ⟨h1, h2, h3⟩ := fold_ok (units 0 l) (J := []) (show Ch 0 [] 0 from rfl) trivial (units_fits 0 l)
  rw [Int.zero_add] at h1
  refine ⟨h1, h2, ?_⟩
  unfold runs
  rw [h3, units_vals, vals_nil, List.nil_append]
/-- A map's runs are the reference's runs of its values. -/
theorem runs_unique {e : Int} {R : List Rq} (h : Ch 0 R e) (d : Df R) : R = runs (vals R) :=
  canon_unique h d (runs_ok _).1 (runs_ok _).2.1 (runs_ok _).2.2.symm
theorem units_snoc (i : Int) (a : List (Int × Int)) (x : Int × Int) : units i (a ++ [x]) = units i a ++ [(i + a.length, i + a.length + 1, x)] := by
  induction a generalizing i with
  | nil => simp [units]
  | cons y a ih =>
    rw [List.cons_append, units, ih, units, List.cons_append, List.length_cons]
    have e : i + 1 + (a.length : Int) = i + ((a.length + 1 : Nat) : Int) := by omega
    rw [e]
theorem units_take (l : List (Int × Int)) {k : Nat} (h : k < l.length) : units 0 (l.take (k + 1)) = units 0 (l.take k) ++ [((k : Int), (k : Int) + 1, l[k])] := by
  rw [List.take_succ_eq_append_getElem h, units_snoc, List.length_take, Nat.min_eq_left (by omega), Int.zero_add]
theorem app_nil (r : Rq) (h : r.1 < r.2.1) : app [] r = [r] := by unfold app; rw [if_neg (by omega)]; rfl
theorem app_join (L : List Rq) (q r : Rq) (h : r.1 < r.2.1) (e : q.2.2 = r.2.2) : app (L ++ [q]) r = L ++ [(q.1, r.2.1, q.2.2)] := by
  unfold app
  rw [if_neg (by omega)]
  simp only [List.getLast?_concat, List.dropLast_concat]
  rw [if_pos e]
theorem app_put (L : List Rq) (q r : Rq) (h : r.1 < r.2.1) (e : q.2.2 ≠ r.2.2) : app (L ++ [q]) r = L ++ [q] ++ [r] := by
  unfold app
  rw [if_neg (by omega)]
  simp only [List.getLast?_concat, List.dropLast_concat]
  rw [if_neg e]
end Im2
end Go.Proofs.Ytioehncdkdfcmaa
