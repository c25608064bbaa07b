/- Layer 6, plainly: numbers. -/
import Derived.Test.YtknbglcmjggkjaaLS
namespace Co
open Go.Lib (compareBytes)

theorem digs_app {P D : List Nat} (h : digs P < P.length) : digs (P ++ D) = digs P := by
  induction P with
  | nil => simp at h
  | cons c r ih =>
    simp only [List.cons_append, digs] at h ⊢
    by_cases hc : dig c = true
    · rw [if_pos hc] at h ⊢
      rw [if_pos hc, ih (by simp at h; omega)]
    · rw [if_neg hc, if_neg hc]
theorem digs_last {P : List Nat} (hne : P ≠ []) (h : ∀ x, P.getLast? = some x → dig x = false) : digs P < P.length := by
  induction P with
  | nil => exact absurd rfl hne
  | cons c r ih =>
    simp only [digs]
    cases r with
    | nil => rw [if_neg (by rw [h c (by simp)]; decide)]; simp
    | cons d r =>
      have := ih (by simp) (fun x hx => h x (by rw [List.getLast?_cons_cons]; exact hx))
      split
      · simp only [List.length_cons] at this ⊢; omega
      · simp
/-- A list that does not end with a digit ends the run. -/
theorem elems_split (up : Nat) (ig : Bool) (D : List Nat) (n : Nat) : ∀ P : List Nat, P.length ≤ n → (∀ x, P.getLast? = some x → dig x = false) → elems true up ig (P ++ D) = elems true up ig P ++ elems true up ig D := by
  induction n with
  | zero =>
    intro P h _
    have : P = [] := List.eq_nil_of_length_eq_zero (by omega)
    subst this
    rw [elems.eq_1]; rfl
  | succ n ih =>
    intro P hn hl
    cases P with
    | nil => rw [elems.eq_1]; rfl
    | cons c r =>
      have hd := digs_last (P := c :: r) (by simp) hl
      have he : digs (c :: (r ++ D)) = digs (c :: r) := digs_app (P := c :: r) hd
      rw [List.cons_append, elems.eq_2 (r := r ++ D), elems.eq_2 (r := r), he]
      by_cases h0 : 0 < digs (c :: r)
      · rw [if_pos ⟨rfl, h0⟩, if_pos ⟨rfl, h0⟩, ← List.cons_append, List.take_append_of_le_length (Nat.le_of_lt hd), List.drop_append_of_le_length (Nat.le_of_lt hd), ih _ (by rw [List.length_drop, List.length_cons] at *; omega) (fun x hx => hl x (by rw [List.getLast?_drop, if_neg (by omega)] at hx; exact hx)), List.append_assoc]
      · rw [if_neg (by omega), if_neg (by omega), ih r (by simp at hn; omega) (fun x hx => by
          cases r with
          | nil => simp at hx
          | cons d r => exact hl x (by rw [List.getLast?_cons_cons]; exact hx)), List.append_assoc]
theorem digs_full {D : List Nat} (h : ∀ x ∈ D, dig x = true) : digs D = D.length := by
  induction D with
  | nil => rfl
  | cons c r ih => simp only [digs]; rw [if_pos (h c (by simp)), ih (fun x hx => h x (by simp [hx]))]; rfl
theorem elems_run (up : Nat) (ig : Bool) {D : List Nat} (hne : D ≠ []) (h : ∀ x ∈ D, dig x = true) : elems true up ig D = numE D := by
  cases D with
  | nil => exact absurd rfl hne
  | cons c r =>
    have := digs_full h
    rw [elems.eq_2, this, if_pos ⟨rfl, by simp⟩, List.take_length, List.drop_length, elems.eq_1, List.append_nil]
/-- The digits of a number, as points. -/
def dcm (n : Nat) : List Nat := if n < 10 then [48 + n] else dcm (n / 10) ++ [48 + n % 10]
theorem dcm_dig (n : Nat) : ∀ x ∈ dcm n, dig x = true := by
  induction n using Nat.strongRecOn with
  | ind n ih =>
    intro x hx
    rw [dcm] at hx
    by_cases h : n < 10
    · rw [if_pos h] at hx
      rw [List.mem_singleton.1 hx]
      simp [dig]; omega
    · rw [if_neg h] at hx
      rcases List.mem_append.1 hx with hx | hx
      · exact ih _ (by omega) x hx
      · rw [List.mem_singleton.1 hx]
        simp [dig]; omega
theorem dcm_ne (n : Nat) : dcm n ≠ [] := by
  rw [dcm]
  by_cases h : n < 10
  · rw [if_pos h]; simp
  · rw [if_neg h]; simp
theorem dcm_head (n : Nat) (h : 0 < n) : ∃ c r, dcm n = c :: r ∧ c ≠ 48 := by
  induction n using Nat.strongRecOn with
  | ind n ih =>
    rw [dcm]
    by_cases h9 : n < 10
    · rw [if_pos h9]; exact ⟨_, _, rfl, by omega⟩
    · rw [if_neg h9]
      obtain ⟨c, r, e, hc⟩ := ih (n / 10) (by omega) (by omega)
      exact ⟨c, r ++ [48 + n % 10], by rw [e]; rfl, hc⟩
theorem strip_ne {c : Nat} {r : List Nat} (h : c ≠ 48) : strip (c :: r) = c :: r := by
  cases r with
  | nil => rfl
  | cons d r => rw [strip, if_neg h]
theorem strip_dcm (n : Nat) : strip (dcm n) = dcm n := by
  by_cases h : 0 < n
  · obtain ⟨c, r, e, hc⟩ := dcm_head n h
    rw [e, strip_ne hc]
  · have : n = 0 := by omega
    subst this
    rw [dcm]; rfl
theorem strip_zeros (z : Nat) {D : List Nat} (h : D ≠ []) : strip (List.replicate z 48 ++ D) = strip D := by
  induction z with
  | zero => rfl
  | succ z ih =>
    rw [List.replicate_succ, List.cons_append]
    cases hD : List.replicate z 48 ++ D with
    | nil => simp at hD; exact absurd hD.2 h
    | cons d r => rw [strip, if_pos rfl, ← hD, ih]
/-- The value of digits. -/
def valD : List Nat → Nat
  | [] => 0
  | c :: r => (c - 48) * 10 ^ r.length + valD r
theorem valD_lt {l : List Nat} (h : ∀ x ∈ l, dig x = true) : valD l < 10 ^ l.length := by
  induction l with
  | nil => simp [valD]
  | cons c r ih =>
    have h1 := ih (fun x hx => h x (by simp [hx]))
    have h2 : c - 48 ≤ 9 := by have := h c (by simp); simp [dig] at this; omega
    have h3 := Nat.mul_le_mul_right (10 ^ r.length) h2
    simp only [valD, List.length_cons, Nat.pow_succ]
    omega
theorem valD_snoc (l : List Nat) (x : Nat) : valD (l ++ [x]) = valD l * 10 + (x - 48) := by
  induction l with
  | nil => simp [valD]
  | cons c r ih =>
    simp only [List.cons_append, valD, ih, List.length_append, List.length_singleton, Nat.pow_succ]
    rw [← Nat.mul_assoc]
    omega
theorem valD_dcm (n : Nat) : valD (dcm n) = n := by
  induction n using Nat.strongRecOn with
  | ind n ih =>
    rw [dcm]
    by_cases h : n < 10
    · rw [if_pos h]; simp [valD]
    · rw [if_neg h, valD_snoc, ih _ (by omega)]
      omega
def dW (c : Nat) : Nat := 512 + (c - 48)
theorem ord_step (x y t vr vs : Nat) (o : Int) (h1 : vr < t) (h2 : vs < t) (ho : o = if vr < vs then -1 else if vs < vr then 1 else 0) :
    (if 512 + x < 512 + y then (-1 : Int) else if 512 + y < 512 + x then 1 else o) = if x * t + vr < y * t + vs then -1 else if y * t + vs < x * t + vr then 1 else 0 := by
  by_cases c1 : x < y
  · have := Nat.mul_le_mul_right t (Nat.succ_le_of_lt c1)
    rw [Nat.succ_mul] at this
    rw [if_pos (by omega), if_pos (by omega)]
  · by_cases c2 : y < x
    · have := Nat.mul_le_mul_right t (Nat.succ_le_of_lt c2)
      rw [Nat.succ_mul] at this
      rw [if_neg (by omega), if_pos (by omega), if_neg (by omega), if_pos (by omega)]
    · have e : x = y := by omega
      subst e
      rw [if_neg (by omega), if_neg (by omega), ho]
      by_cases d1 : vr < vs
      · rw [if_pos d1, if_pos (by omega)]
      · by_cases d2 : vs < vr
        · rw [if_neg d1, if_pos d2, if_neg (by omega), if_pos (by omega)]
        · rw [if_neg d1, if_neg d2, if_neg (by omega), if_neg (by omega)]
theorem ord_val : ∀ {l l' : List Nat}, l.length = l'.length → (∀ x ∈ l, dig x = true) → (∀ x ∈ l', dig x = true) → ordL (l.map dW) (l'.map dW) = if valD l < valD l' then -1 else if valD l' < valD l then 1 else 0
  | [], [], _, _, _ => rfl
  | a :: r, b :: s, hl, ha, hb => by
    have hl' : r.length = s.length := by simpa using hl
    have ih := ord_val hl' (fun x hx => ha x (by simp [hx])) (fun x hx => hb x (by simp [hx]))
    have v1 := valD_lt (fun x hx => ha x (List.mem_cons_of_mem a hx))
    have v2 := valD_lt (fun x hx => hb x (List.mem_cons_of_mem b hx))
    have h := ord_step (a - 48) (b - 48) (10 ^ r.length) (valD r) (valD s) _ v1 (by rw [hl']; exact v2) ih
    have e1 : valD (a :: r) = (a - 48) * 10 ^ r.length + valD r := rfl
    have e2 : valD (b :: s) = (b - 48) * 10 ^ r.length + valD s := by rw [hl']; rfl
    rw [e1, e2, ← h]
    rfl
theorem dcm_low (n : Nat) (h : 10 ≤ n) : 10 ^ ((dcm n).length - 1) ≤ n := by
  induction n using Nat.strongRecOn with
  | ind n ih =>
    rw [dcm, if_neg (by omega)]
    rw [List.length_append, List.length_singleton, Nat.add_sub_cancel]
    by_cases h9 : n / 10 < 10
    · rw [dcm, if_pos h9]; simpa using h
    · have h1 := ih (n / 10) (by omega) (by omega)
      obtain ⟨k, hk⟩ : ∃ k, (dcm (n / 10)).length = k + 1 := ⟨(dcm (n / 10)).length - 1, by have := List.length_pos_iff.2 (dcm_ne (n / 10)); omega⟩
      rw [hk] at h1 ⊢
      rw [Nat.add_sub_cancel] at h1
      rw [Nat.pow_succ]
      omega
theorem dcm_one {n : Nat} (h : n < 10) : (dcm n).length = 1 := by rw [dcm, if_pos h]; rfl
theorem dcm_lt_of_len {a b : Nat} (h : (dcm a).length < (dcm b).length) : a < b := by
  have h1 := valD_lt (dcm_dig a)
  rw [valD_dcm] at h1
  by_cases hb : b < 10
  · rw [dcm_one hb] at h
    have := List.length_pos_iff.2 (dcm_ne a)
    omega
  · have h2 := dcm_low b (by omega)
    have h3 : 10 ^ (dcm a).length ≤ 10 ^ ((dcm b).length - 1) := Nat.pow_le_pow_right (by decide) (by omega)
    omega
/-- The weights of a number on level 1. -/
theorem lev_num (D : List Nat) : lev (·.1) (numE D) = (768 + (strip D).length) :: (strip D).map dW := by
  unfold lev numE
  simp only [List.map_cons, List.map_map]
  rw [List.filter_eq_self.2]
  · rfl
  · intro x hx
    rcases List.mem_cons.1 hx with rfl | hx
    · simp
    · obtain ⟨c, _, rfl⟩ := List.mem_map.1 hx
      simp
theorem num_ord (a b : Nat) : ordL ((768 + (dcm a).length) :: (dcm a).map dW) ((768 + (dcm b).length) :: (dcm b).map dW) = if a < b then -1 else if b < a then 1 else 0 := by
  simp only [ordL]
  by_cases h1 : (dcm a).length < (dcm b).length
  · rw [if_pos (by omega), if_pos (dcm_lt_of_len h1)]
  · by_cases h2 : (dcm b).length < (dcm a).length
    · have := dcm_lt_of_len h2
      rw [if_neg (by omega), if_pos (by omega), if_neg (by omega), if_pos this]
    · rw [if_neg (by omega), if_neg (by omega), ord_val (by omega) (dcm_dig a) (dcm_dig b), valD_dcm, valD_dcm]
/-- The comparison of a text with a number behind it. -/
theorem cmp_num (up : Nat) (ig : Bool) (s s' : List UInt8) (P : List Nat) (hl : ∀ x, P.getLast? = some x → dig x = false) (a b z : Nat) :
    cmpK 1 s s' (elems true up ig (P ++ (List.replicate z 48 ++ dcm a))) (elems true up ig (P ++ dcm b)) = if a < b then -1 else if b < a then 1 else 0 := by
  have hz : ∀ x ∈ List.replicate z 48 ++ dcm a, dig x = true := by
    intro x hx
    rcases List.mem_append.1 hx with hx | hx
    · rw [(List.mem_replicate.1 hx).2]; decide
    · exact dcm_dig a x hx
  have hzn : List.replicate z 48 ++ dcm a ≠ [] := by
    intro e
    have := (List.append_eq_nil_iff.1 e).2
    exact dcm_ne a this
  rw [elems_split up ig _ P.length P (Nat.le_refl _) hl, elems_split up ig _ P.length P (Nat.le_refl _) hl, elems_run up ig hzn hz, elems_run up ig (dcm_ne b) (dcm_dig b)]
  have e : ordL (lev (·.1) (elems true up ig P ++ numE (List.replicate z 48 ++ dcm a))) (lev (·.1) (elems true up ig P ++ numE (dcm b))) = if a < b then -1 else if b < a then 1 else 0 := by
    rw [lev_app, lev_app, ordL_pre, lev_num, lev_num, strip_zeros z (dcm_ne a), strip_dcm, strip_dcm, num_ord]
  unfold cmpK
  rw [e]
  by_cases h1 : a < b
  · rw [if_pos h1]; rfl
  · by_cases h2 : b < a
    · rw [if_neg h1, if_pos h2]; rfl
    · rw [if_neg h1, if_neg h2]; rfl
theorem dcm_len (n k : Nat) (h : n < 10 ^ (k + 1)) : (dcm n).length ≤ k + 1 := by
  by_cases hn : n < 10
  · rw [dcm_one hn]; omega
  · have := dcm_low n (by omega)
    have : 10 ^ ((dcm n).length - 1) < 10 ^ (k + 1) := Nat.lt_of_le_of_lt this h
    have := (Nat.pow_lt_pow_iff_right (a := 10) (by decide)).1 this
    omega
end Co
