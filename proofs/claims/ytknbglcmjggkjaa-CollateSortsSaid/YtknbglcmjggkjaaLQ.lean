/- Layer 6, plainly: the order of sort keys. -/
import Derived.Test.YtknbglcmjggkjaaLP
import Derived.Lib.Bytealg
namespace Co
open Go.Lib (compareBytes)

theorem cb_self (a : List UInt8) : compareBytes a a = 0 := by
  induction a with
  | nil => rfl
  | cons x a ih => simp only [compareBytes, UInt8.lt_irrefl, if_false]; exact ih
theorem cb_val (a b : List UInt8) : compareBytes a b = -1 ∨ compareBytes a b = 0 ∨ compareBytes a b = 1 := by
  induction a generalizing b with
  | nil => cases b <;> simp [compareBytes]
  | cons x a ih =>
    cases b with
    | nil => simp [compareBytes]
    | cons y b =>
      simp only [compareBytes]
      split
      · exact .inl rfl
      · split
        · exact .inr (.inr rfl)
        · exact ih b
theorem cb_anti (a b : List UInt8) : compareBytes b a = 0 - compareBytes a b := by
  induction a generalizing b with
  | nil => cases b <;> simp [compareBytes]
  | cons x a ih =>
    cases b with
    | nil => simp [compareBytes]
    | cons y b =>
      simp only [compareBytes]
      by_cases h1 : x < y
      · have h2 : ¬ y < x := fun h => UInt8.lt_asymm h1 h
        simp [h1, h2]
      · by_cases h2 : y < x
        · simp [h1, h2]
        · simp only [h1, h2, if_false]; exact ih b
theorem cb_zero {a b : List UInt8} (h : compareBytes a b = 0) : a = b := by
  induction a generalizing b with
  | nil => cases b with
    | nil => rfl
    | cons y b => simp [compareBytes] at h
  | cons x a ih =>
    cases b with
    | nil => simp [compareBytes] at h
    | cons y b =>
      simp only [compareBytes] at h
      by_cases h1 : x < y
      · simp [h1] at h
      · by_cases h2 : y < x
        · simp [h1, h2] at h
        · simp only [h1, h2, if_false] at h
          have : x = y := UInt8.le_antisymm (UInt8.not_lt.1 h2) (UInt8.not_lt.1 h1)
          rw [this, ih h]
/-- Both limbs of the law of orders. -/
theorem cb_trans (a b c : List UInt8) : (0 < compareBytes a b ∨ 0 < compareBytes b c ∨ compareBytes a c = min (compareBytes a b) (compareBytes b c)) ∧ (compareBytes a b < 0 ∨ compareBytes b c < 0 ∨ compareBytes a c = max (compareBytes a b) (compareBytes b c)) := by
  induction a generalizing b c with
  | nil =>
    cases b with
    | nil => cases c <;> simp [compareBytes] <;> decide
    | cons y b => cases c with
      | nil => simp [compareBytes]
      | cons z c =>
        simp only [compareBytes]
        have := cb_val b c
        split
        · omega
        · split
          · omega
          · omega
  | cons x a ih =>
    cases b with
    | nil => cases c <;> simp [compareBytes] <;> decide
    | cons y b =>
      cases c with
      | nil =>
        simp only [compareBytes]
        have := cb_val a b
        split
        · omega
        · split
          · omega
          · omega
      | cons z c =>
        simp only [compareBytes]
        have h := ih b c
        have e1 : ∀ p q : UInt8, (p < q) = (p.toNat < q.toNat) := fun p q => by rw [UInt8.lt_iff_toNat_lt]
        simp only [e1]
        by_cases a1 : x.toNat < y.toNat
        · by_cases b1 : y.toNat < z.toNat
          · rw [if_pos a1, if_pos b1, if_pos (by omega)]; omega
          · by_cases b2 : z.toNat < y.toNat
            · rw [if_pos a1, if_neg b1, if_pos b2]; omega
            · rw [if_pos a1, if_neg b1, if_neg b2, if_pos (by omega)]
              have := cb_val b c
              omega
        · by_cases a2 : y.toNat < x.toNat
          · rw [if_neg a1, if_pos a2]
            by_cases b1 : y.toNat < z.toNat
            · rw [if_pos b1]; omega
            · by_cases b2 : z.toNat < y.toNat
              · rw [if_neg b1, if_pos b2, if_neg (by omega), if_pos (by omega)]; omega
              · rw [if_neg b1, if_neg b2, if_neg (by omega), if_pos (by omega)]
                have := cb_val b c
                omega
          · rw [if_neg a1, if_neg a2]
            by_cases b1 : y.toNat < z.toNat
            · rw [if_pos b1, if_pos (by omega)]
              have := cb_val a b
              omega
            · by_cases b2 : z.toNat < y.toNat
              · rw [if_neg b1, if_pos b2, if_neg (by omega), if_pos (by omega)]
                have := cb_val a b
                omega
              · rw [if_neg b1, if_neg b2, if_neg (by omega), if_neg (by omega)]
                exact h
theorem encW_len (n w : Nat) : (encW n w).length = n := by
  induction n generalizing w with
  | zero => rfl
  | succ n ih => simp [encW, ih]
theorem encW_mod (n w : Nat) : encW n w = encW n (w % 256 ^ n) := by
  induction n generalizing w with
  | zero => rfl
  | succ n ih =>
    have hp : 0 < 256 ^ n := Nat.pow_pos (by decide)
    simp only [encW]
    rw [ih w, ih (w % 256 ^ (n + 1))]
    have e2 : w % 256 ^ (n + 1) % 256 ^ n = w % 256 ^ n := Nat.mod_mod_of_dvd _ ⟨256, by rw [Nat.pow_succ]⟩
    rw [e2]
    have key : w % 256 ^ (n + 1) / 256 ^ n = w / 256 ^ n % 256 := by rw [Nat.pow_succ, Nat.mod_mul_right_div_self]
    rw [key]
    congr 1
    apply UInt8.toNat_inj.1
    rw [UInt8.toNat_ofNat', UInt8.toNat_ofNat', show (2 : Nat) ^ 8 = 256 from rfl, Nat.mod_mod]
theorem cb_encW (n : Nat) : ∀ (w w' : Nat) (u v : List UInt8), w < 256 ^ n → w' < 256 ^ n → compareBytes (encW n w ++ u) (encW n w' ++ v) = if w < w' then -1 else if w' < w then 1 else compareBytes u v := by
  induction n with
  | zero =>
    intro w w' u v h h'
    have : w = 0 := by simpa using h
    have : w' = 0 := by simpa using h'
    subst w w'
    simp [encW]
  | succ n ih =>
    intro w w' u v h h'
    have hp : 0 < 256 ^ n := Nat.pow_pos (by decide)
    rw [Nat.pow_succ] at h h'
    have d1 : w / 256 ^ n < 256 := Nat.div_lt_of_lt_mul h
    have d2 : w' / 256 ^ n < 256 := Nat.div_lt_of_lt_mul h'
    simp only [encW, List.cons_append, compareBytes]
    have e1 : ∀ p q : Nat, p < 256 → q < 256 → (UInt8.ofNat p < UInt8.ofNat q ↔ p < q) := fun p q hp hq => by
      rw [UInt8.lt_iff_toNat_lt, UInt8.toNat_ofNat', UInt8.toNat_ofNat', Nat.mod_eq_of_lt hp, Nat.mod_eq_of_lt hq]
    have f1 := e1 _ _ d1 d2
    have f2 := e1 _ _ d2 d1
    have m1 := Nat.div_add_mod w (256 ^ n)
    have m2 := Nat.div_add_mod w' (256 ^ n)
    have l1 := Nat.mod_lt w hp
    have l2 := Nat.mod_lt w' hp
    by_cases a1 : w / 256 ^ n < w' / 256 ^ n
    · rw [if_pos (f1.2 a1)]
      have : w < w' := by
        have := Nat.mul_le_mul_left (256 ^ n) (Nat.succ_le_of_lt a1)
        rw [Nat.mul_succ] at this
        omega
      rw [if_pos this]
    · by_cases a2 : w' / 256 ^ n < w / 256 ^ n
      · rw [if_neg (fun h => a1 (f1.1 h)), if_pos (f2.2 a2)]
        have : w' < w := by
          have := Nat.mul_le_mul_left (256 ^ n) (Nat.succ_le_of_lt a2)
          rw [Nat.mul_succ] at this
          omega
        rw [if_neg (by omega), if_pos this]
      · rw [if_neg (fun h => a1 (f1.1 h)), if_neg (fun h => a2 (f2.1 h)), encW_mod n w, encW_mod n w', ih _ _ u v l1 l2]
        have e : w / 256 ^ n = w' / 256 ^ n := by omega
        rw [e] at m1
        by_cases b1 : w < w'
        · rw [if_pos (by omega), if_pos b1]
        · by_cases b2 : w' < w
          · rw [if_neg (by omega), if_pos (by omega), if_neg b1, if_pos b2]
          · rw [if_neg (by omega), if_neg (by omega), if_neg b1, if_neg b2]
/-- The order of lists of weights. -/
def ordL : List Nat → List Nat → Int
  | [], [] => 0
  | [], _ :: _ => -1
  | _ :: _, [] => 1
  | a :: r, b :: s => if a < b then -1 else if b < a then 1 else ordL r s
/-- Weights of a level: not 0, and no more than the bytes hold. -/
def Ws (n : Nat) (l : List Nat) : Prop := ∀ w ∈ l, 0 < w ∧ w < 256 ^ n
theorem cb_encL (n : Nat) : ∀ (l l' : List Nat) (u v : List UInt8), Ws n l → Ws n l' → compareBytes (encL n l ++ u) (encL n l' ++ v) = if ordL l l' = 0 then compareBytes u v else ordL l l' := by
  intro l
  have hp : 0 < 256 ^ n := Nat.pow_pos (by decide)
  induction l with
  | nil =>
    intro l' u v _ h'
    cases l' with
    | nil =>
      simp only [encL, List.map_nil, List.flatten_nil, List.nil_append, ordL, if_true]
      rw [cb_encW n 0 0 u v hp hp, if_neg (by omega), if_neg (by omega)]
    | cons b r =>
      obtain ⟨b1, b2⟩ := h' b (by simp)
      simp only [encL, List.map_nil, List.map_cons, List.flatten_nil, List.flatten_cons, List.nil_append, ordL, List.append_assoc]
      rw [cb_encW n 0 b u _ hp b2, if_pos b1]
      rfl
  | cons a r ih =>
    intro l' u v h h'
    obtain ⟨a1, a2⟩ := h a (by simp)
    cases l' with
    | nil =>
      simp only [encL, List.map_nil, List.map_cons, List.flatten_nil, List.flatten_cons, List.nil_append, ordL, List.append_assoc]
      rw [cb_encW n a 0 _ v a2 hp, if_neg (by omega), if_pos a1]
      rfl
    | cons b s =>
      obtain ⟨b1, b2⟩ := h' b (by simp)
      have := ih s u v (fun w hw => h w (by simp [hw])) (fun w hw => h' w (by simp [hw]))
      simp only [encL, List.append_assoc] at this
      simp only [encL, List.map_cons, List.flatten_cons, List.append_assoc]
      rw [cb_encW n a b _ _ a2 b2]
      by_cases c1 : a < b
      · rw [if_pos c1, show ordL (a :: r) (b :: s) = -1 by simp [ordL, c1]]; rfl
      · by_cases c2 : b < a
        · rw [if_neg c1, if_pos c2, show ordL (a :: r) (b :: s) = 1 by simp [ordL, c1, c2]]; rfl
        · rw [if_neg c1, if_neg c2, show ordL (a :: r) (b :: s) = ordL r s by simp [ordL, c1, c2]]
          exact this
theorem ordL_zero {l l' : List Nat} (h : ordL l l' = 0) : l = l' := by
  induction l generalizing l' with
  | nil => cases l' with
    | nil => rfl
    | cons b s => simp [ordL] at h
  | cons a r ih =>
    cases l' with
    | nil => simp [ordL] at h
    | cons b s =>
      simp only [ordL] at h
      by_cases c1 : a < b
      · simp [c1] at h
      · by_cases c2 : b < a
        · simp [c1, c2] at h
        · simp only [c1, c2, if_false] at h
          have : a = b := by omega
          rw [this, ih h]
theorem ordL_self (l : List Nat) : ordL l l = 0 := by
  induction l with
  | nil => rfl
  | cons a r ih => simp only [ordL, Nat.lt_irrefl, if_false]; exact ih
/-- An element as the code makes it. -/
def ElOk (e : El) : Prop := e.1 < 16777216 ∧ e.2.1 < 65536 ∧ e.2.2 < 256
theorem lev_ws {n : Nat} {f : El → Nat} {l : List El} (h : ∀ e ∈ l, f e < 256 ^ n) : Ws n (lev f l) := by
  intro w hw
  unfold lev at hw
  rw [List.mem_filter, List.mem_map] at hw
  obtain ⟨⟨e, he, rfl⟩, h2⟩ := hw
  exact ⟨by simpa [Nat.pos_iff_ne_zero] using h2, h e he⟩
/-- The comparison of two strings, level by level. -/
def cmpK (st : Nat) (s s' : List UInt8) (l l' : List El) : Int :=
  if ordL (lev (·.1) l) (lev (·.1) l') ≠ 0 then ordL (lev (·.1) l) (lev (·.1) l')
  else if 2 ≤ st ∧ ordL (lev (·.2.1) l) (lev (·.2.1) l') ≠ 0 then ordL (lev (·.2.1) l) (lev (·.2.1) l')
  else if 3 ≤ st ∧ ordL (lev (·.2.2) l) (lev (·.2.2) l') ≠ 0 then ordL (lev (·.2.2) l) (lev (·.2.2) l')
  else if 4 ≤ st then compareBytes s s' else 0
theorem cb_key (st : Nat) (s s' : List UInt8) (l l' : List El) (h : ∀ e ∈ l, ElOk e) (h' : ∀ e ∈ l', ElOk e) : compareBytes (keyB st s l) (keyB st s' l') = cmpK st s s' l l' := by
  have w1 : Ws 3 (lev (·.1) l) := lev_ws fun e he => (h e he).1
  have w1' : Ws 3 (lev (·.1) l') := lev_ws fun e he => (h' e he).1
  have w2 : Ws 2 (lev (·.2.1) l) := lev_ws fun e he => (h e he).2.1
  have w2' : Ws 2 (lev (·.2.1) l') := lev_ws fun e he => (h' e he).2.1
  have w3 : Ws 1 (lev (·.2.2) l) := lev_ws fun e he => (h e he).2.2
  have w3' : Ws 1 (lev (·.2.2) l') := lev_ws fun e he => (h' e he).2.2
  have hst : st ≤ 1 ∨ st = 2 ∨ st = 3 ∨ 4 ≤ st := by omega
  have e0 : compareBytes [] [] = 0 := rfl
  unfold keyB cmpK
  simp only [List.append_assoc]
  rw [cb_encL 3 _ _ _ _ w1 w1']
  rcases hst with hst | rfl | rfl | hst
  · have h2 : ¬ 2 ≤ st := by omega
    have h3 : ¬ 3 ≤ st := by omega
    have h4 : ¬ 4 ≤ st := by omega
    simp only [h2, h3, h4, if_false, false_and, List.nil_append, e0]
    by_cases c1 : ordL (lev (·.1) l) (lev (·.1) l') = 0 <;> simp [c1]
  · simp only [Nat.le_refl, if_true, true_and, show ¬ 3 ≤ 2 by decide, show ¬ 4 ≤ 2 by decide, if_false, false_and, List.nil_append]
    rw [cb_encL 2 _ _ _ _ w2 w2', e0]
    by_cases c1 : ordL (lev (·.1) l) (lev (·.1) l') = 0 <;> by_cases c2 : ordL (lev (·.2.1) l) (lev (·.2.1) l') = 0 <;> simp_all
  · simp only [Nat.le_refl, if_true, true_and, show 2 ≤ 3 by decide, show ¬ 4 ≤ 3 by decide, if_false]
    rw [cb_encL 2 _ _ _ _ w2 w2', cb_encL 1 _ _ _ _ w3 w3', e0]
    by_cases c1 : ordL (lev (·.1) l) (lev (·.1) l') = 0 <;> by_cases c2 : ordL (lev (·.2.1) l) (lev (·.2.1) l') = 0 <;> by_cases c3 : ordL (lev (·.2.2) l) (lev (·.2.2) l') = 0 <;> simp_all
  · have h2 : 2 ≤ st := by omega
    have h3 : 3 ≤ st := by omega
    simp only [h2, h3, hst, if_true, true_and]
    rw [cb_encL 2 _ _ _ _ w2 w2', cb_encL 1 _ _ _ _ w3 w3']
    by_cases c1 : ordL (lev (·.1) l) (lev (·.1) l') = 0 <;> by_cases c2 : ordL (lev (·.2.1) l) (lev (·.2.1) l') = 0 <;> by_cases c3 : ordL (lev (·.2.2) l) (lev (·.2.2) l') = 0 <;> simp_all
end Co
