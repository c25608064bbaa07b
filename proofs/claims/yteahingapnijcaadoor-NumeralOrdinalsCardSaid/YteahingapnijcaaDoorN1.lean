/- Layer 9, plainly: decimal numerals, letters, Roman numerals. -/
import Derived.WalkKit
namespace Nu9

def d8 (k : Nat) : UInt8 := UInt8.ofNat (48 + k)
def a8 (k : Nat) : UInt8 := UInt8.ofNat (97 + k)
/-- A number in decimal. -/
def dec (n : Nat) : List UInt8 := if _h : n < 10 then [d8 n] else dec (n / 10) ++ [d8 (n % 10)]
  termination_by n
  decreasing_by omega
/-- A number in letters. -/
def ltr (n : Nat) : List UInt8 := if _h : n = 0 then [] else ltr ((n - 1) / 26) ++ [a8 ((n - 1) % 26)]
  termination_by n
  decreasing_by omega
theorem dec_lt {n : Nat} (h : n < 10) : dec n = [d8 n] := by rw [dec, dif_pos h]
theorem dec_ge {n : Nat} (h : 10 ≤ n) : dec n = dec (n / 10) ++ [d8 (n % 10)] := by rw [dec, dif_neg (by omega)]
theorem ltr_zero : ltr 0 = [] := by rw [ltr, dif_pos rfl]
theorem ltr_pos {n : Nat} (h : n ≠ 0) : ltr n = ltr ((n - 1) / 26) ++ [a8 ((n - 1) % 26)] := by rw [ltr, dif_neg h]
theorem d8_nat {k : Nat} (h : k < 10) : (d8 k).toNat = 48 + k := by unfold d8; rw [UInt8.toNat_ofNat']; omega
theorem a8_nat {k : Nat} (h : k < 26) : (a8 k).toNat = 97 + k := by unfold a8; rw [UInt8.toNat_ofNat']; omega
/-- What digits denote. -/
def undec (l : List UInt8) : Int := l.foldl (fun z c => z * 10 + (c.toNat : Int) - 48) 0
def unltr (l : List UInt8) : Int := l.foldl (fun z c => z * 26 + (c.toNat : Int) - 97 + 1) 0
theorem undec_snoc (l : List UInt8) (c : UInt8) : undec (l ++ [c]) = undec l * 10 + (c.toNat : Int) - 48 := by unfold undec; rw [List.foldl_append]; rfl
theorem unltr_snoc (l : List UInt8) (c : UInt8) : unltr (l ++ [c]) = unltr l * 26 + (c.toNat : Int) - 97 + 1 := by unfold unltr; rw [List.foldl_append]; rfl
theorem undec_dec (n : Nat) : undec (dec n) = n := by
  induction n using Nat.strongRecOn with
  | ind n ih =>
    by_cases h : n < 10
    · rw [dec_lt h]; simp only [undec, List.foldl_cons, List.foldl_nil]; rw [d8_nat h]; omega
    · rw [dec_ge (by omega), undec_snoc, ih (n / 10) (by omega), d8_nat (by omega)]; omega
theorem unltr_ltr (n : Nat) : unltr (ltr n) = n := by
  induction n using Nat.strongRecOn with
  | ind n ih =>
    by_cases h : n = 0
    · subst h; rw [ltr_zero]; rfl
    · rw [ltr_pos h, unltr_snoc, ih ((n - 1) / 26) (by omega), a8_nat (by omega)]; omega
def digs (l : List UInt8) : Prop := ∀ c ∈ l, 48 ≤ c.toNat ∧ c.toNat ≤ 57
def ltrs (l : List UInt8) : Prop := ∀ c ∈ l, 97 ≤ c.toNat ∧ c.toNat ≤ 122
theorem dec_digs (n : Nat) : digs (dec n) := by
  induction n using Nat.strongRecOn with
  | ind n ih =>
    intro c hc
    by_cases h : n < 10
    · rw [dec_lt h, List.mem_singleton] at hc; rw [hc, d8_nat h]; omega
    · rw [dec_ge (by omega), List.mem_append, List.mem_singleton] at hc
      rcases hc with hc | rfl
      · exact ih (n / 10) (by omega) c hc
      · rw [d8_nat (by omega)]; omega
theorem ltr_ltrs (n : Nat) : ltrs (ltr n) := by
  induction n using Nat.strongRecOn with
  | ind n ih =>
    intro c hc
    by_cases h : n = 0
    · subst h; rw [ltr_zero] at hc; simp at hc
    · rw [ltr_pos h, List.mem_append, List.mem_singleton] at hc
      rcases hc with hc | rfl
      · exact ih ((n - 1) / 26) (by omega) c hc
      · rw [a8_nat (by omega)]; omega
theorem dec_len (k : Nat) : ∀ n : Nat, n < 10 ^ (k + 1) → (dec n).length ≤ k + 1 := by
  induction k with
  | zero => intro n h; rw [dec_lt (by omega)]; simp
  | succ k ih =>
    intro n h
    by_cases h1 : n < 10
    · rw [dec_lt h1]; simp
    · rw [dec_ge (by omega)]
      have := ih (n / 10) (by rw [Nat.pow_succ] at h; omega)
      simp; omega
theorem dec_pos (n : Nat) : 0 < (dec n).length := by
  by_cases h : n < 10
  · rw [dec_lt h]; simp
  · rw [dec_ge (by omega)]; simp
theorem ltr_len (k : Nat) : ∀ n : Nat, n * 25 < 26 ^ (k + 1) → (ltr n).length ≤ k + 1 := by
  induction k with
  | zero =>
    intro n h
    by_cases h0 : n = 0
    · subst h0; rw [ltr_zero]; simp
    · rw [ltr_pos h0, show (n - 1) / 26 = 0 by omega, ltr_zero]; simp
  | succ k ih =>
    intro n h
    by_cases h0 : n = 0
    · subst h0; rw [ltr_zero]; simp
    · rw [ltr_pos h0]
      have := ih ((n - 1) / 26) (by rw [Nat.pow_succ] at h; omega)
      simp; omega
theorem ltr_ne {n : Nat} (h : n ≠ 0) : 0 < (ltr n).length := by rw [ltr_pos h]; simp
/-- Lists of bytes by length, and then bytewise. -/
def lexlt : List UInt8 → List UInt8 → Bool
  | [], [] => false
  | [], _ :: _ => true
  | _ :: _, [] => false
  | a :: l, b :: m => if a < b then true else if b < a then false else lexlt l m
theorem lexlt_snoc (l m : List UInt8) (a b : UInt8) (h : l.length = m.length) : lexlt (l ++ [a]) (m ++ [b]) = (lexlt l m || (l == m && decide (a < b))) := by
  induction l generalizing m with
  | nil =>
    cases m with
    | nil =>
      simp only [List.nil_append, lexlt]
      by_cases h1 : a < b
      · simp [h1]
      · by_cases h2 : b < a <;> simp [h1, h2]
    | cons => simp at h
  | cons x l ih =>
    cases m with
    | nil => simp at h
    | cons y m =>
      simp only [List.cons_append, lexlt]
      by_cases h1 : x < y
      · simp [h1]
      · by_cases h2 : y < x
        · simp only [h1, h2, if_true, if_false, Bool.false_or]
          have : x ≠ y := fun e => by subst e; exact h1 h2
          simp [this]
        · have e : x = y := by
            apply UInt8.toNat_inj.1
            rw [UInt8.lt_iff_toNat_lt] at h1 h2
            omega
          subst e
          simp only [h1, if_false]
          rw [ih m (by simpa using h)]
          simp
/-- A number's numerals come in the order of the numbers. -/
def less (s t : List UInt8) : Bool := decide (s.length < t.length) || (decide (s.length = t.length) && lexlt s t)
theorem lexlt_self (l : List UInt8) : lexlt l l = false := by
  induction l with
  | nil => rfl
  | cons x l ih => simp only [lexlt, UInt8.lt_irrefl, if_false]; exact ih
theorem less_snoc (l m : List UInt8) (a b : UInt8) : less (l ++ [a]) (m ++ [b]) = (less l m || (l == m && decide (a < b))) := by
  unfold less
  simp only [List.length_append, List.length_cons, List.length_nil]
  by_cases h : l.length = m.length
  · rw [lexlt_snoc l m a b h]
    simp [h]
  · have : l ≠ m := fun e => h (by rw [e])
    by_cases h2 : l.length < m.length
    · simp [h2]
    · simp [h, h2, this]
theorem dec_inj {m n : Nat} (h : dec m = dec n) : m = n := by
  have := congrArg undec h
  rw [undec_dec, undec_dec] at this; omega
theorem ltr_inj {m n : Nat} (h : ltr m = ltr n) : m = n := by
  have := congrArg unltr h
  rw [unltr_ltr, unltr_ltr] at this; omega
theorem d8_lt {j k : Nat} (hj : j < 10) (hk : k < 10) : decide (d8 j < d8 k) = decide (j < k) := by
  rw [decide_eq_decide, UInt8.lt_iff_toNat_lt, d8_nat hj, d8_nat hk]; omega
theorem a8_lt {j k : Nat} (hj : j < 26) (hk : k < 26) : decide (a8 j < a8 k) = decide (j < k) := by
  rw [decide_eq_decide, UInt8.lt_iff_toNat_lt, a8_nat hj, a8_nat hk]; omega
theorem less_lt {l m : List UInt8} (h : l.length < m.length) : less l m = true := by unfold less; simp [h]
theorem less_gt {l m : List UInt8} (h : m.length < l.length) : less l m = false := by unfold less; simp; omega
theorem less_dec (m : Nat) : ∀ n : Nat, less (dec m) (dec n) = decide (m < n) := by
  induction m using Nat.strongRecOn with
  | ind m ih =>
    intro n
    by_cases hm : m < 10
    · by_cases hn : n < 10
      · rw [dec_lt hm, dec_lt hn, show [d8 m] = [] ++ [d8 m] from rfl, show [d8 n] = [] ++ [d8 n] from rfl, less_snoc, d8_lt hm hn]
        simp [less, lexlt]
      · have h1 := dec_pos (n / 10)
        rw [less_lt (by rw [dec_lt hm, dec_ge (show 10 ≤ n by omega)]; simp; omega)]
        simp; omega
    · by_cases hn : n < 10
      · have h1 := dec_pos (m / 10)
        rw [less_gt (by rw [dec_lt hn, dec_ge (show 10 ≤ m by omega)]; simp; omega)]
        simp; omega
      · rw [dec_ge (show 10 ≤ m by omega), dec_ge (show 10 ≤ n by omega), less_snoc, ih (m / 10) (by omega) (n / 10), d8_lt (by omega) (by omega)]
        by_cases e : dec (m / 10) = dec (n / 10)
        · have := dec_inj e
          rw [e, this]
          simp; omega
        · have e2 : m / 10 ≠ n / 10 := fun q => e (by rw [q])
          rw [show (dec (m / 10) == dec (n / 10)) = false by simpa using e]
          simp; omega
theorem less_ltr (m : Nat) : ∀ n : Nat, less (ltr m) (ltr n) = decide (m < n) := by
  induction m using Nat.strongRecOn with
  | ind m ih =>
    intro n
    by_cases hm : m = 0
    · by_cases hn : n = 0
      · subst hm; subst hn; rw [ltr_zero]; rfl
      · subst hm
        rw [less_lt (by rw [ltr_zero]; exact ltr_ne hn)]
        simp; omega
    · by_cases hn : n = 0
      · subst hn
        rw [less_gt (by rw [ltr_zero]; exact ltr_ne hm)]
        simp
      · rw [ltr_pos hm, ltr_pos hn, less_snoc, ih ((m - 1) / 26) (by omega) ((n - 1) / 26), a8_lt (by omega) (by omega)]
        by_cases e : ltr ((m - 1) / 26) = ltr ((n - 1) / 26)
        · have := ltr_inj e
          rw [e, this]
          simp; omega
        · have e2 : (m - 1) / 26 ≠ (n - 1) / 26 := fun q => e (by rw [q])
          rw [show (ltr ((m - 1) / 26) == ltr ((n - 1) / 26)) = false by simpa using e]
          simp; omega
/-- Roman numerals. -/
def rtab : List (List UInt8 × Nat) := [([109], 1000), ([99, 109], 900), ([100], 500), ([99, 100], 400), ([99], 100), ([120, 99], 90), ([108], 50), ([120, 108], 40), ([120], 10), ([105, 120], 9), ([118], 5), ([105, 118], 4), ([105], 1)]
def rep : Nat → List UInt8 → List UInt8
  | 0, _ => []
  | k + 1, s => s ++ rep k s
def rom : List (List UInt8 × Nat) → Nat → List UInt8
  | [], _ => []
  | (s, v) :: t, n => rep (n / v) s ++ rom t (n % v)
theorem rom_ge {s : List UInt8} {v : Nat} {t : List (List UInt8 × Nat)} {n : Nat} (h0 : 0 < v) (h : v ≤ n) : rom ((s, v) :: t) n = s ++ rom ((s, v) :: t) (n - v) := by
  unfold rom
  have e1 : n / v = (n - v) / v + 1 := by
    have := Nat.sub_add_cancel h
    rw [← this, Nat.add_div_right _ h0, this]
  have e2 : (n - v) % v = n % v := by
    have := Nat.sub_add_cancel h
    conv => rhs; rw [← this, Nat.add_mod_right]
  rw [e1, e2]
  simp only [rep, List.append_assoc]
theorem rom_lt {s : List UInt8} {v : Nat} {t : List (List UInt8 × Nat)} {n : Nat} (h : n < v) : rom ((s, v) :: t) n = rom t n := by
  conv => lhs; unfold rom
  rw [Nat.div_eq_of_lt h, Nat.mod_eq_of_lt h]; rfl
/-- What is read from symbols at the beginning; fuel for the steps. -/
def frL : List (List UInt8 × Nat) → Nat → List UInt8 → Nat → Nat
  | [], _, _, n => n
  | _ :: _, 0, _, n => n
  | (s, v) :: t, f + 1, l, n => if s.isPrefixOf l then frL ((s, v) :: t) f (l.drop s.length) (n + v) else frL t f l n
def rmn (n : Nat) : List UInt8 := rom rtab n
def unrmn (l : List UInt8) : Nat := frL rtab 60 l 0
/-- The value of a Roman letter, and the reference's sum. -/
def rval (c : UInt8) : Int := if c = 105 ∨ c = 73 then 1 else if c = 118 ∨ c = 86 then 5 else if c = 120 ∨ c = 88 then 10 else if c = 108 ∨ c = 76 then 50 else if c = 99 ∨ c = 67 then 100 else if c = 100 ∨ c = 68 then 500 else if c = 109 ∨ c = 77 then 1000 else 0
def rsum : Nat → List UInt8 → Int
  | 0, _ => 0
  | _, [] => 0
  | _ + 1, [c] => rval c
  | f + 1, c :: d :: t => (if rval d > rval c then - rval c else rval c) + rsum f (d :: t)
def up (c : UInt8) : UInt8 := if 97 ≤ c.toNat ∧ c.toNat ≤ 122 then c - 32 else c
def lo (c : UInt8) : UInt8 := if 65 ≤ c.toNat ∧ c.toNat ≤ 90 then c + 32 else c
theorem rep_ltrs (k : Nat) (s : List UInt8) (h : ltrs s) : ltrs (rep k s) := by
  induction k with
  | zero => intro c hc; simp [rep] at hc
  | succ k ih =>
    intro c hc
    simp only [rep, List.mem_append] at hc
    rcases hc with hc | hc
    · exact h c hc
    · exact ih c hc
theorem rom_ltrs (t : List (List UInt8 × Nat)) (h : ∀ x ∈ t, ltrs x.1) : ∀ n, ltrs (rom t n) := by
  induction t with
  | nil => intro n c hc; simp [rom] at hc
  | cons x t ih =>
    intro n c hc
    obtain ⟨s, v⟩ := x
    simp only [rom, List.mem_append] at hc
    rcases hc with hc | hc
    · exact rep_ltrs _ _ (h (s, v) (by simp)) c hc
    · exact ih (fun x hx => h x (List.mem_cons_of_mem _ hx)) _ c hc
theorem rmn_ltrs (n : Nat) : ltrs (rmn n) := rom_ltrs rtab (by
  intro x hx c hc
  simp only [rtab, List.mem_cons, List.not_mem_nil, or_false] at hx
  rcases hx with rfl | rfl | rfl | rfl | rfl | rfl | rfl | rfl | rfl | rfl | rfl | rfl | rfl <;>
    · simp only [List.mem_cons, List.not_mem_nil, or_false] at hc
      rcases hc with rfl | rfl <;> decide) n
theorem lo_up {c : UInt8} (h : 97 ≤ c.toNat ∧ c.toNat ≤ 122) : lo (up c) = c := by
  have : ∀ i : Fin 256, 97 ≤ (UInt8.ofNat i.1).toNat ∧ (UInt8.ofNat i.1).toNat ≤ 122 → lo (up (UInt8.ofNat i.1)) = UInt8.ofNat i.1 := by decide +kernel
  have h2 := this ⟨c.toNat, c.toNat_lt⟩
  rw [UInt8.ofNat_toNat] at h2
  exact h2 h
theorem map_lo_up {l : List UInt8} (h : ltrs l) : (l.map up).map lo = l := by
  rw [List.map_map]
  conv => rhs; rw [← List.map_id l]
  exact List.map_congr_left fun c hc => lo_up (h c hc)
/-- No letter stands four times in a row: the run at the end is counted. -/
def runs4 : List UInt8 → UInt8 → Nat → Bool
  | [], _, _ => true
  | c :: t, p, k => if c = p then decide (k + 1 ≤ 3) && runs4 t c (k + 1) else runs4 t c 1
theorem rmn_pos : ∀ n : Nat, 0 < n → 0 < (rmn n).length := by
  intro n h
  unfold rmn rtab
  rcases Nat.lt_or_ge 0 ((rom [([109], 1000), ([99, 109], 900), ([100], 500), ([99, 100], 400), ([99], 100), ([120, 99], 90), ([108], 50), ([120, 108], 40), ([120], 10), ([105, 120], 9), ([118], 5), ([105, 118], 4), ([105], 1)] n).length) with h1 | h1
  · exact h1
  · exfalso
    have hr : ∀ k s, s ≠ [] → (rep k s).length = 0 → k = 0 := by
      intro k s hs hk
      cases k with
      | zero => rfl
      | succ k =>
        simp only [rep, List.length_append] at hk
        exact absurd (List.eq_nil_of_length_eq_zero (by omega)) hs
    have h2 := Nat.le_zero.1 h1
    simp only [rom, List.length_append, List.length_nil, Nat.add_zero] at h2
    have q1 := hr (n / 1000) [109] (by decide) (by omega)
    have q2 := hr (n % 1000 / 900) [99, 109] (by decide) (by omega)
    have q3 := hr (n % 1000 % 900 / 500) [100] (by decide) (by omega)
    have q4 := hr (n % 1000 % 900 % 500 / 400) [99, 100] (by decide) (by omega)
    have q5 := hr (n % 1000 % 900 % 500 % 400 / 100) [99] (by decide) (by omega)
    have q6 := hr (n % 1000 % 900 % 500 % 400 % 100 / 90) [120, 99] (by decide) (by omega)
    have q7 := hr (n % 1000 % 900 % 500 % 400 % 100 % 90 / 50) [108] (by decide) (by omega)
    have q8 := hr (n % 1000 % 900 % 500 % 400 % 100 % 90 % 50 / 40) [120, 108] (by decide) (by omega)
    have q9 := hr (n % 1000 % 900 % 500 % 400 % 100 % 90 % 50 % 40 / 10) [120] (by decide) (by omega)
    have qa := hr (n % 1000 % 900 % 500 % 400 % 100 % 90 % 50 % 40 % 10 / 9) [105, 120] (by decide) (by omega)
    have qb := hr (n % 1000 % 900 % 500 % 400 % 100 % 90 % 50 % 40 % 10 % 9 / 5) [118] (by decide) (by omega)
    have qc := hr (n % 1000 % 900 % 500 % 400 % 100 % 90 % 50 % 40 % 10 % 9 % 5 / 4) [105, 118] (by decide) (by omega)
    have qd := hr (n % 1000 % 900 % 500 % 400 % 100 % 90 % 50 % 40 % 10 % 9 % 5 % 4 / 1) [105] (by decide) (by omega)
    omega
/-- The ending of an ordinal number. -/
def sfx (n : Nat) : List UInt8 := if n / 10 % 10 = 1 then [116, 104] else if n % 10 = 1 then [115, 116] else if n % 10 = 2 then [110, 100] else if n % 10 = 3 then [114, 100] else [116, 104]
theorem sfx_len (n : Nat) : (sfx n).length = 2 := by unfold sfx; repeat' split
                                                     all_goals rfl
/-- The numeral of a number in a format; the least and the greatest number. -/
def num (f : Int) (n : Nat) : List UInt8 := if f = 1 then dec n else if f = 2 then ltr n else if f = 3 then (ltr n).map up else if f = 4 then rmn n else if f = 5 then (rmn n).map up else if f = 6 then dec n ++ sfx n else [226, 128, 162]
def kindOk (f : Int) : Prop := 1 ≤ f ∧ f ≤ 7
instance (f : Int) : Decidable (kindOk f) := by unfold kindOk; infer_instance
def least (f : Int) : Int := if f = 2 ∨ f = 3 ∨ f = 4 ∨ f = 5 ∨ f = 6 ∨ f = 7 then 1 else 0
def most (f : Int) : Int := if f = 4 ∨ f = 5 then 3999 else if f = 1 ∨ f = 2 ∨ f = 3 ∨ f = 6 ∨ f = 7 then 999999 else 0
/-- What Format answers. -/
def fmtS (f n : Int) : List UInt8 := if kindOk f ∧ least f ≤ n ∧ n ≤ most f then num f n.toNat else []
def fmtE (f n : Int) : Int := if kindOk f then (if least f ≤ n ∧ n ≤ most f then 0 else 2) else 3
end Nu9
