import Derived.Test.YthjooopppidcfaaDoorMB

/- The classes of layer 3, plainly: the program's table and the reference's three lists give each integer one class. -/
namespace Go.Proofs.YthjooopppidcfaaDoor
namespace Sg
open Gc (Span within has apart up has_iff within_none within_mem within_or)

/-- The program's table; the reference's three lists. -/
def tabP : List Span := [(9, 9, 2), (10, 13, 1), (29, 29, 1), (32, 32, 2), (33, 33, 9), (39, 39, 11), (40, 40, 8), (41, 41, 9), (44, 44, 10), (45, 45, 12), (46, 46, 10), (48, 57, 6), (58, 59, 9), (63, 63, 9), (65, 90, 5), (91, 91, 8), (93, 93, 9), (95, 95, 5), (97, 122, 5), (123, 123, 8), (125, 125, 9), (133, 133, 1), (160, 160, 3), (170, 170, 5), (171, 171, 8), (173, 173, 4), (181, 181, 5), (183, 183, 11), (186, 186, 5), (187, 187, 9), (192, 214, 5), (216, 246, 5), (248, 687, 5), (880, 883, 5), (886, 887, 5), (891, 893, 5), (895, 895, 5), (902, 902, 5), (904, 1153, 5), (1162, 1327, 5), (1329, 1366, 5), (1377, 1415, 5), (1488, 1514, 5), (1568, 1610, 5), (1632, 1641, 6), (1643, 1643, 10), (1649, 1747, 5), (1776, 1785, 6), (2308, 2361, 5), (2392, 2401, 5), (2406, 2415, 6), (3585, 3632, 5), (3648, 3654, 5), (3664, 3673, 6), (4256, 4351, 5), (4352, 4607, 5), (5760, 5760, 2), (7680, 8191, 5), (8192, 8198, 2), (8199, 8199, 3), (8200, 8202, 2), (8208, 8208, 12), (8211, 8211, 12), (8212, 8212, 13), (8216, 8216, 8), (8217, 8217, 11), (8220, 8220, 8), (8221, 8221, 9), (8230, 8230, 9), (8232, 8233, 1), (8239, 8239, 3), (8287, 8287, 2), (8288, 8288, 3), (12288, 12288, 2), (12289, 12290, 9), (12296, 12296, 8), (12297, 12297, 9), (12298, 12298, 8), (12299, 12299, 9), (12300, 12300, 8), (12301, 12301, 9), (12302, 12302, 8), (12303, 12303, 9), (12304, 12304, 8), (12305, 12305, 9), (12308, 12308, 8), (12309, 12309, 9), (12353, 12438, 7), (12449, 12538, 7), (12549, 12591, 7), (13312, 19903, 7), (19968, 40959, 7), (44032, 55203, 5), (63744, 64255, 7), (65279, 65279, 3), (65296, 65305, 6), (127744, 128591, 7), (128640, 128767, 7), (129280, 129535, 7), (131072, 195103, 7)]
def tabB : List Span := [(10, 13, 1), (29, 29, 1), (133, 133, 1), (8232, 8233, 1), (9, 9, 2), (32, 32, 2), (5760, 5760, 2), (8192, 8198, 2), (8200, 8202, 2), (8287, 8287, 2), (12288, 12288, 2), (160, 160, 3), (8199, 8199, 3), (8239, 8239, 3), (8288, 8288, 3), (65279, 65279, 3), (173, 173, 4), (48, 57, 6), (1632, 1641, 6), (1776, 1785, 6), (2406, 2415, 6), (3664, 3673, 6), (65296, 65305, 6)]
def tabL : List Span := [(65, 90, 5), (95, 95, 5), (97, 122, 5), (170, 170, 5), (181, 181, 5), (186, 186, 5), (192, 214, 5), (216, 246, 5), (248, 687, 5), (880, 883, 5), (886, 887, 5), (891, 893, 5), (895, 895, 5), (902, 902, 5), (904, 1153, 5), (1162, 1327, 5), (1329, 1366, 5), (1377, 1415, 5), (1488, 1514, 5), (1568, 1610, 5), (1649, 1747, 5), (2308, 2361, 5), (2392, 2401, 5), (3585, 3632, 5), (3648, 3654, 5), (4256, 4351, 5), (4352, 4607, 5), (7680, 8191, 5), (44032, 55203, 5), (12353, 12438, 7), (12449, 12538, 7), (12549, 12591, 7), (13312, 19903, 7), (19968, 40959, 7), (63744, 64255, 7), (127744, 128591, 7), (128640, 128767, 7), (129280, 129535, 7), (131072, 195103, 7)]
def tabS : List Span := [(40, 40, 8), (91, 91, 8), (123, 123, 8), (171, 171, 8), (8216, 8216, 8), (8220, 8220, 8), (12296, 12296, 8), (12298, 12298, 8), (12300, 12300, 8), (12302, 12302, 8), (12304, 12304, 8), (12308, 12308, 8), (33, 33, 9), (41, 41, 9), (58, 59, 9), (63, 63, 9), (93, 93, 9), (125, 125, 9), (187, 187, 9), (8221, 8221, 9), (8230, 8230, 9), (12289, 12290, 9), (12297, 12297, 9), (12299, 12299, 9), (12301, 12301, 9), (12303, 12303, 9), (12305, 12305, 9), (12309, 12309, 9), (44, 44, 10), (46, 46, 10), (1643, 1643, 10), (39, 39, 11), (183, 183, 11), (8217, 8217, 11), (45, 45, 12), (8208, 8208, 12), (8211, 8211, 12), (8212, 8212, 13)]
def classOf (p : Int) : Int := within tabP p
theorem apartP : apart tabP = true := by decide +kernel
theorem apartR : apart (tabB ++ tabL ++ tabS) = true := by decide +kernel
theorem subP : (tabP.all fun s => (tabB ++ tabL ++ tabS).contains s) = true := by decide +kernel
theorem subR : ((tabB ++ tabL ++ tabS).all fun s => tabP.contains s) = true := by decide +kernel
theorem upP : up tabP = true := by decide +kernel
/-- The reference's first span that has p says what the program's table says. -/
theorem ref_class (p : Int) : within (tabB ++ tabL ++ tabS) p = classOf p := by
  unfold classOf
  rcases within_or tabP p with ⟨s, hs, h⟩ | h
  · have h1 := List.all_eq_true.1 subP s hs
    rw [within_mem _ apartP p s hs h, within_mem _ apartR p s (by simpa using h1) h]
  · rw [within_none _ p h, within_none]
    intro s hs
    have h1 := List.all_eq_true.1 subR s hs
    exact h s (by simpa using h1)
theorem class_range (p : Int) : 0 ≤ classOf p ∧ classOf p ≤ 13 := by
  unfold classOf
  rcases within_or tabP p with ⟨s, hs, h⟩ | h
  · rw [within_mem _ apartP p s hs h]
    have : (tabP.all fun s => decide (0 ≤ s.2.2) && decide (s.2.2 ≤ 13)) = true := by decide +kernel
    simpa using List.all_eq_true.1 this s hs
  · rw [within_none _ p h]; omega
/-- What a search that has parted the spans at place i says of p. -/
theorem within_at (T : List Span) (hA : apart T = true) (hU : up T = true) (p : Int) (i : Nat) (hlo : ∀ k (h : k < T.length), k < i → T[k].2.1 < p) (hhi : ∀ k (h : k < T.length), i ≤ k → p ≤ T[k].2.1) :
    within T p = if h : i < T.length then (if T[i].1 ≤ p then T[i].2.2 else 0) else 0 := by
  split
  · rename_i h
    split
    · rename_i h1
      exact within_mem T hA p _ (List.getElem_mem h) ((has_iff p _).2 ⟨h1, hhi i h (Nat.le_refl _)⟩)
    · rename_i h1
      refine within_none T p fun s hs => ?_
      obtain ⟨k, hk, rfl⟩ := List.getElem_of_mem hs
      cases hc : has p T[k] with
      | false => rfl
      | true =>
        have h2 := (has_iff p _).1 hc
        rcases Nat.lt_trichotomy k i with h3 | h3 | h3
        · have := hlo k hk h3; omega
        · subst h3; omega
        · have h4 := Gc.up_lt T hU i k h3 hk
          have h5 := hhi i h (Nat.le_refl _)
          omega
  · rename_i h
    refine within_none T p fun s hs => ?_
    obtain ⟨k, hk, rfl⟩ := List.getElem_of_mem hs
    cases hc : has p T[k] with
    | false => rfl
    | true =>
      have h2 := (has_iff p _).1 hc
      have := hlo k hk (by omega); omega
end Sg
end Go.Proofs.YthjooopppidcfaaDoor

/- The tokens and breaks of layer 3, plainly, over the classes of a string's clusters. -/
namespace Go.Proofs.YthjooopppidcfaaDoor
namespace Sg

/-- A class, or -1 beyond the end. -/
def cat (c : List Int) (i : Nat) : Int := c.getD i (-1)
def wordy (x : Int) : Bool := decide (x = 5) || decide (x = 6)
def spacy (x : Int) : Bool := decide (x = 2) || decide (x = 3)
/-- A Connect between two Letters, an Infix between two Digits: the program's. -/
def joins (c : List Int) : Nat → Bool
  | 0 => false
  | i + 1 => decide (cat c (i + 1) = 11) && decide (cat c i = 5) && decide (cat c (i + 2) = 5) || decide (cat c (i + 1) = 10) && decide (cat c i = 6) && decide (cat c (i + 2) = 6)
def inside (c : List Int) (i : Nat) : Bool := wordy (cat c i) || joins c i

/-- How far a property goes on from k, within n. -/
def runTo (p : Nat → Bool) (n k : Nat) : Nat := if h : k < n ∧ p k = true then runTo p n (k + 1) else k
termination_by n - k
decreasing_by omega
theorem runTo_go {p : Nat → Bool} {n k : Nat} (h : k < n) (hp : p k = true) : runTo p n k = runTo p n (k + 1) := by
  conv => lhs; unfold runTo
  rw [dif_pos ⟨h, hp⟩]
theorem runTo_stop {p : Nat → Bool} {n k : Nat} (h : ¬ (k < n ∧ p k = true)) : runTo p n k = k := by
  unfold runTo
  rw [dif_neg h]
theorem runTo_spec (p : Nat → Bool) (n k : Nat) (hk : k ≤ n) : k ≤ runTo p n k ∧ runTo p n k ≤ n ∧ (∀ j, k ≤ j → j < runTo p n k → p j = true) ∧ (runTo p n k < n → p (runTo p n k) = false) := by
  generalize hm : n - k = m
  induction m generalizing k with
  | zero =>
    have e : runTo p n k = k := runTo_stop (by omega)
    rw [e]
    exact ⟨Nat.le_refl _, hk, fun j h1 h2 => by omega, fun h => by omega⟩
  | succ m ih =>
    by_cases hp : p k = true
    · rw [runTo_go (by omega) hp]
      obtain ⟨h1, h2, h3, h4⟩ := ih (k + 1) (by omega) (by omega)
      refine ⟨by omega, h2, fun j hj hj2 => ?_, h4⟩
      by_cases e : j = k
      · subst e; exact hp
      · exact h3 j (by omega) hj2
    · rw [runTo_stop (fun h => hp h.2)]
      exact ⟨Nat.le_refl _, hk, fun j h1 h2 => by omega, fun _ => by simpa using hp⟩

def tokEnd (c : List Int) (i : Nat) : Nat :=
  if wordy (cat c i) then runTo (inside c) c.length (i + 1)
  else if spacy (cat c i) then runTo (fun k => spacy (cat c k)) c.length (i + 1)
  else i + 1
/-- A Letter stands from i on, before e. -/
def lett (c : List Int) (i : Nat) : Nat → Bool
  | 0 => false
  | e + 1 => lett c i e || decide (i ≤ e) && decide (cat c e = 5)
def tokKind (c : List Int) (i : Nat) : Int :=
  if wordy (cat c i) then (if lett c i (tokEnd c i) then 1 else 2)
  else if spacy (cat c i) then 3
  else if cat c i = 1 then 6
  else if cat c i = 7 then 5
  else 4
theorem tokEnd_lt (c : List Int) (i : Nat) (h : i < c.length) : i < tokEnd c i ∧ tokEnd c i ≤ c.length := by
  unfold tokEnd
  split
  · have := runTo_spec (inside c) c.length (i + 1) (by omega); omega
  · split
    · have := runTo_spec (fun k => spacy (cat c k)) c.length (i + 1) (by omega); omega
    · omega
/-- The tokens from the cluster i on: kind, first cluster, the cluster behind. -/
def toks (c : List Int) (i : Nat) : List (Int × Nat × Nat) :=
  if _h : i < c.length then (tokKind c i, i, tokEnd c i) :: toks c (tokEnd c i) else []
termination_by c.length - i
decreasing_by have := tokEnd_lt c i (by assumption); omega
theorem toks_go {c : List Int} {i : Nat} (h : i < c.length) : toks c i = (tokKind c i, i, tokEnd c i) :: toks c (tokEnd c i) := by
  conv => lhs; unfold toks
  rw [dif_pos h]
theorem toks_stop {c : List Int} {i : Nat} (h : ¬ i < c.length) : toks c i = [] := by
  unfold toks
  rw [dif_neg h]
theorem tokKind_range (c : List Int) (i : Nat) : 1 ≤ tokKind c i ∧ tokKind c i ≤ 6 := by
  unfold tokKind
  split
  · split <;> omega
  · split
    · omega
    · split
      · omega
      · split <;> omega
theorem lett_false (c : List Int) (i e : Nat) (h : e ≤ i) : lett c i e = false := by
  induction e with
  | zero => rfl
  | succ e ih => rw [lett, ih (by omega)]; simp; omega
/-- Neighbours are not both spaces, nor both words or numbers. -/
theorem tok_next (c : List Int) (i : Nat) (h : i < c.length) (he : tokEnd c i < c.length) : ¬ (tokKind c i = 3 ∧ tokKind c (tokEnd c i) = 3) ∧ ¬ (tokKind c i ≤ 2 ∧ tokKind c (tokEnd c i) ≤ 2) := by
  by_cases hw : wordy (cat c i) = true
  · have e1 : tokEnd c i = runTo (inside c) c.length (i + 1) := by unfold tokEnd; rw [if_pos hw]
    have h1 := (runTo_spec (inside c) c.length (i + 1) (by omega)).2.2.2 (by omega)
    rw [← e1] at h1
    have h2 : wordy (cat c (tokEnd c i)) = false := by
      unfold inside at h1
      simp only [Bool.or_eq_false_iff] at h1
      exact h1.1
    have h3 : 2 < tokKind c (tokEnd c i) := by
      conv => rhs; unfold tokKind
      rw [if_neg (by rw [h2]; simp)]
      split
      · omega
      · split
        · omega
        · split <;> omega
    have h4 : tokKind c i ≤ 2 := by
      unfold tokKind
      rw [if_pos hw]
      split <;> omega
    omega
  · by_cases hs : spacy (cat c i) = true
    · have e1 : tokEnd c i = runTo (fun k => spacy (cat c k)) c.length (i + 1) := by unfold tokEnd; rw [if_neg hw, if_pos hs]
      have h1 := (runTo_spec (fun k => spacy (cat c k)) c.length (i + 1) (by omega)).2.2.2 (by omega)
      rw [← e1] at h1
      have h2 : spacy (cat c (tokEnd c i)) = false := h1
      have h3 : tokKind c (tokEnd c i) ≠ 3 := by
        conv => lhs; unfold tokKind
        rw [h2]
        split
        · split <;> omega
        · rw [if_neg (by simp)]
          split
          · omega
          · split <;> omega
      have h4 : tokKind c i = 3 := by
        unfold tokKind
        rw [if_neg hw, if_pos hs]
      omega
    · have h4 : 3 < tokKind c i := by
        unfold tokKind
        rw [if_neg hw, if_neg hs]
        split
        · omega
        · split <;> omega
      omega

/-- The kind of the break between classes a and b, e the class ahead of a (-1: none). -/
def kindB (e a b : Int) : Int :=
  if a = 1 then 2
  else if b = 1 ∨ b = 2 then 0
  else if a = 3 ∨ b = 3 then 0
  else if a = 2 then 1
  else if a = 4 then 3
  else if a = 8 ∨ b = 4 ∨ b = 9 ∨ b = 10 ∨ b = 11 ∨ b = 12 ∨ b = 13 then 0
  else if a = 13 then 1
  else if a = 12 ∧ b = 5 ∧ (e = 5 ∨ e = 6) then 1
  else if a = 7 ∨ b = 7 then 1
  else 0
def kindAt (c : List Int) (i : Nat) : Int := kindB (if 2 ≤ i then cat c (i - 2) else -1) (cat c (i - 1)) (cat c i)
theorem kindB_range (e a b : Int) : 0 ≤ kindB e a b ∧ kindB e a b ≤ 3 := by
  unfold kindB
  repeat' split
  all_goals omega
/-- No blank stands behind a break but a Must. -/
theorem kindB_blank (e a : Int) (h : kindB e a 2 ≠ 0) : kindB e a 2 = 2 := by
  unfold kindB at h ⊢
  by_cases ha : a = 1
  · rw [if_pos ha]
  · rw [if_neg ha, if_pos (.inr rfl)] at h; exact absurd rfl h

/-- Between two clusters of one token there is no break. -/
theorem kindB_pair (e a b : Int) (h : (wordy a = true ∧ wordy b = true) ∨ (spacy a = true ∧ spacy b = true) ∨ (a = 5 ∧ b = 11) ∨ (a = 11 ∧ b = 5) ∨ (a = 6 ∧ b = 10) ∨ (a = 10 ∧ b = 6)) : kindB e a b = 0 := by
  have hw : ∀ x, wordy x = true → x = 5 ∨ x = 6 := fun x h => by simpa [wordy] using h
  have hs : ∀ x, spacy x = true → x = 2 ∨ x = 3 := fun x h => by simpa [spacy] using h
  have key : ((a = 5 ∨ a = 6) ∧ (b = 5 ∨ b = 6)) ∨ ((a = 2 ∨ a = 3) ∧ (b = 2 ∨ b = 3)) ∨ (a = 5 ∧ b = 11) ∨ (a = 11 ∧ b = 5) ∨ (a = 6 ∧ b = 10) ∨ (a = 10 ∧ b = 6) := by
    rcases h with h | h | h
    · exact .inl ⟨hw _ h.1, hw _ h.2⟩
    · exact .inr (.inl ⟨hs _ h.1, hs _ h.2⟩)
    · exact .inr (.inr h)
  clear h hw hs
  unfold kindB
  repeat' split
  all_goals omega
theorem joins_at (c : List Int) (k : Nat) (h : joins c k = true) : 0 < k ∧ ((cat c k = 11 ∧ cat c (k - 1) = 5 ∧ cat c (k + 1) = 5) ∨ (cat c k = 10 ∧ cat c (k - 1) = 6 ∧ cat c (k + 1) = 6)) := by
  cases k with
  | zero => cases h
  | succ k =>
    refine ⟨Nat.succ_pos _, ?_⟩
    simp only [joins, Bool.or_eq_true, Bool.and_eq_true, decide_eq_true_eq] at h
    rw [Nat.add_sub_cancel]
    rcases h with h | h
    · exact .inl ⟨h.1.1, h.1.2, h.2⟩
    · exact .inr ⟨h.1.1, h.1.2, h.2⟩
/-- Inside a token there is no break: a break is a border of two tokens. -/
theorem kindAt_in (c : List Int) (i k : Nat) (h : i < c.length) (hk : i < k) (hk2 : k < tokEnd c i) : kindAt c k = 0 := by
  unfold kindAt
  refine kindB_pair _ _ _ ?_
  by_cases hw : wordy (cat c i) = true
  · have e1 : tokEnd c i = runTo (inside c) c.length (i + 1) := by unfold tokEnd; rw [if_pos hw]
    have hs := (runTo_spec (inside c) c.length (i + 1) (by omega)).2.2.1
    rw [← e1] at hs
    have hin : ∀ j, i ≤ j → j < tokEnd c i → inside c j = true := by
      intro j h1 h2
      by_cases e : j = i
      · subst e; unfold inside; rw [hw]; rfl
      · exact hs j (by omega) h2
    have a1 := hin k (by omega) hk2
    have a0 := hin (k - 1) (by omega) (by omega)
    unfold inside at a0 a1
    simp only [Bool.or_eq_true] at a0 a1
    rcases a1 with a1 | a1
    · rcases a0 with a0 | a0
      · exact .inl ⟨a0, a1⟩
      · have := (joins_at c (k - 1) a0).2
        have e : k - 1 + 1 = k := by omega
        rw [e] at this
        rcases this with g | g
        · exact .inr (.inr (.inr (.inl ⟨g.1, g.2.2⟩)))
        · exact .inr (.inr (.inr (.inr (.inr ⟨g.1, g.2.2⟩))))
    · have := (joins_at c k a1).2
      rcases this with g | g
      · exact .inr (.inr (.inl ⟨g.2.1, g.1⟩))
      · exact .inr (.inr (.inr (.inr (.inl ⟨g.2.1, g.1⟩))))
  · by_cases hs : spacy (cat c i) = true
    · have e1 : tokEnd c i = runTo (fun k => spacy (cat c k)) c.length (i + 1) := by unfold tokEnd; rw [if_neg hw, if_pos hs]
      have hr := (runTo_spec (fun k => spacy (cat c k)) c.length (i + 1) (by omega)).2.2.1
      rw [← e1] at hr
      have a1 := hr k (by omega) hk2
      refine .inr (.inl ⟨?_, a1⟩)
      by_cases e : k - 1 = i
      · rw [e]; exact hs
      · exact hr (k - 1) (by omega) (by omega)
    · have e1 : tokEnd c i = i + 1 := by unfold tokEnd; rw [if_neg hw, if_neg hs]
      omega
end Sg
end Go.Proofs.YthjooopppidcfaaDoor

/- The tokens and breaks of two strings with a line feed between them, plainly. -/
namespace Go.Proofs.YthjooopppidcfaaDoor
namespace Sg

theorem cat_left (A B : List Int) (i : Nat) (h : i < A.length) : cat (A ++ 1 :: B) i = cat A i := by
  simp [cat, List.getD, List.getElem?_append_left h]
theorem cat_mid (A B : List Int) : cat (A ++ 1 :: B) A.length = 1 := by
  simp [cat, List.getD]
theorem cat_right (A B : List Int) (i : Nat) : cat (A ++ 1 :: B) (A.length + 1 + i) = cat B i := by
  unfold cat
  rw [List.getD_eq_getElem?_getD, List.getD_eq_getElem?_getD, List.getElem?_append_right (by omega)]
  have e : A.length + 1 + i - A.length = i + 1 := by omega
  rw [e, List.getElem?_cons_succ]
theorem cat_out (A : List Int) (i : Nat) (h : A.length ≤ i) : cat A i = -1 := by
  simp [cat, List.getD, List.getElem?_eq_none h]
theorem joins_succ (c : List Int) (i : Nat) : joins c (i + 1) = (decide (cat c (i + 1) = 11) && decide (cat c i = 5) && decide (cat c (i + 2) = 5) || decide (cat c (i + 1) = 10) && decide (cat c i = 6) && decide (cat c (i + 2) = 6)) := rfl
theorem joins_left (A B : List Int) (i : Nat) (h : i < A.length) : joins (A ++ 1 :: B) i = joins A i := by
  cases i with
  | zero => rfl
  | succ i =>
    rw [joins_succ, joins_succ]
    rw [cat_left A B (i + 1) h, cat_left A B i (by omega)]
    by_cases e : i + 2 < A.length
    · rw [cat_left A B (i + 2) e]
    · have e2 : i + 2 = A.length := by omega
      rw [cat_out A (i + 2) (by omega), e2, cat_mid]
      simp
theorem joins_mid (A B : List Int) : joins (A ++ 1 :: B) A.length = false := by
  have h := cat_mid A B
  generalize A.length = n at h
  cases n with
  | zero => rfl
  | succ n => rw [joins_succ, h]; simp
theorem joins_right (A B : List Int) (i : Nat) : joins (A ++ 1 :: B) (A.length + 1 + i) = joins B i := by
  cases i with
  | zero =>
    show joins (A ++ 1 :: B) (A.length + 1) = false
    rw [joins_succ, cat_mid]
    simp
  | succ i =>
    have e : A.length + 1 + (i + 1) = (A.length + 1 + i) + 1 := by omega
    rw [e, joins_succ, joins_succ]
    have e1 : A.length + 1 + i + 1 = A.length + 1 + (i + 1) := by omega
    have e2 : A.length + 1 + i + 2 = A.length + 1 + (i + 2) := by omega
    rw [e1, e2, cat_right, cat_right, cat_right]
theorem inside_left (A B : List Int) (i : Nat) (h : i < A.length) : inside (A ++ 1 :: B) i = inside A i := by
  unfold inside; rw [cat_left A B i h, joins_left A B i h]
theorem inside_mid (A B : List Int) : inside (A ++ 1 :: B) A.length = false := by
  unfold inside; rw [cat_mid, joins_mid]; rfl
theorem inside_right (A B : List Int) (i : Nat) : inside (A ++ 1 :: B) (A.length + 1 + i) = inside B i := by
  unfold inside; rw [cat_right, joins_right]
theorem runTo_left (p q : Nat → Bool) (n N : Nat) (hN : n ≤ N) (hpq : ∀ k, k < n → p k = q k) (hn : p n = false) (k : Nat) (hk : k ≤ n) : runTo p N k = runTo q n k := by
  generalize hm : n - k = m
  induction m generalizing k with
  | zero =>
    have e : k = n := by omega
    subst e
    rw [runTo_stop (fun h => by rw [hn] at h; exact absurd h.2 (by simp)), runTo_stop (by omega)]
  | succ m ih =>
    by_cases hp : p k = true
    · rw [runTo_go (by omega) hp, runTo_go (p := q) (by omega) (by rw [← hpq k (by omega)]; exact hp)]
      exact ih (k + 1) (by omega) (by omega)
    · rw [runTo_stop (fun h => hp h.2), runTo_stop (p := q) (fun h => hp (by rw [hpq k (by omega)]; exact h.2))]
theorem runTo_right (p q : Nat → Bool) (s m : Nat) (hpq : ∀ k, k < m → p (s + k) = q k) (k : Nat) (hk : k ≤ m) : runTo p (s + m) (s + k) = s + runTo q m k := by
  generalize hd : m - k = d
  induction d generalizing k with
  | zero =>
    rw [runTo_stop (by omega), runTo_stop (by omega)]
  | succ d ih =>
    by_cases hp : q k = true
    · rw [runTo_go (p := q) (by omega) hp, runTo_go (p := p) (by omega) (by rw [hpq k (by omega)]; exact hp)]
      exact ih (k + 1) (by omega) (by omega)
    · rw [runTo_stop (p := q) (fun h => hp h.2), runTo_stop (p := p) (fun h => hp (by rw [← hpq k (by omega)]; exact h.2))]
theorem len_join (A B : List Int) : (A ++ 1 :: B).length = A.length + 1 + B.length := by simp; omega
theorem tokEnd_left (A B : List Int) (i : Nat) (h : i < A.length) : tokEnd (A ++ 1 :: B) i = tokEnd A i := by
  unfold tokEnd
  rw [cat_left A B i h]
  have hl := len_join A B
  rw [runTo_left (inside (A ++ 1 :: B)) (inside A) A.length _ (by omega) (fun k hk => inside_left A B k hk) (inside_mid A B) (i + 1) (by omega),
    runTo_left (fun k => spacy (cat (A ++ 1 :: B) k)) (fun k => spacy (cat A k)) A.length _ (by omega) (fun k hk => by rw [cat_left A B k hk]) (by rw [cat_mid]; rfl) (i + 1) (by omega)]
theorem tokEnd_mid (A B : List Int) : tokEnd (A ++ 1 :: B) A.length = A.length + 1 := by
  unfold tokEnd; rw [cat_mid]; rfl
theorem tokEnd_right (A B : List Int) (i : Nat) (h : i < B.length) : tokEnd (A ++ 1 :: B) (A.length + 1 + i) = A.length + 1 + tokEnd B i := by
  unfold tokEnd
  rw [cat_right, len_join]
  have e : A.length + 1 + i + 1 = A.length + 1 + (i + 1) := by omega
  rw [e, runTo_right (inside (A ++ 1 :: B)) (inside B) (A.length + 1) B.length (fun k _ => inside_right A B k) (i + 1) (by omega),
    runTo_right (fun k => spacy (cat (A ++ 1 :: B) k)) (fun k => spacy (cat B k)) (A.length + 1) B.length (fun k _ => by rw [cat_right]) (i + 1) (by omega)]
  split
  · rfl
  · split
    · rfl
    · omega
theorem lett_left (A B : List Int) (i e : Nat) (h : e ≤ A.length) : lett (A ++ 1 :: B) i e = lett A i e := by
  induction e with
  | zero => rfl
  | succ e ih => rw [lett, lett, ih (by omega), cat_left A B e (by omega)]
theorem lett_right (A B : List Int) (i e : Nat) : lett (A ++ 1 :: B) (A.length + 1 + i) (A.length + 1 + e) = lett B i e := by
  induction e with
  | zero => rw [lett_false _ _ _ (by omega)]; rfl
  | succ e ih =>
    have e1 : A.length + 1 + (e + 1) = (A.length + 1 + e) + 1 := by omega
    have e2 : decide (A.length + 1 + i ≤ A.length + 1 + e) = decide (i ≤ e) := by simp
    rw [e1, lett, lett, ih, cat_right, e2]
theorem tokKind_left (A B : List Int) (i : Nat) (h : i < A.length) : tokKind (A ++ 1 :: B) i = tokKind A i := by
  unfold tokKind
  rw [tokEnd_left A B i h, cat_left A B i h, lett_left A B i _ (tokEnd_lt A i h).2]
theorem tokKind_mid (A B : List Int) : tokKind (A ++ 1 :: B) A.length = 6 := by
  unfold tokKind; rw [cat_mid]; rfl
theorem tokKind_right (A B : List Int) (i : Nat) (h : i < B.length) : tokKind (A ++ 1 :: B) (A.length + 1 + i) = tokKind B i := by
  unfold tokKind
  rw [tokEnd_right A B i h, cat_right, lett_right]
def moved (s : Nat) (x : Int × Nat × Nat) : Int × Nat × Nat := (x.1, s + x.2.1, s + x.2.2)
theorem toks_right (A B : List Int) (i : Nat) : toks (A ++ 1 :: B) (A.length + 1 + i) = (toks B i).map (moved (A.length + 1)) := by
  generalize hd : B.length - i = d
  induction d using Nat.strongRecOn generalizing i with
  | ind d ih =>
    by_cases h : i < B.length
    · rw [toks_go h, toks_go (by rw [len_join]; omega), tokEnd_right A B i h, tokKind_right A B i h, List.map_cons]
      have := tokEnd_lt B i h
      rw [ih (B.length - tokEnd B i) (by omega) (tokEnd B i) rfl]; rfl
    · rw [toks_stop h, toks_stop (by rw [len_join]; omega)]; rfl
theorem toks_left (A B : List Int) (i : Nat) (hi : i ≤ A.length) : toks (A ++ 1 :: B) i = toks A i ++ toks (A ++ 1 :: B) A.length := by
  generalize hd : A.length - i = d
  induction d using Nat.strongRecOn generalizing i with
  | ind d ih =>
    by_cases h : i < A.length
    · have h2 := tokEnd_lt A i h
      rw [toks_go h, toks_go (c := A ++ 1 :: B) (i := i) (by rw [len_join]; omega), tokEnd_left A B i h, tokKind_left A B i h]
      rw [ih (A.length - tokEnd A i) (by omega) (tokEnd A i) h2.2 rfl]; rfl
    · have e : i = A.length := by omega
      subst e
      rw [toks_stop h]; rfl
/-- The tokens of both with a line feed between them: those of the first, a Control, those of the second, moved. -/
theorem toks_join (A B : List Int) : toks (A ++ 1 :: B) 0 = toks A 0 ++ (6, A.length, A.length + 1) :: (toks B 0).map (moved (A.length + 1)) := by
  rw [toks_left A B 0 (Nat.zero_le _), toks_go (c := A ++ 1 :: B) (i := A.length) (by rw [len_join]; omega), tokKind_mid, tokEnd_mid]
  have := toks_right A B 0
  rw [Nat.add_zero] at this
  rw [this]
theorem kindAt_left (A B : List Int) (k : Nat) (h : k < A.length) : kindAt (A ++ 1 :: B) k = kindAt A k := by
  unfold kindAt
  rw [cat_left A B k h, cat_left A B (k - 1) (by omega), cat_left A B (k - 2) (by omega)]
theorem kindAt_mid (A B : List Int) (h : 0 < A.length) : kindAt (A ++ 1 :: B) A.length = if cat A (A.length - 1) = 1 then 2 else 0 := by
  unfold kindAt
  rw [cat_mid, cat_left A B (A.length - 1) (by omega)]
  unfold kindB
  split
  · rfl
  · rw [if_pos (.inl rfl)]
theorem kindAt_lf (A B : List Int) : kindAt (A ++ 1 :: B) (A.length + 1) = 2 := by
  unfold kindAt
  rw [Nat.add_sub_cancel, cat_mid]
  unfold kindB
  rw [if_pos rfl]
theorem kindB_far (e e' a b : Int) (h : ¬ (e = 5 ∨ e = 6)) (h' : ¬ (e' = 5 ∨ e' = 6)) : kindB e a b = kindB e' a b := by
  unfold kindB
  repeat' split
  all_goals first | rfl | omega
theorem kindAt_right (A B : List Int) (k : Nat) (h : 0 < k) : kindAt (A ++ 1 :: B) (A.length + 1 + k) = kindAt B k := by
  obtain ⟨j, rfl⟩ : ∃ j, k = j + 1 := ⟨k - 1, by omega⟩
  unfold kindAt
  have e1 : A.length + 1 + (j + 1) - 1 = A.length + 1 + j := by omega
  rw [e1, cat_right, cat_right, Nat.add_sub_cancel, if_pos (by omega)]
  cases j with
  | zero =>
    have e2 : A.length + 1 + (0 + 1) - 2 = A.length := by omega
    rw [e2, cat_mid, if_neg (by omega)]
    exact kindB_far _ _ _ _ (by omega) (by omega)
  | succ j =>
    have e2 : A.length + 1 + (j + 1 + 1) - 2 = A.length + 1 + j := by omega
    rw [e2, cat_right, if_pos (by omega)]; rfl
end Sg
end Go.Proofs.YthjooopppidcfaaDoor
