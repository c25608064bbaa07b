/- The classes of layer 2, plainly: the program's table and the reference's two tables give each integer one class. -/
namespace Go.Proofs.YtigbmhddkcgjfaaDoor
namespace Gc

/-- A span: from, to, class. -/
abbrev Span := Int × Int × Int

def tabA : List Span := [(0, 9, 3), (10, 10, 2), (11, 12, 3), (13, 13, 1), (14, 31, 3), (127, 159, 3), (169, 169, 14), (173, 173, 3), (174, 174, 14), (768, 879, 4), (1155, 1161, 4), (1425, 1469, 4), (1471, 1471, 4), (1473, 1474, 4), (1476, 1477, 4), (1479, 1479, 4), (1536, 1541, 6), (1552, 1562, 4), (1611, 1631, 4), (1648, 1648, 4), (1750, 1756, 4), (1757, 1757, 6), (1759, 1764, 4), (1767, 1768, 4), (1770, 1773, 4), (1807, 1807, 6), (2274, 2274, 6), (2307, 2307, 7), (2362, 2362, 4), (2363, 2363, 7), (2364, 2364, 4), (2366, 2368, 7), (2369, 2376, 4), (2377, 2380, 7), (2381, 2381, 4), (2382, 2383, 7), (3633, 3633, 4), (3635, 3635, 7), (3636, 3642, 4), (3655, 3662, 4), (3763, 3763, 7), (4352, 4447, 8), (4448, 4519, 9), (4520, 4607, 10), (6832, 6911, 4), (7616, 7679, 4), (8203, 8203, 3), (8204, 8204, 4), (8205, 8205, 5), (8206, 8207, 3), (8232, 8238, 3), (8252, 8252, 14), (8265, 8265, 14), (8288, 8303, 3), (8400, 8447, 4), (8482, 8482, 14), (8505, 8505, 14), (8596, 8601, 14), (8617, 8618, 14), (8986, 8987, 14), (9193, 9203, 14), (9728, 9732, 14), (9748, 9749, 14), (9786, 9786, 14), (9800, 9811, 14), (9989, 9989, 14), (9992, 9997, 14), (10024, 10024, 14), (10084, 10084, 14), (10133, 10135, 14), (11088, 11088, 14), (12330, 12335, 4), (12441, 12442, 4), (43360, 43388, 8), (55216, 55238, 9), (55243, 55291, 10), (65024, 65039, 4), (65056, 65071, 4), (65279, 65279, 3), (65520, 65531, 3), (69821, 69821, 6), (126976, 127231, 14), (127462, 127487, 13), (127744, 127994, 14), (127995, 127999, 4), (128000, 128591, 14), (128640, 128767, 14), (129280, 129535, 14), (129648, 129791, 14), (917504, 917535, 3), (917536, 917631, 4), (917632, 917759, 3), (917760, 917999, 4), (918000, 921599, 3)]
def tabM : List Span := [(13, 13, 1), (10, 10, 2), (0, 9, 3), (11, 12, 3), (14, 31, 3), (127, 159, 3), (173, 173, 3), (8203, 8203, 3), (8206, 8207, 3), (8232, 8238, 3), (8288, 8303, 3), (65279, 65279, 3), (65520, 65531, 3), (917504, 917535, 3), (917632, 917759, 3), (918000, 921599, 3), (768, 879, 4), (1155, 1161, 4), (1425, 1469, 4), (1471, 1471, 4), (1473, 1474, 4), (1476, 1477, 4), (1479, 1479, 4), (1552, 1562, 4), (1611, 1631, 4), (1648, 1648, 4), (1750, 1756, 4), (1759, 1764, 4), (1767, 1768, 4), (1770, 1773, 4), (2362, 2362, 4), (2364, 2364, 4), (2369, 2376, 4), (2381, 2381, 4), (3633, 3633, 4), (3636, 3642, 4), (3655, 3662, 4), (6832, 6911, 4), (7616, 7679, 4), (8204, 8204, 4), (8400, 8447, 4), (12330, 12335, 4), (12441, 12442, 4), (65024, 65039, 4), (65056, 65071, 4), (127995, 127999, 4), (917536, 917631, 4), (917760, 917999, 4), (8205, 8205, 5), (1536, 1541, 6), (1757, 1757, 6), (1807, 1807, 6), (2274, 2274, 6), (69821, 69821, 6), (2307, 2307, 7), (2363, 2363, 7), (2366, 2368, 7), (2377, 2380, 7), (2382, 2383, 7), (3635, 3635, 7), (3763, 3763, 7)]
def tabL : List Span := [(4352, 4447, 8), (43360, 43388, 8), (4448, 4519, 9), (55216, 55238, 9), (4520, 4607, 10), (55243, 55291, 10), (127462, 127487, 13), (169, 169, 14), (174, 174, 14), (8252, 8252, 14), (8265, 8265, 14), (8482, 8482, 14), (8505, 8505, 14), (8596, 8601, 14), (8617, 8618, 14), (8986, 8987, 14), (9193, 9203, 14), (9728, 9732, 14), (9748, 9749, 14), (9786, 9786, 14), (9800, 9811, 14), (9989, 9989, 14), (9992, 9997, 14), (10024, 10024, 14), (10084, 10084, 14), (10133, 10135, 14), (11088, 11088, 14), (126976, 127231, 14), (127744, 127994, 14), (128000, 128591, 14), (128640, 128767, 14), (129280, 129535, 14), (129648, 129791, 14)]

def has (p : Int) (s : Span) : Bool := decide (s.1 ≤ p) && decide (p ≤ s.2.1)

/-- The class of the first span that has p, or 0. -/
def within : List Span → Int → Int
  | [], _ => 0
  | s :: l, p => if has p s then s.2.2 else within l p

def hangul (p : Int) : Int := if (p - 44032) % 28 = 0 then 11 else 12

def classOf (p : Int) : Int := if 44032 ≤ p ∧ p ≤ 55203 then hangul p else within tabA p

/-- Apart: no integer is in two of the spans. -/
def apart : List Span → Bool
  | [] => true
  | s :: l => l.all (fun t => decide (s.2.1 < t.1) || decide (t.2.1 < s.1)) && apart l

def sound (l : List Span) : Bool := l.all fun s => decide (s.1 ≤ s.2.1) && decide (s.2.2 ≠ 0)

theorem has_iff (p : Int) (s : Span) : has p s = true ↔ s.1 ≤ p ∧ p ≤ s.2.1 := by simp [has]

theorem within_none (l : List Span) (p : Int) (h : ∀ s ∈ l, has p s = false) : within l p = 0 := by
  induction l with
  | nil => rfl
  | cons s l ih =>
    unfold within
    rw [h s (by simp)]
    exact ih fun t ht => h t (by simp [ht])

theorem within_mem (l : List Span) (hl : apart l = true) (p : Int) (s : Span) (hs : s ∈ l) (h : has p s = true) : within l p = s.2.2 := by
  induction l with
  | nil => cases hs
  | cons t l ih =>
    simp only [apart, Bool.and_eq_true, List.all_eq_true, Bool.or_eq_true, decide_eq_true_eq] at hl
    obtain ⟨ha, hb⟩ := hl
    unfold within
    rcases List.mem_cons.1 hs with rfl | hs
    · rw [if_pos h]
    · have h1 := ha s hs
      have h2 := (has_iff p s).1 h
      have h3 : has p t = false := by
        cases hc : has p t with
        | false => rfl
        | true => have h4 := (has_iff p t).1 hc; omega
      rw [h3]
      exact ih hb hs

theorem within_or (l : List Span) (p : Int) : (∃ s ∈ l, has p s = true) ∨ ∀ s ∈ l, has p s = false := by
  by_cases h : ∃ s ∈ l, has p s = true
  · exact .inl h
  · refine .inr fun s hs => ?_
    cases hc : has p s with
    | false => rfl
    | true => exact absurd ⟨s, hs, hc⟩ h

theorem apartA : apart tabA = true := by decide +kernel
theorem apartM : apart tabM = true := by decide +kernel
theorem apartL : apart tabL = true := by decide +kernel
theorem soundM : sound tabM = true := by decide +kernel
theorem subA : (tabA.all fun s => tabM.contains s || tabL.contains s) = true := by decide +kernel
theorem subM : (tabM.all fun s => tabA.contains s) = true := by decide +kernel
theorem subL : (tabL.all fun s => tabA.contains s) = true := by decide +kernel

/-- The reference: the marks first, then the letters. -/
theorem within_ref (p : Int) : (if within tabM p ≠ 0 then within tabM p else within tabL p) = within tabA p := by
  have hM : ∀ s ∈ tabM, s ∈ tabA := fun s hs => by simpa using List.all_eq_true.1 subM s hs
  have hL : ∀ s ∈ tabL, s ∈ tabA := fun s hs => by simpa using List.all_eq_true.1 subL s hs
  rcases within_or tabM p with ⟨s, hs, h⟩ | hn
  · have h0 : s.2.2 ≠ 0 := by
      have h1 := List.all_eq_true.1 soundM s hs
      simp only [Bool.and_eq_true, decide_eq_true_eq] at h1
      exact h1.2
    rw [within_mem tabM apartM p s hs h, if_pos h0, within_mem tabA apartA p s (hM s hs) h]
  · rw [within_none tabM p hn, if_neg (by simp)]
    rcases within_or tabL p with ⟨s, hs, h⟩ | hn'
    · rw [within_mem tabL apartL p s hs h, within_mem tabA apartA p s (hL s hs) h]
    · rw [within_none tabL p hn', within_none tabA p]
      intro s hs
      have h1 := List.all_eq_true.1 subA s hs
      simp only [Bool.or_eq_true, List.contains_iff_mem] at h1
      rcases h1 with h1 | h1
      · exact hn s h1
      · exact hn' s h1

/-- Ascending: each span ends before the next begins. -/
def up : List Span → Bool
  | [] => true
  | s :: l => decide (s.1 ≤ s.2.1) && l.all (fun t => decide (s.2.1 < t.1)) && up l

theorem upA : up tabA = true := by decide +kernel

theorem up_lt (l : List Span) (hl : up l = true) (i j : Nat) (hi : i < j) (hj : j < l.length) : (l[i]'(by omega)).2.1 < l[j].1 := by
  induction l generalizing i j with
  | nil => simp at hj
  | cons s l ih =>
    simp only [up, Bool.and_eq_true, List.all_eq_true, decide_eq_true_eq] at hl
    obtain ⟨⟨_, ha⟩, hb⟩ := hl
    obtain _ | j := j
    · omega
    · obtain _ | i := i
      · simpa using ha _ (List.getElem_mem (by simpa using hj))
      · simpa using ih hb i j (by omega) (by simpa using hj)

/-- What a search that has parted the spans at place i says of p. -/
theorem within_at (p : Int) (i : Nat) (hlo : ∀ k (h : k < tabA.length), k < i → tabA[k].2.1 < p) (hhi : ∀ k (h : k < tabA.length), i ≤ k → p ≤ tabA[k].2.1) :
    within tabA p = if h : i < tabA.length then (if tabA[i].1 ≤ p then tabA[i].2.2 else 0) else 0 := by
  split
  · rename_i h
    split
    · rename_i h1
      exact within_mem tabA apartA p _ (List.getElem_mem h) ((has_iff p _).2 ⟨h1, hhi i h (Nat.le_refl _)⟩)
    · rename_i h1
      refine within_none tabA p fun s hs => ?_
      obtain ⟨k, hk, rfl⟩ := List.getElem_of_mem hs
      cases hc : has p tabA[k] with
      | false => rfl
      | true =>
        have h2 := (has_iff p _).1 hc
        rcases Nat.lt_trichotomy k i with h3 | h3 | h3
        · have := hlo k hk h3; omega
        · subst h3; omega
        · have h4 := up_lt tabA upA i k h3 hk
          have h5 := hhi i h (Nat.le_refl _)
          omega
  · rename_i h
    refine within_none tabA p fun s hs => ?_
    obtain ⟨k, hk, rfl⟩ := List.getElem_of_mem hs
    cases hc : has p tabA[k] with
    | false => rfl
    | true =>
      have h2 := (has_iff p _).1 hc
      have := hlo k hk (by omega); omega
end Gc
end Go.Proofs.YtigbmhddkcgjfaaDoor
