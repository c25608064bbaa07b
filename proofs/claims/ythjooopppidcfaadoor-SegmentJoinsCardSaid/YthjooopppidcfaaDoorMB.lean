

/- The classes of layer 2, plainly: the program's table and the reference's two tables give each integer one class. -/
namespace Go.Proofs.YthjooopppidcfaaDoor
namespace Gc

/-- A span: from, to, class. -/
abbrev Span := Int × Int × Int

def tabA : List Span := [(0, 9, 3), (10, 10, 2), (11, 12, 3), (13, 13, 1), (14, 31, 3), (127, 159, 3), (169, 169, 14), (173, 173, 3), (174, 174, 14), (768, 879, 4), (1155, 1161, 4), (1425, 1469, 4), (1471, 1471, 4), (1473, 1474, 4), (1476, 1477, 4), (1479, 1479, 4), (1536, 1541, 6), (1552, 1562, 4), (1611, 1631, 4), (1648, 1648, 4), (1750, 1756, 4), (1757, 1757, 6), (1759, 1764, 4), (1767, 1768, 4), (1770, 1773, 4), (1807, 1807, 6), (2274, 2274, 6), (2307, 2307, 7), (2362, 2362, 4), (2363, 2363, 7), (2364, 2364, 4), (2366, 2368, 7), (2369, 2376, 4), (2377, 2380, 7), (2381, 2381, 4), (2382, 2383, 7), (3633, 3633, 4), (3635, 3635, 7), (3636, 3642, 4), (3655, 3662, 4), (3763, 3763, 7), (4352, 4447, 8), (4448, 4519, 9), (4520, 4607, 10), (6832, 6911, 4), (7616, 7679, 4), (8203, 8203, 3), (8204, 8204, 4), (8205, 8205, 5), (8206, 8207, 3), (8232, 8238, 3), (8252, 8252, 14), (8265, 8265, 14), (8288, 8303, 3), (8400, 8447, 4), (8482, 8482, 14), (8505, 8505, 14), (8596, 8601, 14), (8617, 8618, 14), (8986, 8987, 14), (9193, 9203, 14), (9728, 9732, 14), (9748, 9749, 14), (9786, 9786, 14), (9800, 9811, 14), (9989, 9989, 14), (9992, 9997, 14), (10024, 10024, 14), (10084, 10084, 14), (10133, 10135, 14), (11088, 11088, 14), (12330, 12335, 4), (12441, 12442, 4), (43360, 43388, 8), (55216, 55238, 9), (55243, 55291, 10), (65024, 65039, 4), (65056, 65071, 4), (65279, 65279, 3), (65520, 65531, 3), (69821, 69821, 6), (126976, 127231, 14), (127462, 127487, 13), (127744, 127994, 14), (127995, 127999, 4), (128000, 128591, 14), (128640, 128767, 14), (129280, 129535, 14), (129648, 129791, 14), (917504, 917535, 3), (917536, 917631, 4), (917632, 917759, 3), (917760, 917999, 4), (918000, 921599, 3)]
def tabM : List Span := [(13, 13, 1), (10, 10, 2), (0, 9, 3), (11, 12, 3), (14, 31, 3), (127, 159, 3), (173, 173, 3), (8203, 8203, 3), (8206, 8207, 3), (8232, 8238, 3), (8288, 8303, 3), (65279, 65279, 3), (65520, 65531, 3), (917504, 917535, 3), (917632, 917759, 3), (918000, 921599, 3), (768, 879, 4), (1155, 1161, 4), (1425, 1469, 4), (1471, 1471, 4), (1473, 1474, 4), (1476, 1477, 4), (1479, 1479, 4), (1552, 1562, 4), (1611, 1631, 4), (1648, 1648, 4), (1750, 1756, 4), (1759, 1764, 4), (1767, 1768, 4), (1770, 1773, 4), (2362, 2362, 4), (2364, 2364, 4), (2369, 2376, 4), (2381, 2381, 4), (3633, 3633, 4), (3636, 3642, 4), (3655, 3662, 4), (6832, 6911, 4), (7616, 7679, 4), (8204, 8204, 4), (8400, 8447, 4), (12330, 12335, 4), (12441, 12442, 4), (65024, 65039, 4), (65056, 65071, 4), (127995, 127999, 4), (917536, 917631, 4), (917760, 917999, 4), (8205, 8205, 5), (1536, 1541, 6), (1757, 1757, 6), (1807, 1807, 6), (2274, 2274, 6), (69821, 69821, 6), (2307, 2307, 7), (2363, 2363, 7), (2366, 2368, 7), (2377, 2380, 7), (2382, 2383, 7), (3635, 3635, 7), (3763, 3763, 7)]
def tabL : List Span := [(4352, 4447, 8), (43360, 43388, 8), (4448, 4519, 9), (55216, 55238, 9), (4520, 4607, 10), (55243, 55291, 10), (127462, 127487, 13), (169, 169, 14), (174, 174, 14), (8252, 8252, 14), (8265, 8265, 14), (8482, 8482, 14), (8505, 8505, 14), (8596, 8601, 14), (8617, 8618, 14), (8986, 8987, 14), (9193, 9203, 14), (9728, 9732, 14), (9748, 9749, 14), (9786, 9786, 14), (9800, 9811, 14), (9989, 9989, 14), (9992, 9997, 14), (10024, 10024, 14), (10084, 10084, 14), (10133, 10135, 14), (11088, 11088, 14), (126976, 127231, 14), (127744, 127994, 14), (128000, 128591, 14), (128640, 128767, 14), (129280, 129535, 14), (129648, 129791, 14)]

def has (p : Int) (s : Span) : Bool := decide (s.1 ≤ p) && decide (p ≤ s.2.1)

/-- The class of the first span that has p, or 0. -/
def within : List Span → Int → Int
  | [], _ => 0
  | s :: l, p => if has p s then s.2.2 else within l p

def hangul (p : Int) : Int := if (p - 44032) % 28 = 0 then 11 else 12

def classOf (p : Int) : Int := if 44032 ≤ p ∧ p ≤ 55203 then hangul p else within tabA p

/-- Apart: no integer is in two of the spans. -/
def apart : List Span → Bool
  | [] => true
  | s :: l => l.all (fun t => decide (s.2.1 < t.1) || decide (t.2.1 < s.1)) && apart l

def sound (l : List Span) : Bool := l.all fun s => decide (s.1 ≤ s.2.1) && decide (s.2.2 ≠ 0)

theorem has_iff (p : Int) (s : Span) : has p s = true ↔ s.1 ≤ p ∧ p ≤ s.2.1 := by simp [has]

theorem within_none (l : List Span) (p : Int) (h : ∀ s ∈ l, has p s = false) : within l p = 0 := by
  induction l with
  | nil => rfl
  | cons s l ih =>
    unfold within
    rw [h s (by simp)]
    exact ih fun t ht => h t (by simp [ht])

theorem within_mem (l : List Span) (hl : apart l = true) (p : Int) (s : Span) (hs : s ∈ l) (h : has p s = true) : within l p = s.2.2 := by
  induction l with
  | nil => cases hs
  | cons t l ih =>
    simp only [apart, Bool.and_eq_true, List.all_eq_true, Bool.or_eq_true, decide_eq_true_eq] at hl
    obtain ⟨ha, hb⟩ := hl
    unfold within
    rcases List.mem_cons.1 hs with rfl | hs
    · rw [if_pos h]
    · have h1 := ha s hs
      have h2 := (has_iff p s).1 h
      have h3 : has p t = false := by
        cases hc : has p t with
        | false => rfl
        | true => have h4 := (has_iff p t).1 hc; omega
      rw [h3]
      exact ih hb hs

theorem within_or (l : List Span) (p : Int) : (∃ s ∈ l, has p s = true) ∨ ∀ s ∈ l, has p s = false := by
  by_cases h : ∃ s ∈ l, has p s = true
  · exact .inl h
  · refine .inr fun s hs => ?_
    cases hc : has p s with
    | false => rfl
    | true => exact absurd ⟨s, hs, hc⟩ h

theorem apartA : apart tabA = true := by decide +kernel
theorem apartM : apart tabM = true := by decide +kernel
theorem apartL : apart tabL = true := by decide +kernel
theorem soundM : sound tabM = true := by decide +kernel
theorem subA : (tabA.all fun s => tabM.contains s || tabL.contains s) = true := by decide +kernel
theorem subM : (tabM.all fun s => tabA.contains s) = true := by decide +kernel
theorem subL : (tabL.all fun s => tabA.contains s) = true := by decide +kernel

/-- The reference: the marks first, then the letters. -/
theorem within_ref (p : Int) : (if within tabM p ≠ 0 then within tabM p else within tabL p) = within tabA p := by
  have hM : ∀ s ∈ tabM, s ∈ tabA := fun s hs => by simpa using List.all_eq_true.1 subM s hs
  have hL : ∀ s ∈ tabL, s ∈ tabA := fun s hs => by simpa using List.all_eq_true.1 subL s hs
  rcases within_or tabM p with ⟨s, hs, h⟩ | hn
  · have h0 : s.2.2 ≠ 0 := by
      have h1 := List.all_eq_true.1 soundM s hs
      simp only [Bool.and_eq_true, decide_eq_true_eq] at h1
      exact h1.2
    rw [within_mem tabM apartM p s hs h, if_pos h0, within_mem tabA apartA p s (hM s hs) h]
  · rw [within_none tabM p hn, if_neg (by simp)]
    rcases within_or tabL p with ⟨s, hs, h⟩ | hn'
    · rw [within_mem tabL apartL p s hs h, within_mem tabA apartA p s (hL s hs) h]
    · rw [within_none tabL p hn', within_none tabA p]
      intro s hs
      have h1 := List.all_eq_true.1 subA s hs
      simp only [Bool.or_eq_true, List.contains_iff_mem] at h1
      rcases h1 with h1 | h1
      · exact hn s h1
      · exact hn' s h1

/-- Ascending: each span ends before the next begins. -/
def up : List Span → Bool
  | [] => true
  | s :: l => decide (s.1 ≤ s.2.1) && l.all (fun t => decide (s.2.1 < t.1)) && up l

theorem upA : up tabA = true := by decide +kernel

theorem up_lt (l : List Span) (hl : up l = true) (i j : Nat) (hi : i < j) (hj : j < l.length) : (l[i]'(by omega)).2.1 < l[j].1 := by
  induction l generalizing i j with
  | nil => simp at hj
  | cons s l ih =>
    simp only [up, Bool.and_eq_true, List.all_eq_true, decide_eq_true_eq] at hl
    obtain ⟨⟨_, ha⟩, hb⟩ := hl
    obtain _ | j := j
    · omega
    · obtain _ | i := i
      · simpa using ha _ (List.getElem_mem (by simpa using hj))
      · simpa using ih hb i j (by omega) (by simpa using hj)

/-- What a search that has parted the spans at place i says of p. -/
theorem within_at (p : Int) (i : Nat) (hlo : ∀ k (h : k < tabA.length), k < i → tabA[k].2.1 < p) (hhi : ∀ k (h : k < tabA.length), i ≤ k → p ≤ tabA[k].2.1) :
    within tabA p = if h : i < tabA.length then (if tabA[i].1 ≤ p then tabA[i].2.2 else 0) else 0 := by
  split
  · rename_i h
    split
    · rename_i h1
      exact within_mem tabA apartA p _ (List.getElem_mem h) ((has_iff p _).2 ⟨h1, hhi i h (Nat.le_refl _)⟩)
    · rename_i h1
      refine within_none tabA p fun s hs => ?_
      obtain ⟨k, hk, rfl⟩ := List.getElem_of_mem hs
      cases hc : has p tabA[k] with
      | false => rfl
      | true =>
        have h2 := (has_iff p _).1 hc
        rcases Nat.lt_trichotomy k i with h3 | h3 | h3
        · have := hlo k hk h3; omega
        · subst h3; omega
        · have h4 := up_lt tabA upA i k h3 hk
          have h5 := hhi i h (Nat.le_refl _)
          omega
  · rename_i h
    refine within_none tabA p fun s hs => ?_
    obtain ⟨k, hk, rfl⟩ := List.getElem_of_mem hs
    cases hc : has p tabA[k] with
    | false => rfl
    | true =>
      have h2 := (has_iff p _).1 hc
      have := hlo k hk (by omega); omega
end Gc
end Go.Proofs.YthjooopppidcfaaDoor

/- The rules of layer 2, plainly: the state that the program keeps says the same of the next unit as the reference's look back. -/
namespace Go.Proofs.YthjooopppidcfaaDoor
namespace Gc

/-- What the program keeps of the units before an offset: the last class, picture, joined, oddFlag. -/
structure St where
  last : Int
  picture : Bool
  joined : Bool
  odd : Bool
deriving DecidableEq

def St.zero : St := ⟨0, false, false, false⟩

def St.add (s : St) (c : Int) : St :=
  ⟨c, decide (c = 14) || s.picture && decide (c = 4), s.picture && decide (c = 5), decide (c = 13) && !s.odd⟩

def control (c : Int) : Bool := decide (c = 1) || decide (c = 2) || decide (c = 3)

def syllable (a b : Int) : Bool :=
  decide (a = 8) && (decide (b = 8) || decide (b = 9) || decide (b = 11) || decide (b = 12)) ||
  (decide (a = 11) || decide (a = 9)) && (decide (b = 9) || decide (b = 10)) ||
  (decide (a = 12) || decide (a = 10)) && decide (b = 10)

def St.boundary (s : St) (b : Int) : Bool :=
  if s.last = 1 ∧ b = 2 then false
  else if control s.last || control b then true
  else if syllable s.last b then false
  else if b = 4 ∨ b = 5 ∨ b = 7 then false
  else if s.last = 6 then false
  else if s.joined = true ∧ b = 14 then false
  else if s.odd = true ∧ b = 13 then false
  else true

/-- Of the classes before an offset, the nearest first: they end with a Pictographic and any number of Extend. -/
def pic : List Int → Bool
  | [] => false
  | x :: r => decide (x = 14) || decide (x = 4) && pic r

def joins : List Int → Bool
  | [] => false
  | x :: r => decide (x = 5) && pic r

def regs : List Int → Nat
  | [] => 0
  | x :: r => if x = 13 then regs r + 1 else 0

/-- The reference's answer at an offset: the classes before it (the nearest first), the class behind it. -/
def refB (r : List Int) (b : Int) : Bool :=
  let a := r.headD 0
  if a = 1 ∧ b = 2 then false
  else if control a || control b then true
  else if syllable a b || decide (b = 4) || decide (b = 5) || decide (b = 7) || decide (a = 6) then false
  else if b = 14 ∧ joins r = true then false
  else !(decide (a = 13) && decide (b = 13) && decide (regs r % 2 = 1))

/-- The state behind some classes (the nearest first). -/
def stOf : List Int → St
  | [] => St.zero
  | x :: r => (stOf r).add x

theorem stOf_last (r : List Int) : (stOf r).last = r.headD 0 := by cases r <;> rfl
theorem stOf_picture (r : List Int) : (stOf r).picture = pic r := by
  induction r with
  | nil => rfl
  | cons x r ih => simp [stOf, St.add, pic, ih, Bool.and_comm]
theorem stOf_joined (r : List Int) : (stOf r).joined = joins r := by
  cases r with
  | nil => rfl
  | cons x r => simp [stOf, St.add, joins, stOf_picture, Bool.and_comm]
theorem stOf_odd (r : List Int) : (stOf r).odd = decide (regs r % 2 = 1) := by
  induction r with
  | nil => rfl
  | cons x r ih =>
    by_cases h : x = 13
    · simp only [stOf, St.add, ih, regs, h, decide_true, Bool.true_and, if_true]
      rcases Nat.mod_two_eq_zero_or_one (regs r) with h1 | h1
      · rw [h1]; simp; omega
      · rw [h1]; simp; omega
    · simp [stOf, St.add, regs, h]

theorem regs_head (r : List Int) (h : regs r % 2 = 1) : r.headD 0 = 13 := by
  cases r with
  | nil => simp [regs] at h
  | cons x r =>
    unfold regs at h
    split at h
    · assumption
    · simp at h

theorem boundary_ref (r : List Int) (b : Int) : (stOf r).boundary b = refB r b := by
  unfold St.boundary refB
  rw [stOf_last, stOf_joined, stOf_odd]
  generalize ha : r.headD 0 = a
  dsimp only
  have hr : regs r % 2 = 1 → a = 13 := fun h => ha ▸ regs_head r h
  generalize joins r = j
  by_cases h1 : a = 1 ∧ b = 2
  · rw [if_pos h1, if_pos h1]
  rw [if_neg h1, if_neg h1]
  by_cases h2 : (control a || control b) = true
  · rw [if_pos h2, if_pos h2]
  rw [if_neg h2, if_neg h2]
  cases h3 : syllable a b with
  | true => simp
  | false =>
    by_cases h4 : b = 4 ∨ b = 5 ∨ b = 7
    · rw [if_neg (by simp), if_pos h4, if_pos]
      rcases h4 with h | h | h <;> simp [h]
    · rw [if_neg (by simp), if_neg h4]
      by_cases h5 : a = 6
      · rw [if_pos h5, if_pos (by simp [h5])]
      · rw [if_neg h5]
        have h4' : ¬ b = 4 ∧ ¬ b = 5 ∧ ¬ b = 7 := by omega
        have e : (false || decide (b = 4) || decide (b = 5) || decide (b = 7) || decide (a = 6)) = false := by simp [h4', h5]
        rw [e]
        simp only [Bool.false_eq_true, if_false]
        by_cases h6 : j = true ∧ b = 14
        · rw [if_pos h6, if_pos h6.symm]
        · rw [if_neg h6, if_neg (show ¬ (b = 14 ∧ j = true) from fun h => h6 h.symm)]
          by_cases h7 : regs r % 2 = 1
          · have := hr h7
            by_cases h8 : b = 13
            · simp [h7, h8, this]
            · simp [h8]
          · simp [h7]

/-- The boundaries, as both tell them: the offsets from 1 on at which there is one, of the classes cs that lie behind the classes r (the nearest first). -/
def inner (r : List Int) (at' : Nat) : List Int → List Int
  | [] => []
  | c :: cs => (if refB r c then [(at' : Int)] else []) ++ inner (c :: r) (at' + 1) cs

/-- All boundaries of some classes. -/
def bounds : List Int → List Int
  | [] => [0]
  | c :: cs => 0 :: (inner [c] 1 cs ++ [((cs.length + 1 : Nat) : Int)])

end Gc
end Go.Proofs.YthjooopppidcfaaDoor

/- The clusters of layer 2, plainly: pairs (from, to) of units; what the offsets say; locality. -/
namespace Go.Proofs.YthjooopppidcfaaDoor
namespace Gc

def clGo (r : List Int) (j k : Nat) : List Int → List (Nat × Nat)
  | [] => if 0 < k then [(j, k)] else []
  | c :: cs => if 0 < k ∧ refB r c = true then (j, k) :: clGo (c :: r) k (k + 1) cs else clGo (c :: r) j (k + 1) cs
def cls (cs : List Int) : List (Nat × Nat) := clGo [] 0 0 cs
/-- The boundaries. -/
def bnd (cs : List Int) : List Nat := 0 :: (cls cs).map Prod.snd

theorem cls_nil : cls [] = [] := rfl
theorem cls_cons (c : Int) (cs : List Int) : cls (c :: cs) = clGo [c] 0 1 cs := rfl

theorem clGo_snd (cs : List Int) (r : List Int) (j k : Nat) (hk : 0 < k) : (clGo r j k cs).map (fun x => (x.2 : Int)) = inner r k cs ++ [((k + cs.length : Nat) : Int)] := by
  induction cs generalizing r j k with
  | nil => simp [clGo, hk, inner]
  | cons c cs ih =>
    have e : ((k + (c :: cs).length : Nat) : Int) = ((k + 1 + cs.length : Nat) : Int) := by simp; omega
    rw [e]
    unfold clGo inner
    by_cases h : refB r c = true
    · rw [if_pos ⟨hk, h⟩, if_pos h, List.map_cons, ih _ _ _ (by omega)]; rfl
    · rw [if_neg (fun x => h x.2), if_neg h, ih _ _ _ (by omega)]; rfl

theorem bnd_bounds (cs : List Int) : (bnd cs).map (fun n : Nat => (n : Int)) = bounds cs := by
  unfold bnd
  cases cs with
  | nil => rfl
  | cons c cs =>
    rw [List.map_cons, cls_cons, List.map_map]
    have := clGo_snd cs [c] 0 1 (by decide)
    rw [show ((fun n : Nat => (n : Int)) ∘ Prod.snd : Nat × Nat → Int) = fun x => (x.2 : Int) from rfl, this]
    unfold bounds
    rw [Nat.add_comm]; rfl

/-- The pairs follow one another. -/
theorem clGo_fst (cs : List Int) (r : List Int) (j k : Nat) : ∀ i (h : i < (clGo r j k cs).length), ((clGo r j k cs)[i]).1 = (j :: (clGo r j k cs).map Prod.snd)[i]'(by simp; omega) := by
  induction cs generalizing r j k with
  | nil =>
    intro i h
    unfold clGo at h ⊢
    split at h
    · rename_i hk
      simp only [hk, if_true] at h ⊢
      have : i = 0 := by simp at h; omega
      subst this; rfl
    · simp at h
  | cons c cs ih =>
    intro i h
    unfold clGo at h ⊢
    by_cases hc : 0 < k ∧ refB r c = true
    · simp only [hc, and_self, if_true] at h ⊢
      cases i with
      | zero => rfl
      | succ i =>
        simp only [List.getElem_cons_succ, List.map_cons]
        exact ih _ _ _ i (by simpa using h)
    · rw [if_neg hc] at h
      simp only [hc, if_false] at h ⊢
      exact ih _ _ _ i h

theorem cls_fst (cs : List Int) (i : Nat) (h : i < (cls cs).length) : ((cls cs)[i]).1 = (bnd cs)[i]'(by simp [bnd]; omega) := clGo_fst cs [] 0 0 i h
theorem cls_snd (cs : List Int) (i : Nat) (h : i < (cls cs).length) : ((cls cs)[i]).2 = (bnd cs)[i + 1]'(by simp [bnd]; omega) := by
  simp [bnd]

theorem clGo_ge (cs : List Int) (r : List Int) (j k : Nat) : ∀ x ∈ clGo r j k cs, k ≤ x.2 := by
  induction cs generalizing r j k with
  | nil => intro x hx; unfold clGo at hx; split at hx
           · simp at hx; subst hx; exact Nat.le_refl _
           · cases hx
  | cons c cs ih =>
    intro x hx
    unfold clGo at hx
    split at hx
    · rcases List.mem_cons.1 hx with rfl | hx
      · exact Nat.le_refl _
      · have := ih _ _ _ x hx; omega
    · have := ih _ _ _ x hx; omega
/-- Ascending, up to the end. -/
theorem clGo_up (cs : List Int) (r : List Int) (j k : Nat) (h : j < k) : (j :: (clGo r j k cs).map Prod.snd).Pairwise (· < ·) ∧ (clGo r j k cs ≠ []) ∧ (∀ x ∈ clGo r j k cs, k ≤ x.2 ∧ x.2 ≤ k + cs.length) ∧ ∃ a, (clGo r j k cs).getLast? = some (a, k + cs.length) := by
  induction cs generalizing r j k with
  | nil =>
    have e : clGo r j k [] = [(j, k)] := by unfold clGo; rw [if_pos (by omega)]
    rw [e]
    refine ⟨by simp [h], by simp, by simp, j, by simp⟩
  | cons c cs ih =>
    unfold clGo
    by_cases hc : 0 < k ∧ refB r c = true
    · rw [if_pos hc]
      obtain ⟨h1, h2, h3, a, h4⟩ := ih (c :: r) k (k + 1) (by omega)
      refine ⟨?_, by simp, ?_, a, ?_⟩
      · rw [List.map_cons, List.pairwise_cons]
        refine ⟨?_, h1⟩
        intro x hx
        rcases List.mem_cons.1 hx with rfl | hx
        · exact h
        · have := (List.pairwise_cons.1 h1).1 x hx
          omega
      · intro x hx
        rcases List.mem_cons.1 hx with rfl | hx
        · simp
        · have := h3 x hx; simp; omega
      · rw [List.getLast?_cons, h4]
        simp; omega
    · rw [if_neg hc]
      obtain ⟨h1, h2, h3, a, h4⟩ := ih (c :: r) j (k + 1) (by omega)
      refine ⟨h1, h2, ?_, a, ?_⟩
      · intro x hx
        have := h3 x hx; simp; omega
      · rw [h4]; simp; omega

theorem bnd_up (cs : List Int) : (bnd cs).Pairwise (· < ·) := by
  cases cs with
  | nil => simp [bnd, cls_nil]
  | cons c cs => exact (clGo_up cs [c] 0 1 (by decide)).1
theorem bnd_le (cs : List Int) : ∀ x ∈ bnd cs, x ≤ cs.length := by
  intro x hx
  unfold bnd at hx
  rcases List.mem_cons.1 hx with rfl | hx
  · exact Nat.zero_le _
  · cases cs with
    | nil => cases hx
    | cons c cs =>
      obtain ⟨y, hy, rfl⟩ := List.mem_map.1 hx
      have := (clGo_up cs [c] 0 1 (by decide)).2.2.1 y hy
      simp; omega
theorem bnd_last (cs : List Int) : (bnd cs).getLast? = some cs.length := by
  cases cs with
  | nil => rfl
  | cons c cs =>
    obtain ⟨a, h⟩ := (clGo_up cs [c] 0 1 (by decide)).2.2.2
    unfold bnd
    rw [List.getLast?_cons, List.getLast?_map, cls_cons, h]
    simp; omega
theorem bnd_len (cs : List Int) : (bnd cs).length = (cls cs).length + 1 := by simp [bnd]
theorem bnd_length_le (cs : List Int) : (cls cs).length ≤ cs.length := by
  have key : ∀ (cs : List Int) (r : List Int) (j k : Nat), (clGo r j k cs).length ≤ cs.length + 1 := by
    intro cs
    induction cs with
    | nil => intro r j k; unfold clGo; split <;> simp
    | cons c cs ih =>
      intro r j k
      unfold clGo
      split
      · have := ih (c :: r) k (k + 1); simp; omega
      · have := ih (c :: r) j (k + 1); simp; omega
  cases cs with
  | nil => simp [cls_nil]
  | cons c cs => have := key cs [c] 0 1; rw [cls_cons]; simp; omega
theorem cls_range (cs : List Int) (x : Nat × Nat) (hx : x ∈ cls cs) : x.1 < x.2 ∧ x.2 ≤ cs.length := by
  obtain ⟨i, hi, rfl⟩ := List.getElem_of_mem hx
  rw [cls_fst cs i hi, cls_snd cs i hi]
  refine ⟨?_, bnd_le cs _ (List.getElem_mem _)⟩
  exact List.pairwise_iff_getElem.1 (bnd_up cs) i (i + 1) _ _ (by omega)

/-! ### locality -/
theorem pic_app (a b : List Int) (hb : pic b = false) : pic (a ++ b) = pic a := by
  induction a with
  | nil => simpa [pic] using hb
  | cons x a ih => simp [pic, ih]
theorem pic_ext (a b : List Int) (f : Int) (h : f ≠ 4) : pic (a ++ f :: b) = pic (a ++ [f]) := by
  induction a with
  | nil => simp [pic, h]
  | cons x a ih => simp [pic, ih]
theorem joins_app (a b : List Int) (f : Int) (h : (f ≠ 4 ∧ f ≠ 5) ∨ pic b = false) : joins (a ++ f :: b) = joins (a ++ [f]) := by
  cases a with
  | nil =>
    simp only [List.nil_append, joins]
    rcases h with h | h
    · simp [h.2]
    · simp [h, pic]
  | cons x a =>
    simp only [List.cons_append, joins]
    rcases h with h | h
    · rw [pic_ext _ _ _ h.1]
    · rw [show a ++ f :: b = (a ++ [f]) ++ b by simp, pic_app _ _ h]
theorem regs_app (a b : List Int) (f : Int) (h : f ≠ 13 ∨ regs b % 2 = 0) : regs (a ++ f :: b) % 2 = regs (a ++ [f]) % 2 := by
  induction a with
  | nil =>
    simp only [List.nil_append, regs]
    rcases h with h | h
    · simp [h]
    · split <;> omega
  | cons x a ih =>
    simp only [List.cons_append, regs]
    split <;> omega

theorem control_pic (b : List Int) (h : control (b.headD 0) = true) : pic b = false ∧ regs b = 0 := by
  cases b with
  | nil => exact ⟨rfl, rfl⟩
  | cons x b =>
    simp [control] at h
    have h1 : x ≠ 14 := by omega
    have h2 : x ≠ 4 := by omega
    have h3 : x ≠ 13 := by omega
    exact ⟨by simp [pic, h1, h2], by simp [regs, h3]⟩

/-- What stands before a boundary doesn't matter behind it. -/
theorem refB_local (a b : List Int) (f c : Int) (h : b = [] ∨ refB b f = true) : refB (a ++ f :: b) c = refB (a ++ [f]) c := by
  rcases h with rfl | h
  · rfl
  have hj : joins (a ++ f :: b) = joins (a ++ [f]) := by
    refine joins_app a b f ?_
    by_cases hf : f = 4 ∨ f = 5
    · refine .inr ?_
      unfold refB at h
      dsimp only at h
      split at h
      · cases h
      · split at h
        · rename_i h1
          have h2 : control (b.headD 0) = true := by
            rcases hf with rfl | rfl
            · simpa [control] using h1
            · simpa [control] using h1
          exact (control_pic b h2).1
        · rename_i h1
          rw [if_pos] at h
          · cases h
          · rcases hf with rfl | rfl <;> simp
    · exact .inl (by omega)
  have hr : regs (a ++ f :: b) % 2 = regs (a ++ [f]) % 2 := by
    refine regs_app a b f ?_
    by_cases hf : f = 13
    · refine .inr ?_
      subst hf
      unfold refB at h
      dsimp only at h
      split at h
      · cases h
      · split at h
        · rename_i h1
          have h2 : control (b.headD 0) = true := by simpa [control] using h1
          rw [(control_pic b h2).2]
        · split at h
          · cases h
          · split at h
            · cases h
            · by_cases ho : regs b % 2 = 1
              · have := regs_head b ho
                rw [this] at h
                simp [ho] at h
              · omega
    · exact .inl hf
  have hh : (a ++ f :: b).headD 0 = (a ++ [f]).headD 0 := by cases a <;> rfl
  unfold refB
  rw [hj, hr, hh]

/-- Behind a boundary, the clusters are those of the rest, moved. -/
theorem clGo_rest (cs : List Int) (a b : List Int) (f : Int) (h : b = [] ∨ refB b f = true) (j k m : Nat) (hk : 0 < k) :
    clGo (a ++ f :: b) (j + m) (k + m) cs = (clGo (a ++ [f]) j k cs).map fun x => (x.1 + m, x.2 + m) := by
  induction cs generalizing a j k with
  | nil => simp only [clGo]; rw [if_pos (by omega), if_pos hk]; rfl
  | cons c cs ih =>
    unfold clGo
    rw [refB_local a b f c h]
    by_cases hc : refB (a ++ [f]) c = true
    · rw [if_pos ⟨by omega, hc⟩, if_pos ⟨hk, hc⟩, List.map_cons]
      have := ih (c :: a) k (k + 1) (by omega)
      rw [show k + 1 + m = k + m + 1 by omega] at this
      rw [List.cons_append, List.cons_append] at this
      rw [this]
    · rw [if_neg (fun x => hc x.2), if_neg (fun x => hc x.2)]
      have := ih (c :: a) j (k + 1) (by omega)
      rw [show k + 1 + m = k + m + 1 by omega] at this
      rw [List.cons_append, List.cons_append] at this
      exact this

/-- At the i-th cluster's beginning b, the clusters from there on are those of the classes from b on. -/
theorem clGo_drop (cs : List Int) (r : List Int) (j k : Nat) (hj : 0 < k) (i : Nat) (h : i + 1 < (clGo r j k cs).length) :
    (clGo r j k cs).drop (i + 1) = (cls (cs.drop (((clGo r j k cs)[i]).2 - k))).map fun x => (x.1 + ((clGo r j k cs)[i]).2, x.2 + ((clGo r j k cs)[i]).2) := by
  induction cs generalizing r j k i with
  | nil =>
    have e : clGo r j k [] = [(j, k)] := by unfold clGo; rw [if_pos hj]
    rw [e] at h; simp at h
  | cons c cs ih =>
    by_cases hc : refB r c = true
    · have e : clGo r j k (c :: cs) = (j, k) :: clGo (c :: r) k (k + 1) cs := by
        conv => lhs; unfold clGo
        rw [if_pos ⟨hj, hc⟩]
      rw [e] at h
      simp only [e]
      cases i with
      | zero =>
        simp only [Nat.zero_add, List.drop_one, List.tail_cons, List.getElem_cons_zero, Nat.sub_self, List.drop_zero]
        have := clGo_rest cs [] r c (.inr hc) 0 1 k (by decide)
        rw [List.nil_append, List.nil_append, Nat.zero_add, Nat.add_comm] at this
        rw [this, cls_cons]
      | succ i =>
        rw [List.drop_succ_cons]
        simp only [List.getElem_cons_succ]
        rw [ih (c :: r) k (k + 1) (by omega) i (by simpa using h)]
        have h3 := (clGo_up cs (c :: r) k (k + 1) (by omega)).2.2.1 _ (List.getElem_mem (l := clGo (c :: r) k (k + 1) cs) (n := i) (by simp at h; omega))
        have e2 : ((clGo (c :: r) k (k + 1) cs)[i]'(by simp at h; omega)).2 - k = (((clGo (c :: r) k (k + 1) cs)[i]'(by simp at h; omega)).2 - (k + 1)) + 1 := by omega
        rw [e2, List.drop_succ_cons]
    · have e : clGo r j k (c :: cs) = clGo (c :: r) j (k + 1) cs := by
        conv => lhs; unfold clGo
        rw [if_neg (fun x => hc x.2)]
      rw [e] at h
      simp only [e]
      rw [ih (c :: r) j (k + 1) (by omega) i h]
      have h3 := clGo_ge cs (c :: r) j (k + 1) _ (List.getElem_mem (l := clGo (c :: r) j (k + 1) cs) (n := i) (by omega))
      have e2 : ((clGo (c :: r) j (k + 1) cs)[i]'(by omega)).2 - k = (((clGo (c :: r) j (k + 1) cs)[i]'(by omega)).2 - (k + 1)) + 1 := by omega
      rw [e2, List.drop_succ_cons]
end Gc
end Go.Proofs.YthjooopppidcfaaDoor
