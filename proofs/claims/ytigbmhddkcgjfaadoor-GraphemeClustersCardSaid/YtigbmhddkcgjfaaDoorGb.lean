/- The rules of layer 2, plainly: the state that the program keeps says the same of the next unit as the reference's look back. -/
namespace Go.Proofs.YtigbmhddkcgjfaaDoor
namespace Gc

/-- What the program keeps of the units before an offset: the last class, picture, joined, oddFlag. -/
structure St where
  last : Int
  picture : Bool
  joined : Bool
  odd : Bool
deriving DecidableEq

def St.zero : St := ⟨0, false, false, false⟩

def St.add (s : St) (c : Int) : St :=
  ⟨c, decide (c = 14) || s.picture && decide (c = 4), s.picture && decide (c = 5), decide (c = 13) && !s.odd⟩

def control (c : Int) : Bool := decide (c = 1) || decide (c = 2) || decide (c = 3)

def syllable (a b : Int) : Bool :=
  decide (a = 8) && (decide (b = 8) || decide (b = 9) || decide (b = 11) || decide (b = 12)) ||
  (decide (a = 11) || decide (a = 9)) && (decide (b = 9) || decide (b = 10)) ||
  (decide (a = 12) || decide (a = 10)) && decide (b = 10)

def St.boundary (s : St) (b : Int) : Bool :=
  if s.last = 1 ∧ b = 2 then false
  else if control s.last || control b then true
  else if syllable s.last b then false
  else if b = 4 ∨ b = 5 ∨ b = 7 then false
  else if s.last = 6 then false
  else if s.joined = true ∧ b = 14 then false
  else if s.odd = true ∧ b = 13 then false
  else true

/-- Of the classes before an offset, the nearest first: they end with a Pictographic and any number of Extend. -/
def pic : List Int → Bool
  | [] => false
  | x :: r => decide (x = 14) || decide (x = 4) && pic r

def joins : List Int → Bool
  | [] => false
  | x :: r => decide (x = 5) && pic r

def regs : List Int → Nat
  | [] => 0
  | x :: r => if x = 13 then regs r + 1 else 0

/-- The reference's answer at an offset: the classes before it (the nearest first), the class behind it. -/
def refB (r : List Int) (b : Int) : Bool :=
  let a := r.headD 0
  if a = 1 ∧ b = 2 then false
  else if control a || control b then true
  else if syllable a b || decide (b = 4) || decide (b = 5) || decide (b = 7) || decide (a = 6) then false
  else if b = 14 ∧ joins r = true then false
  else !(decide (a = 13) && decide (b = 13) && decide (regs r % 2 = 1))

/-- The state behind some classes (the nearest first). -/
def stOf : List Int → St
  | [] => St.zero
  | x :: r => (stOf r).add x

theorem stOf_last (r : List Int) : (stOf r).last = r.headD 0 := by cases r <;> rfl
theorem stOf_picture (r : List Int) : (stOf r).picture = pic r := by
  induction r with
  | nil => rfl
  | cons x r ih => simp [stOf, St.add, pic, ih, Bool.and_comm]
theorem stOf_joined (r : List Int) : (stOf r).joined = joins r := by
  cases r with
  | nil => rfl
  | cons x r => simp [stOf, St.add, joins, stOf_picture, Bool.and_comm]
theorem stOf_odd (r : List Int) : (stOf r).odd = decide (regs r % 2 = 1) := by
  induction r with
  | nil => rfl
  | cons x r ih =>
    by_cases h : x = 13
    · simp only [stOf, St.add, ih, regs, h, decide_true, Bool.true_and, if_true]
      rcases Nat.mod_two_eq_zero_or_one (regs r) with h1 | h1
      · rw [h1]; simp; omega
      · rw [h1]; simp; omega
    · simp [stOf, St.add, regs, h]

theorem regs_head (r : List Int) (h : regs r % 2 = 1) : r.headD 0 = 13 := by
  cases r with
  | nil => simp [regs] at h
  | cons x r =>
    unfold regs at h
    split at h
    · assumption
    · simp at h

theorem boundary_ref (r : List Int) (b : Int) : (stOf r).boundary b = refB r b := by
  unfold St.boundary refB
  rw [stOf_last, stOf_joined, stOf_odd]
  generalize ha : r.headD 0 = a
  dsimp only
  have hr : regs r % 2 = 1 → a = 13 := fun h => ha ▸ regs_head r h
  generalize joins r = j
  by_cases h1 : a = 1 ∧ b = 2
  · rw [if_pos h1, if_pos h1]
  rw [if_neg h1, if_neg h1]
  by_cases h2 : (control a || control b) = true
  · rw [if_pos h2, if_pos h2]
  rw [if_neg h2, if_neg h2]
  cases h3 : syllable a b with
  | true => simp
  | false =>
    by_cases h4 : b = 4 ∨ b = 5 ∨ b = 7
    · rw [if_neg (by simp), if_pos h4, if_pos]
      rcases h4 with h | h | h <;> simp [h]
    · rw [if_neg (by simp), if_neg h4]
      by_cases h5 : a = 6
      · rw [if_pos h5, if_pos (by simp [h5])]
      · rw [if_neg h5]
        have h4' : ¬ b = 4 ∧ ¬ b = 5 ∧ ¬ b = 7 := by omega
        have e : (false || decide (b = 4) || decide (b = 5) || decide (b = 7) || decide (a = 6)) = false := by simp [h4', h5]
        rw [e]
        simp only [Bool.false_eq_true, if_false]
        by_cases h6 : j = true ∧ b = 14
        · rw [if_pos h6, if_pos h6.symm]
        · rw [if_neg h6, if_neg (show ¬ (b = 14 ∧ j = true) from fun h => h6 h.symm)]
          by_cases h7 : regs r % 2 = 1
          · have := hr h7
            by_cases h8 : b = 13
            · simp [h7, h8, this]
            · simp [h8]
          · simp [h7]

/-- The boundaries, as both tell them: the offsets from 1 on at which there is one, of the classes cs that lie behind the classes r (the nearest first). -/
def inner (r : List Int) (at' : Nat) : List Int → List Int
  | [] => []
  | c :: cs => (if refB r c then [(at' : Int)] else []) ++ inner (c :: r) (at' + 1) cs

/-- All boundaries of some classes. -/
def bounds : List Int → List Int
  | [] => [0]
  | c :: cs => 0 :: (inner [c] 1 cs ++ [((cs.length + 1 : Nat) : Int)])

end Gc
end Go.Proofs.YtigbmhddkcgjfaaDoor
