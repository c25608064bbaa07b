/- Layer 6, plainly: collation elements, keys. -/
import Derived.WalkKit
namespace Co

/-- An element: its weights on three levels. -/
abbrev El := Nat × Nat × Nat
def silent (c : Nat) : Bool := decide (c < 32) || (decide (127 ≤ c) && decide (c ≤ 159)) || decide (c = 173)
def dig (c : Nat) : Bool := decide (48 ≤ c) && decide (c ≤ 57)
/-- What the code points from 192 on are made of. -/
def ptab : List (Nat × Nat) := [(65, 768), (65, 769), (65, 770), (65, 771), (65, 776), (65, 778), (65, 69), (67, 807), (69, 768), (69, 769), (69, 770), (69, 776), (73, 768), (73, 769), (73, 770), (73, 776), (0, 0), (78, 771), (79, 768), (79, 769), (79, 770), (79, 771), (79, 776), (0, 0), (79, 824), (85, 768), (85, 769), (85, 770), (85, 776), (89, 769), (0, 0), (115, 115), (97, 768), (97, 769), (97, 770), (97, 771), (97, 776), (97, 778), (97, 101), (99, 807), (101, 768), (101, 769), (101, 770), (101, 776), (105, 768), (105, 769), (105, 770), (105, 776), (0, 0), (110, 771), (111, 768), (111, 769), (111, 770), (111, 771), (111, 776), (0, 0), (111, 824), (117, 768), (117, 769), (117, 770), (117, 776), (121, 769), (0, 0), (121, 776)]
def pairN (c : Nat) : Nat × Nat := if 192 ≤ c ∧ c < 256 then ptab.getD (c - 192) (0, 0) else (0, 0)
/-- The elements of a code point that is no pair. -/
def oneE (up : Nat) (ign : Bool) (c : Nat) : List El :=
  if silent c then [] else if dig c then [(512 + (c - 48), 32, 2)] else if 97 ≤ c ∧ c ≤ 122 then [(32768 + 4 * (c - 97), 32, 2)] else if 65 ≤ c ∧ c ≤ 90 then [(32768 + 4 * (c - 65), 32, up)]
  else if c < 128 then (if ign then [] else [(256 + c, 32, 2)]) else if 768 ≤ c ∧ c ≤ 879 then [(0, 33 + (c - 768), 0)] else [(65536 + c, 32, 2)]
/-- The elements of a code point. -/
def pointE (up : Nat) (ign : Bool) (c : Nat) : List El := if pairN c = (0, 0) then oneE up ign c else oneE up ign (pairN c).1 ++ oneE up ign (pairN c).2
/-- How many digits a list begins with. -/
def digs : List Nat → Nat
  | [] => 0
  | c :: r => if dig c then digs r + 1 else 0
theorem digs_le (l : List Nat) : digs l ≤ l.length := by
  induction l with
  | nil => exact Nat.le_refl _
  | cons c r ih => unfold digs; split <;> simp <;> omega
/-- A run of digits without the zeros at its beginning. -/
def strip : List Nat → List Nat
  | [] => []
  | [c] => [c]
  | c :: d :: r => if c = 48 then strip (d :: r) else c :: d :: r
def numE (run : List Nat) : List El := (768 + (strip run).length, 32, 2) :: (strip run).map fun c => (512 + (c - 48), 32, 2)
/-- The elements of a list of code points. -/
def elems (num : Bool) (up : Nat) (ign : Bool) (l : List Nat) : List El :=
  match l with
  | [] => []
  | c :: r => if num = true ∧ 0 < digs (c :: r) then numE ((c :: r).take (digs (c :: r))) ++ elems num up ign ((c :: r).drop (digs (c :: r))) else pointE up ign c ++ elems num up ign r
termination_by l.length
decreasing_by
  · rename_i h
    rw [List.length_drop]
    have := digs_le (c :: r)
    simp only [List.length_cons] at this ⊢
    omega
  · simp
/-- A number in size bytes, the most significant one first. -/
def encW : Nat → Nat → List UInt8
  | 0, _ => []
  | n + 1, w => UInt8.ofNat (w / 256 ^ n) :: encW n w
/-- The weights of a level in size bytes each, and a zero behind them. -/
def encL (size : Nat) (l : List Nat) : List UInt8 := (l.map (encW size)).flatten ++ encW size 0
def lev (f : El → Nat) (l : List El) : List Nat := (l.map f).filter (· ≠ 0)
/-- The sort key. -/
def keyB (st : Nat) (s : List UInt8) (l : List El) : List UInt8 :=
  encL 3 (lev (·.1) l) ++ (if 2 ≤ st then encL 2 (lev (·.2.1) l) else []) ++ (if 3 ≤ st then encL 1 (lev (·.2.2) l) else []) ++ (if 4 ≤ st then s else [])
end Co
