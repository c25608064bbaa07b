/- Layer 4, plainly: the parts of the pieces between two offsets. -/
import Derived.Test.YtonplacldckbgaaP1
namespace Pt

/-- The bytes between two offsets, which may lie outside. -/
def sl (b : List UInt8) (x y : Int) : List UInt8 := (b.take y.toNat).drop x.toNat
theorem sl_none {b : List UInt8} {x y : Int} (h : y ≤ 0 ∨ (b.length : Int) ≤ x ∨ y ≤ x ∨ b.length = 0) : sl b x y = [] := by
  unfold sl
  apply List.drop_eq_nil_of_le
  rw [List.length_take]
  omega
theorem sl_append (a b : List UInt8) (x y : Int) : sl (a ++ b) x y = sl a x y ++ sl b (x - a.length) (y - a.length) := by
  unfold sl
  rw [List.take_append, List.drop_append, List.length_take]
  congr 1
  rw [show (y - (a.length : Int)).toNat = y.toNat - a.length by omega]
  by_cases h : a.length ≤ y.toNat
  · rw [show x.toNat - min y.toNat a.length = (x - (a.length : Int)).toNat by omega]
  · rw [show y.toNat - a.length = 0 by omega, List.take_zero, List.drop_nil, List.drop_nil]
/-- The part of a piece that begins at an offset. -/
def part (p : List UInt8) (s x y : Int) : List (List UInt8) := if max x s < min y (s + p.length) then [(p.take (min y (s + p.length) - s).toNat).drop (max x s - s).toNat] else []
theorem part_flat (p : List UInt8) (s x y : Int) : (part p s x y).flatten = sl p (x - s) (y - s) := by
  unfold part
  split
  · rename_i h
    rw [List.flatten_cons, List.flatten_nil, List.append_nil]
    unfold sl
    rw [show (max x s - s).toNat = (x - s).toNat by omega]
    congr 1
    by_cases h2 : y ≤ s + p.length
    · rw [show min y (s + (p.length : Int)) = y by omega]
    · rw [List.take_of_length_le (by omega), List.take_of_length_le (by omega)]
  · rename_i h
    rw [sl_none (by omega)]
    rfl
theorem part_ne {p : List UInt8} {s x y : Int} : ∀ c ∈ part p s x y, c ≠ [] := by
  intro c hc
  unfold part at hc
  split at hc
  · rename_i h
    obtain rfl := List.mem_singleton.1 hc
    intro h2
    have := congrArg List.length h2
    rw [List.length_drop, List.length_take, List.length_nil] at this
    omega
  · cases hc
theorem part_len (p : List UInt8) (s x y : Int) : (part p s x y).length ≤ 1 := by
  unfold part
  split <;> simp
/-- The parts of a tree's pieces. -/
def chunksT : Tr → Int → Int → List (List UInt8)
  | .nil, _, _ => []
  | .node l p r, x, y => if y ≤ 0 ∨ ((Tr.node l p r).bytes.length : Int) ≤ x then [] else
      chunksT l x y ++ part p l.bytes.length x y ++ chunksT r (x - (l.bytes.length + p.length)) (y - (l.bytes.length + p.length))
theorem chunksT_flat (t : Tr) : ∀ x y, (chunksT t x y).flatten = sl t.bytes x y := by
  induction t with
  | nil => intro x y; simp [chunksT, sl, Tr.bytes]
  | node l p r il ir =>
    intro x y
    unfold chunksT
    split
    · rename_i h
      rw [sl_none (by omega)]
      rfl
    · rw [List.flatten_append, List.flatten_append, il, ir, part_flat, show (Tr.node l p r).bytes = l.bytes ++ p ++ r.bytes from rfl, sl_append, sl_append, List.length_append, Int.natCast_add]
theorem chunksT_ne (t : Tr) : ∀ x y, ∀ c ∈ chunksT t x y, c ≠ [] := by
  induction t with
  | nil => intro x y c hc; cases hc
  | node l p r il ir =>
    intro x y c hc
    unfold chunksT at hc
    split at hc
    · cases hc
    · rw [List.mem_append, List.mem_append] at hc
      rcases hc with (hc | hc) | hc
      · exact il _ _ c hc
      · exact part_ne c hc
      · exact ir _ _ c hc
theorem chunksT_len (t : Tr) : ∀ x y, (chunksT t x y).length ≤ t.pcs := by
  induction t with
  | nil => intro x y; exact Nat.le_refl _
  | node l p r il ir =>
    intro x y
    unfold chunksT
    split
    · exact Nat.zero_le _
    · rw [List.length_append, List.length_append]
      have := il x y
      have := ir (x - (l.bytes.length + p.length)) (y - (l.bytes.length + p.length))
      have := part_len p l.bytes.length x y
      simp only [Tr.pcs]
      omega
theorem sl_all (b : List UInt8) (n : Nat) (h : b.length ≤ n) : sl b 0 n = b := by
  unfold sl
  simp [List.take_of_length_le h]
end Pt
