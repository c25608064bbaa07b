/- Layer 4, plainly: where line feeds stand. -/
import Derived.Test.YtonplacldckbgaaKa
namespace Go.Proofs.Ytonplacldckbgaa
open Go.RowKit Go.Shelf Go.Lib Pt

/-- The offsets of the line feeds, counted from an offset on. -/
def posL : List UInt8 → Nat → List Nat
  | [], _ => []
  | x :: r, o => if x = 10 then o :: posL r (o + 1) else posL r (o + 1)
theorem posL_len (b : List UInt8) : ∀ o, (posL b o).length = lf b := by
  induction b with
  | nil => intro o; rfl
  | cons x r ih =>
    intro o
    unfold posL lf
    by_cases h : x = 10
    · subst h
      rw [if_pos rfl, List.length_cons, ih, List.count_cons_self]
      rfl
    · rw [if_neg h, ih, List.count_cons_of_ne (by simpa using h)]
      rfl
theorem posL_append (a b : List UInt8) : ∀ o, posL (a ++ b) o = posL a o ++ posL b (o + a.length) := by
  induction a with
  | nil => intro o; rfl
  | cons x r ih =>
    intro o
    rw [List.cons_append]
    simp only [posL, ih, List.length_cons]
    rw [show o + 1 + r.length = o + (r.length + 1) by omega]
    split <;> rfl
theorem posL_shift (b : List UInt8) (d : Nat) : ∀ o, posL b (o + d) = (posL b o).map (· + d) := by
  induction b with
  | nil => intro o; rfl
  | cons x r ih =>
    intro o
    simp only [posL]
    rw [show o + d + 1 = (o + 1) + d by omega, ih]
    split <;> simp
theorem posL_at (b : List UInt8) (d : Nat) : posL b d = (posL b 0).map (· + d) := by
  have := posL_shift b d 0
  rwa [Nat.zero_add] at this
/-- The first one, and the others. -/
theorem posL_head (b : List UInt8) (h : 0 < lf b) : ∃ i : Nat, indexByte b 10 = (i : Int) ∧ i < b.length ∧ posL b 0 = i :: posL (b.drop (i + 1)) (i + 1) ∧ b.drop i = 10 :: b.drop (i + 1) := by
  induction b with
  | nil => simp [lf] at h
  | cons x r ih =>
    by_cases hx : x = 10
    · subst hx
      exact ⟨0, by simp [indexByte], by simp, by simp [posL], by simp⟩
    · have h' : 0 < lf r := by unfold lf at h ⊢; rwa [List.count_cons_of_ne (by simpa using hx)] at h
      obtain ⟨i, h1, h2, h3, h4⟩ := ih h'
      have hb : (x == (10 : UInt8)) = false := by simpa using hx
      refine ⟨i + 1, ?_, by simp; omega, ?_, by simpa using h4⟩
      · have hne : ((i : Int) == -1) = false := by simp
        simp [indexByte, hb, h1, hne]
      · simp only [posL, if_neg hx, List.drop_succ_cons]
        rw [posL_at r (0 + 1), h3, List.map_cons, posL_shift (r.drop (i + 1)) 1 (i + 1)]
theorem lf_drop {b : List UInt8} {i : Nat} (h : posL b 0 = i :: posL (b.drop (i + 1)) (i + 1)) : lf b = lf (b.drop (i + 1)) + 1 := by
  rw [← posL_len b 0, h, List.length_cons, posL_len]
/-- What stands at such an offset. -/
theorem posL_get (b : List UInt8) (k : Nat) (hk : k < (posL b 0).length) : (posL b 0)[k] < b.length ∧ b.drop (posL b 0)[k] = 10 :: b.drop ((posL b 0)[k] + 1) ∧ lf (b.take (posL b 0)[k]) = k := by
  induction b generalizing k with
  | nil => simp [posL] at hk
  | cons x r ih =>
    have hs : posL r (0 + 1) = (posL r 0).map (· + 1) := posL_at r 1
    by_cases hx : x = 10
    · subst hx
      cases k with
      | zero => simp [posL, lf]
      | succ k =>
        have hk' : k < (posL r 0).length := by simpa [posL, hs] using hk
        obtain ⟨h1, h2, h3⟩ := ih k hk'
        have e : (posL (10 :: r) 0)[k + 1] = (posL r 0)[k] + 1 := by simp [posL, hs]
        rw [e]
        refine ⟨by simp; omega, by simpa using h2, ?_⟩
        rw [List.take_succ_cons]
        unfold lf at h3 ⊢
        rw [List.count_cons_self, h3]
    · have e0 : posL (x :: r) 0 = (posL r 0).map (· + 1) := by simp [posL, hx, hs]
      have hk' : k < (posL r 0).length := by simpa [e0] using hk
      obtain ⟨h1, h2, h3⟩ := ih k hk'
      have e : (posL (x :: r) 0)[k] = (posL r 0)[k] + 1 := by simp [e0]
      rw [e]
      refine ⟨by simp; omega, by simpa using h2, ?_⟩
      rw [List.take_succ_cons]
      unfold lf at h3 ⊢
      rw [List.count_cons_of_ne (by simpa using hx), h3]
end Go.Proofs.Ytonplacldckbgaa
