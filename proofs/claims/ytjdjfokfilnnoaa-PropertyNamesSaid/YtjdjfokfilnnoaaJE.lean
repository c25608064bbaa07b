/- Layer 7: the table as an array: one row of it. -/
import Derived.Test.YtjdjfokfilnnoaaJ3
import Derived.Test.YtjdjfokfilnnoaaHd
namespace Go.Proofs.Ytjdjfokfilnnoaa
open Go.RowKit Go.Lib

theorem rows_piece (l : List Row) : ∀ k (h : k < l.length), ((l.flatMap rowC6).drop (k * 6)).take 6 = rowC6 l[k] := by
  induction l with
  | nil => intro k h; simp at h
  | cons a l ih =>
    intro k h
    rw [List.flatMap_cons]
    cases k with
    | zero => rfl
    | succ k =>
      rw [List.drop_append, List.drop_eq_nil_of_le (by rw [rowC6_len]; omega), rowC6_len, show (k + 1) * 6 - 6 = k * 6 by omega, List.nil_append]
      exact ih k (by simpa using h)
theorem cells_piece (k : Nat) (h : k < 45) : cellsT.extract (k * 6) (k * 6 + 6) = (rowC6 (tabP[k]'h)).toArray := by
  have := rows_piece tabP k h
  apply Array.ext'
  rw [Array.toList_extract, List.extract_eq_take_drop, Nat.add_sub_cancel_left]
  exact this
theorem idx_tab (k : Nat) (h : k < 45) (w : World) : (Instr.index 75 (.agg cellsT) (.int .i64 (k : Nat))).run Try.prog w = .ok (rowV (tabP[k]'h)) w := by
  have e := cells_piece k h
  have hu := run_underlying Try.underlying75 (w := w)
  have hz := Try.sizeOf70 w
  have h0 : (0 : Int) ≤ (k : Int) ∧ (k : Int) < 45 := by omega
  simp [Instr.index, hu, asIntOf, hz, h0, part, go_sem]
  rw [if_pos h, e]
  rfl
end Go.Proofs.Ytjdjfokfilnnoaa
