/- Layer 9: what a numeral is; Parse. -/
import Derived.Test.YteahingapnijcaaDoorC2
namespace Go.Proofs.YteahingapnijcaaDoor
open Go.RowKit Go.Lib Go.Shelf Nu9

def isNum (f : Int) (l : List UInt8) (N : Int) : Prop := (1 ≤ f ∧ f ≤ 6) ∧ fmtE f N = 0 ∧ fmtS f N = l
theorem isNum_open {f : Int} {l : List UInt8} {N : Int} (h : isNum f l N) : ∃ n : Nat, N = n ∧ least f ≤ N ∧ N ≤ most f ∧ num f n = l := by
  obtain ⟨hf, hE, hS⟩ := h
  have hk : Nu9.kindOk f := ⟨hf.1, by omega⟩
  unfold fmtE at hE
  rw [if_pos hk] at hE
  by_cases hn : least f ≤ N ∧ N ≤ most f
  · have hnn : 0 ≤ N := by
      have : 0 ≤ least f := by unfold least; split <;> decide
      omega
    obtain ⟨n, rfl⟩ := Int.eq_ofNat_of_zero_le hnn
    unfold fmtS at hS
    rw [if_pos ⟨hk, hn⟩] at hS
    exact ⟨n, rfl, hn.1, hn.2, hS⟩
  · rw [if_neg hn] at hE; omega
theorem num1 {l : List UInt8} {N : Int} (h : isNum 1 l N) : goodD l l.length ∧ undec l = N := by
  obtain ⟨n, rfl, _, h2, rfl⟩ := isNum_open h
  rw [show most 1 = 999999 from rfl] at h2
  have hl := dec_len 5 n (by omega)
  show goodD (dec n) (dec n).length ∧ undec (dec n) = n
  exact ⟨⟨hl, by rw [List.take_length]; exact dec_digs n⟩, undec_dec n⟩
theorem num2 {l : List UInt8} {N : Int} (h : isNum 2 l N) : goodL l l.length ∧ unltr l = N := by
  obtain ⟨n, rfl, _, h2, rfl⟩ := isNum_open h
  rw [show most 2 = 999999 from rfl] at h2
  have hl := ltr_len 5 n (by omega)
  show goodL (ltr n) (ltr n).length ∧ unltr (ltr n) = n
  exact ⟨⟨hl, by rw [List.take_length]; exact ltr_ltrs n⟩, unltr_ltr n⟩
theorem num3 {l : List UInt8} {N : Int} (h : isNum 3 l N) : goodL (toLowerD l) (toLowerD l).length ∧ unltr (toLowerD l) = N := by
  obtain ⟨n, rfl, _, h2, rfl⟩ := isNum_open h
  rw [show most 3 = 999999 from rfl] at h2
  have hl := ltr_len 5 n (by omega)
  rw [show num 3 n = (ltr n).map up from rfl, lowerD_up (ltr_ltrs n)]
  exact ⟨⟨hl, by rw [List.take_length]; exact ltr_ltrs n⟩, unltr_ltr n⟩
theorem unrm_rmn {n : Nat} (h : n < 4000) : unrm (rmn n) = n := by
  have := unrmn_rmn n h
  unfold unrmn at this
  unfold unrm
  rw [← this]
  have hl := rmn_len n h
  rw [this]
  have e := frL_fuel 1000 60 rtab (rmn n) 0 rtab_ne (by rw [rtab_len]; omega) (by rw [rtab_len]; omega)
  rw [e]; exact this
theorem num4 {l : List UInt8} {N : Int} (h : isNum 4 l N) : True ∧ (unrm l : Int) = N := by
  obtain ⟨n, rfl, _, h2, rfl⟩ := isNum_open h
  rw [show most 4 = 3999 from rfl] at h2
  rw [show num 4 n = rmn n from rfl, unrm_rmn (by omega)]
  exact ⟨trivial, rfl⟩
theorem num5 {l : List UInt8} {N : Int} (h : isNum 5 l N) : True ∧ (unrm (toLowerD l) : Int) = N := by
  obtain ⟨n, rfl, _, h2, rfl⟩ := isNum_open h
  rw [show most 5 = 3999 from rfl] at h2
  rw [show num 5 n = (rmn n).map up from rfl, lowerD_up (rmn_ltrs n), unrm_rmn (by omega)]
  exact ⟨trivial, rfl⟩
theorem num6 {l : List UInt8} {N : Int} (h : isNum 6 l N) : goodD (l.take (l.length - 2)) (l.take (l.length - 2)).length ∧ undec (l.take (l.length - 2)) = N := by
  obtain ⟨n, rfl, _, h2, rfl⟩ := isNum_open h
  rw [show most 6 = 999999 from rfl] at h2
  have hl := dec_len 5 n (by omega)
  have e : (num 6 n).take ((num 6 n).length - 2) = dec n := by
    show (dec n ++ sfx n).take ((dec n ++ sfx n).length - 2) = dec n
    rw [List.length_append, sfx_len, Nat.add_sub_cancel, List.take_left]
  rw [e]
  exact ⟨⟨hl, by rw [List.take_length]; exact dec_digs n⟩, undec_dec n⟩
theorem num_uniq {f : Int} {l : List UInt8} {N M : Int} (h : isNum f l N) (h' : isNum f l M) : N = M := by
  have hf := h.1
  rcases (show f = 1 ∨ f = 2 ∨ f = 3 ∨ f = 4 ∨ f = 5 ∨ f = 6 by omega) with rfl | rfl | rfl | rfl | rfl | rfl
  · exact (num1 h).2.symm.trans (num1 h').2
  · exact (num2 h).2.symm.trans (num2 h').2
  · exact (num3 h).2.symm.trans (num3 h').2
  · exact (num4 h).2.symm.trans (num4 h').2
  · exact (num5 h).2.symm.trans (num5 h').2
  · exact (num6 h).2.symm.trans (num6 h').2
open Classical in
/-- What Parse answers: the number, and the error. -/
noncomputable def prs (f : Int) (l : List UInt8) : Int × Int := if 1 ≤ f ∧ f ≤ 6 then (if l = [] then (0, 11) else if h : ∃ N, isNum f l N then (Classical.choose h, 0) else (0, 14)) else (0, 3)
theorem prs_kind {f : Int} (l : List UInt8) (h : ¬ (1 ≤ f ∧ f ≤ 6)) : prs f l = (0, 3) := by unfold prs; rw [if_neg h]
theorem prs_empty {f : Int} (h : 1 ≤ f ∧ f ≤ 6) : prs f [] = (0, 11) := by unfold prs; rw [if_pos h, if_pos rfl]
theorem prs_num {f : Int} {l : List UInt8} {N : Int} (hl : l ≠ []) (h : isNum f l N) : prs f l = (N, 0) := by
  unfold prs
  rw [if_pos h.1, if_neg hl, dif_pos ⟨N, h⟩]
  have := Classical.choose_spec (⟨N, h⟩ : ∃ N, isNum f l N)
  rw [num_uniq this h]
theorem prs_none {f : Int} {l : List UInt8} (hf : 1 ≤ f ∧ f ≤ 6) (hl : l ≠ []) (h : ¬ ∃ N, isNum f l N) : prs f l = (0, 14) := by
  unfold prs
  rw [if_pos hf, if_neg hl, dif_neg h]
def ParR (f : Int) (l : List UInt8) (w : World) (e : Ending) (w' : World) : Prop := e = .returned (.tuple #[.int .i64 (prs f l).1, .int .i64 (prs f l).2]) ∧ Below w.heap.size w w'
/-- What a number read from the string leads to. -/
theorem prs_read {f : Int} {l : List UInt8} {z : Int} (hf : 1 ≤ f ∧ f ≤ 6) (hl : l ≠ []) (hz : ∀ N, isNum f l N → z = N) : prs f l = if fmtE f z = 0 ∧ fmtS f z = l then (z, 0) else (0, 14) := by
  by_cases h : fmtE f z = 0 ∧ fmtS f z = l
  · rw [if_pos h]; exact prs_num hl ⟨hf, h.1, h.2⟩
  · rw [if_neg h]
    refine prs_none hf hl ?_
    rintro ⟨N, hN⟩
    obtain rfl := hz N hN
    exact h hN.2
end Go.Proofs.YteahingapnijcaaDoor
