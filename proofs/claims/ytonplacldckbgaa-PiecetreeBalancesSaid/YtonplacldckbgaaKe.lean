/- Layer 4: the law Balances. -/
import Derived.Test.YtonplacldckbgaaKe1
namespace Go.Proofs.Ytonplacldckbgaa
open Go.RowKit Go.Shelf Go.Lib Pt

set_option maxRecDepth 100000 in
set_option maxHeartbeats 16000000 in
theorem law_balances (s : ByteArray) (hs : s.size ≤ maxLen) (A : Option Addr) (n c : Nat) (ops : List Op4) (w : World) (h : OpsIn w A n c ops) : Calls Try.prog 5 #[.string s, .slice A n c] w (BoolB true w) := by
  obtain ⟨l, rfl, hl⟩ := str_in s hs
  have H := Go.Lib.hid h
  clear h hs
  go_enter Try.func5, Try.ntmps5
  go_wp2_with fail
  (with_reducible refine (known_any _).mono ?_)
  rintro e w1 ⟨rfl, k1⟩
  go_wp2_with fail
  (with_reducible refine (cutS_any l w1 hl).mono ?_)
  rintro e w1 ⟨rfl, rfl⟩
  go_wp2_with fail
  (with_reducible refine (run_in l H.out k1).mono ?_)
  intro e w3 h3
  obtain ⟨g, T, ed, rfl, t3, ok, pc, he, hl3, hg, k3⟩ := h3
  have HT := Go.Lib.hid t3
  have HB : Hid (Below w.heap.size w w3) := Go.Lib.hid (chain k1 k3)
  have OK := Go.Lib.hid ok
  have hf : Fine T := fine_ok ok (by omega)
  have hz := bs_size T.bytes
  have hgw : w.heap.size ≤ g := Nat.le_trans k1.size hg
  clear k1 k3 t3 H hg ok
  have hbi := dep_bits OK.out
  have hdp := Tr.dep_le T
  have hpl := Tr.pcs_le OK.out
  have hbl := bits_le T.pcs
  have hts := bs_toList T.bytes
  go_wp2_with fail
  (with_reducible refine (pieces_any w3 HT.out).mono ?_)
  rintro e w4 ⟨rfl, k4⟩
  have HT4 := Go.Lib.hid (HT.out.below k4)
  have HB4 : Hid (Below w.heap.size w w4) := Go.Lib.hid (chain HB.out k4)
  clear HT HB k4
  go_wp2_with fail
  (with_reducible refine (depth_any w4 HT4.out).mono ?_)
  rintro e w5 ⟨rfl, k5⟩
  have HB5 : Below w.heap.size w w5 := chain HB4.out k5
  clear HT4 HB4 k5
  by_cases h0 : T.bytes = []
  · have hp0 : T.pcs = 0 := by rw [h0] at hpl; simpa using hpl
    have hd0 : T.dep = 0 := by omega
    have hE : T.bytes.isEmpty = true := by rw [h0]; rfl
    rw [hp0, hd0]
    clear h0
    go_wp2
    go_ret
    exact ⟨rfl, HB5⟩
  · have hp1 : 1 ≤ T.pcs := pcs_pos h0
    have hd1 : 1 ≤ T.dep := by
      have := hbi
      cases hT : T with
      | nil => rw [hT] at h0; exact absurd rfl h0
      | node a q b => simp only [Tr.dep]; omega
    have hE : T.bytes.isEmpty = false := by cases hT : T.bytes with
      | nil => exact absurd hT h0
      | cons a b => rfl
    have i1 : (1 : Int) ≤ (T.pcs : Int) := by omega
    have i2 : (T.pcs : Int) ≤ 2 * (ed : Int) + 1 := by omega
    have i3 : (1 : Int) ≤ (T.dep : Int) := by omega
    have i4 : (T.dep : Int) ≤ 2 * (bitsN T.pcs : Int) := by omega
    have i5 : (bitsN T.pcs : Int) ≤ 200000 := by omega
    have i6 : (T.pcs : Int) ≤ 200000 := by omega
    have i7 : (T.dep : Int) ≤ 200000 := by omega
    go_wp2_with fail
    (with_reducible refine (bits_any T.pcs w5 (by omega)).mono ?_)
    rintro e w5 ⟨rfl, rfl⟩
    go_wp2
    go_ret
    exact ⟨by simp, HB5⟩
end Go.Proofs.Ytonplacldckbgaa
