import Derived.Test.YtblabbeaaajlkaaB4
namespace Go.Proofs.Ytblabbeaaajlkaa
open Go.RowKit
open U

/-- At most 300 bytes of a string. -/
def cutS (s : ByteArray) : ByteArray := s.extract 0 (min s.size 300)
theorem cutS_size (s : ByteArray) : (cutS s).size ≤ 300 := by unfold cutS; rw [ByteArray.size_extract]; omega
theorem cutS_small (s : ByteArray) : (cutS s).size ≤ 1000000 := by have := cutS_size s; omega
set_option maxRecDepth 100000 in
set_option maxHeartbeats 1000000 in
theorem cut_any (s : ByteArray) (hs : s.size ≤ maxLen) (w : World) :
    Calls Try.prog 12 #[.string s] w fun e w' => e = .returned (.string (cutS s)) ∧ w = w' := by
  unfold maxLen at hs
  go_enter Try.func12, Try.ntmps12
  go_wp2
  go_ret
  refine ⟨?_, rfl⟩
  have : (min (s.size : Int) 300).toNat = min s.size 300 := by omega
  show Ending.returned (.string (s.extract 0 (min (s.size : Int) 300).toNat)) = _
  rw [this]; rfl

theorem chain {w a b : World} (h1 : Below w.heap.size w a) (h2 : Below a.heap.size a b) : Below w.heap.size w b := h1.trans (h2.mono h1.size)
theorem vld_eq (P : List Nat) (bad : List UInt8) : decide (fstI P bad < 0) = vldB bad := by
  unfold fstI vldB
  by_cases hb : bad = []
  · rw [if_pos hb, decide_eq_true hb]; rfl
  · rw [if_neg hb, decide_eq_false hb]; exact decide_eq_false (by omega)

def TrueRet (w : World) (e : Ending) (w' : World) : Prop := e = .returned (.bool true) ∧ Below w.heap.size w w'
set_option maxRecDepth 100000 in
set_option maxHeartbeats 2000000 in
theorem law_valid (p : Int) (s : ByteArray) (hs : s.size ≤ maxLen) (w : World) :
    Calls Try.prog 3 #[.int .i64 p, .string s] w (TrueRet w) := by
  obtain ⟨P, bad, hS⟩ := Str.ex (cutS s) (cutS_small s)
  have hv := vld_eq P bad
  generalize hB : vldB bad = B at *
  have HB := Lib.hid hB
  clear hB
  go_enter Try.func3, Try.ntmps3
  go_wp2_with (first | (go_at_call 12; refine (cut_any s hs _).mono ?_; rintro e w' ⟨rfl, rfl⟩) | (go_at_call 13; refine (known_any _).mono ?_; rintro e w1 ⟨rfl, hb1⟩) | (go_at_call 14; refine (isPoint_any p _).mono ?_; rintro e w' ⟨rfl, rfl⟩) | (go_at_call 15; refine (refIsPoint_any p _).mono ?_; rintro e w' ⟨rfl, rfl⟩) | (go_at_call 16; refine (first_any hS _).mono ?_; rintro e w' ⟨rfl, rfl⟩) | (go_at_call 18; refine (valid_any hS _).mono ?_; rintro e w' ⟨rfl, rfl⟩) | (go_at_call 17; refine (refFirst_any hS _).mono ?_; rintro e w2 ⟨rfl, hb2⟩))
  go_ret
  exact ⟨ret_bool (by rw [HB.out]; exact beq_self_eq_true _), chain (chain hb1 (by assumption)) hb2⟩
end Go.Proofs.Ytblabbeaaajlkaa
