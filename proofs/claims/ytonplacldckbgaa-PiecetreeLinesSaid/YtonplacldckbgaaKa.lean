/- Layer 4: the law Plays. -/
import Derived.Test.YtonplacldckbgaaML
namespace Go.Proofs.Ytonplacldckbgaa
open Go.RowKit Go.Shelf Go.Lib Pt

def BoolB (v : Bool) (w : World) (e : Ending) (w' : World) : Prop := e = .returned (.bool v) ∧ Below w.heap.size w w'
/-- A string as it comes in. -/
theorem str_in (s : ByteArray) (h : s.size ≤ maxLen) : ∃ l, s = bs l ∧ l.length ≤ 9223372036854775807 := ⟨_, bs_of s, by rw [len_of]; unfold maxLen at h; omega⟩
theorem run_in {A : Option Addr} {n c : Nat} {ops : List Op4} {w0 w : World} (l : List UInt8) (h : OpsIn w0 A n c ops) (hb : Below w0.heap.size w0 w) : Calls Try.prog 14 #[.string (bs (l.take 300)), .slice A n c] w (RunR w) :=
  run_any (l.take 300) A n c ops (by rw [List.length_take]; omega) h.hn w (h.at_.below hb) h.bd h.hm
set_option maxRecDepth 100000 in
set_option maxHeartbeats 4000000 in
theorem law_plays (s : ByteArray) (hs : s.size ≤ maxLen) (A : Option Addr) (n c : Nat) (ops : List Op4) (w : World) (h : OpsIn w A n c ops) : Calls Try.prog 3 #[.string s, .slice A n c] w (BoolB true w) := by
  obtain ⟨l, rfl, hl⟩ := str_in s hs
  have H := Go.Lib.hid h
  clear h hs
  go_enter Try.func3, Try.ntmps3
  go_wp2_with fail
  (with_reducible refine (known_any _).mono ?_)
  rintro e w1 ⟨rfl, k1⟩
  go_wp2_with fail
  (with_reducible refine (cutS_any l w1 hl).mono ?_)
  rintro e w2 ⟨rfl, rfl⟩
  go_wp2_with fail
  (with_reducible refine (run_in l H.out k1).mono ?_)
  intro e w3 h3
  obtain ⟨g, T, ed, rfl, _, _, _, _, _, _, k3⟩ := h3
  go_wp2
  go_ret
  exact ⟨rfl, chain k1 k3⟩
end Go.Proofs.Ytonplacldckbgaa
