/- Layer 6: cut (14), options (20), known (16). -/
import Derived.Test.YtknbglcmjggkjaaU6
namespace Go.Proofs.Ytknbglcmjggkjaa
open Go.RowKit Go.Shelf Go.Lib Co

/-- elems, by structure. -/
def elemsF (num : Bool) (up : Nat) (ign : Bool) : Nat → List Nat → List El
  | 0, _ => []
  | _ + 1, [] => []
  | n + 1, c :: r => if num = true ∧ 0 < digs (c :: r) then numE ((c :: r).take (digs (c :: r))) ++ elemsF num up ign n ((c :: r).drop (digs (c :: r))) else pointE up ign c ++ elemsF num up ign n r
theorem elemsF_eq (num : Bool) (up : Nat) (ign : Bool) (n : Nat) : ∀ l : List Nat, l.length ≤ n → elemsF num up ign n l = elems num up ign l := by
  induction n with
  | zero =>
    intro l h
    have : l = [] := List.eq_nil_of_length_eq_zero (by omega)
    subst this
    rw [elems_nil]; rfl
  | succ n ih =>
    intro l h
    cases l with
    | nil => rw [elems_nil]; rfl
    | cons c r =>
      rw [elems]
      simp only [elemsF]
      simp only [List.length_cons] at h
      by_cases hc : num = true ∧ 0 < digs (c :: r)
      · rw [if_pos hc, if_pos hc, ih _ (by rw [List.length_drop, List.length_cons]; omega)]
      · rw [if_neg hc, if_neg hc, ih _ (by omega)]
/-- A closed string. -/
theorem str_closed (s : ByteArray) (P : List Nat) (h1 : (s.data.toList == U.bytes P) = true) (h2 : (P.all fun p => decide (U.isPt p)) = true) (h3 : s.size ≤ 1000000) : Cp.Str s P [] :=
  ⟨by rw [List.append_nil]; exact eq_of_beq h1, fun p hp => by simpa using List.all_eq_true.1 h2 p hp, rfl, h3⟩
def cutS (s : ByteArray) : ByteArray := s.extract 0 (min s.size 200)
theorem cutS_size (s : ByteArray) : (cutS s).size ≤ 200 := by unfold cutS; rw [ByteArray.size_extract]; omega
theorem cutS_str (s : ByteArray) : ∃ P bad, Cp.Str (cutS s) P bad := Cp.Str.ex _ (by have := cutS_size s; omega)
set_option maxRecDepth 100000 in
set_option maxHeartbeats 1000000 in
theorem cut_any (s : ByteArray) (hs : s.size ≤ maxLen) (w : World) : Calls Try.prog 14 #[.string s] w fun e w' => e = .returned (.string (cutS s)) ∧ w' = w := by
  unfold maxLen at hs
  have hsz : ((s.size : Nat) : Int) ≤ 9223372036854775807 := by omega
  by_cases h : s.size ≤ 200
  · have e : cutS s = s := by unfold cutS; rw [Nat.min_eq_left h, ByteArray.extract_zero_size]
    rw [e]
    have h1 : min ((s.size : Nat) : Int) 200 = s.size := by omega
    have h2 : (s.size : Int) ≤ 200 := by omega
    go_enter Try.func14, Try.ntmps14
    go_wp2
    go_ret
    first
      | exact ⟨rfl, rfl⟩
      | (refine ⟨?_, rfl⟩; simp)
  · have e : cutS s = s.extract 0 200 := by unfold cutS; rw [Nat.min_eq_right (by omega)]
    rw [e]
    have h1 : min ((s.size : Nat) : Int) 200 = 200 := by omega
    have h2 : ¬ (s.size : Int) ≤ 200 := by omega
    have h3 : (200 : Int) < s.size := by omega
    have h4 : (200 : Int) ≤ s.size := by omega
    go_enter Try.func14, Try.ntmps14
    go_wp2
    go_ret
    exact ⟨rfl, rfl⟩
set_option maxRecDepth 100000 in
set_option maxHeartbeats 1000000 in
theorem options_any (st : Int) (nu ig uf : Bool) (w : World) : Calls Try.prog 20 #[opV st nu ig uf] w fun e w' => e = .returned (opV st nu ig uf) ∧ Below w.heap.size w w' := by
  unfold opV
  go_enter Try.func20, Try.ntmps20
  go_wp2
  refine bodyPost_ret (v := opV st nu ig uf) ?_ rfl ⟨rfl, ((Below.refl _ w).alloc (Nat.le_refl _) _).alloc (by simp) _⟩
  simp [results, Try.results20, go_sem, opV]
/-- The document's examples. -/
theorem ex_keys (st : Int) (nu ig uf : Bool) (s : ByteArray) (P : List Nat) (h : P.length ≤ 50) : keyS st nu ig uf s P = keyB st.toNat s.data.toList (elemsF nu (upN uf) ig 50 P) := by
  unfold keyS
  rw [elemsF_eq _ _ _ _ _ h]
def sA : ByteArray := { data := #[195, 137, 108, 97, 110] }
def sB : ByteArray := { data := #[101, 108, 97, 110] }
def sC : ByteArray := { data := #[112, 97, 103, 101, 32, 57] }
def sD : ByteArray := { data := #[112, 97, 103, 101, 32, 49, 48] }
def sE : ByteArray := { data := #[97] }
def sF : ByteArray := { data := #[69, 108, 97, 110] }
set_option maxRecDepth 1000000 in
theorem strA : Cp.Str sA [201, 108, 97, 110] [] := str_closed _ _ (by kernel_rfl) (by kernel_rfl) (by decide)
set_option maxRecDepth 1000000 in
theorem strB : Cp.Str sB [101, 108, 97, 110] [] := str_closed _ _ (by kernel_rfl) (by kernel_rfl) (by decide)
set_option maxRecDepth 1000000 in
theorem strC : Cp.Str sC [112, 97, 103, 101, 32, 57] [] := str_closed _ _ (by kernel_rfl) (by kernel_rfl) (by decide)
set_option maxRecDepth 1000000 in
theorem strD : Cp.Str sD [112, 97, 103, 101, 32, 49, 48] [] := str_closed _ _ (by kernel_rfl) (by kernel_rfl) (by decide)
set_option maxRecDepth 1000000 in
theorem strE : Cp.Str sE [97] [] := str_closed _ _ (by kernel_rfl) (by kernel_rfl) (by decide)
set_option maxRecDepth 1000000 in
theorem strF : Cp.Str sF [69, 108, 97, 110] [] := str_closed _ _ (by kernel_rfl) (by kernel_rfl) (by decide)
set_option maxRecDepth 1000000 in
theorem ex1 : compareBytes (keyS 1 false false false sA [201, 108, 97, 110]) (keyS 1 false false false sB [101, 108, 97, 110]) = 0 := by
  rw [ex_keys _ _ _ _ _ _ (by decide), ex_keys _ _ _ _ _ _ (by decide)]; kernel_rfl
set_option maxRecDepth 1000000 in
theorem ex2 : compareBytes (keyS 2 true false false sC [112, 97, 103, 101, 32, 57]) (keyS 2 true false false sD [112, 97, 103, 101, 32, 49, 48]) = -1 := by
  rw [ex_keys _ _ _ _ _ _ (by decide), ex_keys _ _ _ _ _ _ (by decide)]; kernel_rfl
set_option maxRecDepth 1000000 in
theorem ex3 : keyB (3 : Int).toNat sE.data.toList (elems false (upN false) false [97]) = [0, 128, 0, 0, 0, 0, 0, 32, 0, 0, 2, 0] := by
  rw [← elemsF_eq _ _ _ 50 _ (by decide)]; kernel_rfl
set_option maxRecDepth 1000000 in
theorem ex4 : compareBytes (keyS 3 false false true sB [101, 108, 97, 110]) (keyS 3 false false true sF [69, 108, 97, 110]) = 1 := by
  rw [ex_keys _ _ _ _ _ _ (by decide), ex_keys _ _ _ _ _ _ (by decide)]; kernel_rfl
set_option maxRecDepth 100000 in
set_option maxHeartbeats 4000000 in
theorem known_any (w : World) : Calls Try.prog 16 #[] w fun e w' => e = .returned (.bool true) ∧ Below w.heap.size w w' := by
  have c1 := fun w' => compare_any strA strB 1 false false false w'
  have c2 := fun w' => compare_any strC strD 2 true false false w'
  have c3 := fun w' => key_any strE 3 false false false w'
  have c4 := fun w' => compare_any strB strF 3 false false true w'
  unfold CmpAns at c1 c2 c4
  unfold KeyAns at c3
  rw [ex1, show errC 1 sA [] sB [] = 0 by decide] at c1
  rw [ex2, show errC 2 sC [] sD [] = 0 by decide] at c2
  rw [ex3, show errS 3 sE [] = 0 by decide] at c3
  rw [ex4, show errC 3 sB [] sF [] = 0 by decide] at c4
  simp only [if_true] at c1 c2 c3 c4
  unfold opV sA sB at c1
  unfold opV sC sD at c2
  unfold opV sE at c3
  unfold opV sB sF at c4
  have hs : (bs [0, 128, 0, 0, 0, 0, 0, 32, 0, 0, 2, 0]) = { data := #[0, 128, 0, 0, 0, 0, 0, 32, 0, 0, 2, 0] } := rfl
  rw [hs] at c3
  have C1 := Go.Lib.hid c1
  have C2 := Go.Lib.hid c2
  have C3 := Go.Lib.hid c3
  have C4 := Go.Lib.hid c4
  clear c1 c2 c3 c4 hs
  go_enter Try.func16, Try.ntmps16
  go_wp2_with fail
  refine (C1.out _).mono ?_
  rintro e w1 ⟨rfl, k1⟩
  go_wp2_with fail
  refine (C2.out _).mono ?_
  rintro e w2 ⟨rfl, k2⟩
  go_wp2_with fail
  refine (C3.out _).mono ?_
  rintro e w3 ⟨rfl, k3⟩
  go_wp2_with fail
  refine (C4.out _).mono ?_
  rintro e w4 ⟨rfl, k4⟩
  have hB : Below w.heap.size w w4 := ((k1.trans (k2.mono k1.size)).trans (k3.mono (Nat.le_trans k1.size k2.size))).trans (k4.mono (Nat.le_trans (Nat.le_trans k1.size k2.size) k3.size))
  clear k1 k2 k3 k4
  go_wp2
  go_ret
  exact ⟨rfl, hB⟩
end Go.Proofs.Ytknbglcmjggkjaa
