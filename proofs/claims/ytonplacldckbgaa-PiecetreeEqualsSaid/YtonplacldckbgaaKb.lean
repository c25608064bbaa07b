/- Layer 4: the law Equals. -/
import Derived.Test.YtonplacldckbgaaKa
namespace Go.Proofs.Ytonplacldckbgaa
open Go.RowKit Go.Shelf Go.Lib Pt

set_option maxRecDepth 100000 in
set_option maxHeartbeats 16000000 in
theorem law_equals (s : ByteArray) (hs : s.size ≤ maxLen) (A : Option Addr) (n c : Nat) (ops : List Op4) (w : World) (h : OpsIn w A n c ops) (s2 : ByteArray) (hs2 : s2.size ≤ maxLen) : Calls Try.prog 10 #[.string s, .slice A n c, .string s2] w (BoolB true w) := by
  obtain ⟨m, rfl, hm⟩ := str_in s2 hs2
  clear hs2
  obtain ⟨l, rfl, hl⟩ := str_in s hs
  have H := Go.Lib.hid h
  clear h hs
  go_enter Try.func10, Try.ntmps10
  go_wp2_with fail
  (with_reducible refine (known_any _).mono ?_)
  rintro e w1 ⟨rfl, k1⟩
  go_wp2_with fail
  (with_reducible refine (cutS_any l w1 hl).mono ?_)
  rintro e w1 ⟨rfl, rfl⟩
  go_wp2_with fail
  (with_reducible refine (run_in l H.out k1).mono ?_)
  intro e w3 h3
  obtain ⟨g, T, ed, rfl, t3, ok, pc, he, hl3, hg, k3⟩ := h3
  have HT := Go.Lib.hid t3
  have HB : Hid (Below w.heap.size w w3) := Go.Lib.hid (chain k1 k3)
  have OK := Go.Lib.hid ok
  have hf : Fine T := fine_ok ok (by omega)
  have hz := bs_size T.bytes
  have hgw : w.heap.size ≤ g := Nat.le_trans k1.size hg
  clear k1 k3 t3 H hg ok
  obtain ⟨n1, n2, n3⟩ := newT_spec T.bytes
  have c1 := new_any T.bytes w3 (by omega)
  obtain ⟨N1, hN1⟩ : ∃ N, N = newT T.bytes := ⟨_, rfl⟩
  rw [← hN1] at c1 n1 n2
  have f1 : Fine N1 := fine_ok n2 (by rw [n1]; omega)
  go_wp2_with fail
  (with_reducible refine c1.mono ?_)
  rintro e w4 ⟨b, rfl, hb, t4, k4⟩
  have HT4 := Go.Lib.hid (HT.out.below k4)
  have HB4 : Hid (Below w.heap.size w w4) := Go.Lib.hid (chain HB.out k4)
  have HN4 := Go.Lib.hid t4
  clear c1 t4 k4 HT HB
  go_wp2_with fail
  (with_reducible refine (cutS_any m w4 hm).mono ?_)
  rintro e w4 ⟨rfl, rfl⟩
  have hml : (m.take 300).length ≤ 300 := by rw [List.length_take]; omega
  have CM := Go.Lib.hid (fun w' => cutS_any m w' hm)
  generalize hM : m.take 300 = M at *
  obtain ⟨p1, p2, p3⟩ := newT_spec M
  have c2 := new_any M w4 (by omega)
  obtain ⟨N2, hN2⟩ : ∃ N, N = newT M := ⟨_, rfl⟩
  rw [← hN2] at c2 p1 p2
  have f2 : Fine N2 := fine_ok p2 (by rw [p1]; omega)
  go_wp2_with fail
  (with_reducible refine c2.mono ?_)
  rintro e w6 ⟨d, rfl, hd, t6, k6⟩
  have HT6 := Go.Lib.hid (HT4.out.below k6)
  have HB6 : Hid (Below w.heap.size w w6) := Go.Lib.hid (chain HB4.out k6)
  have HN6 := Go.Lib.hid (HN4.out.below k6)
  have HD6 := Go.Lib.hid t6
  clear c2 t6 k6 HT4 HB4 HN4 p3 n3 hN1 hN2 hM
  have e1 : decide (T.bytes = N1.bytes) = true := by rw [n1]; simp
  have e2 : decide (N1.bytes = T.bytes) = true := by rw [n1]; simp
  have e3 : decide (T.bytes = N2.bytes) = ((bs M).toList == (bs T.bytes).toList) := by
    rw [p1, bs_toList, bs_toList]
    by_cases h9 : T.bytes = M
    · rw [h9]; simp
    · have h8 : ¬ M = T.bytes := fun e => h9 e.symm
      simp [h9, h8]
  have E1 := Go.Lib.hid e1
  have E2 := Go.Lib.hid e2
  have E3 := Go.Lib.hid e3
  clear e1 e2 e3 n1 p1 n2 p2
  go_wp2_with fail
  (with_reducible refine (equal_any w6 HT6.out HN6.out hf f1).mono ?_)
  rintro e w7 ⟨rfl, k7⟩
  rw [E1.out]
  have HT7 := Go.Lib.hid (HT6.out.below k7)
  have HB7 : Hid (Below w.heap.size w w7) := Go.Lib.hid (chain HB6.out k7)
  have HN7 := Go.Lib.hid (HN6.out.below k7)
  have HD7 := Go.Lib.hid (HD6.out.below k7)
  clear k7 HT6 HB6 HN6 HD6
  go_wp2_with fail
  (with_reducible refine (equal_any w7 HN7.out HT7.out f1 hf).mono ?_)
  rintro e w8 ⟨rfl, k8⟩
  rw [E2.out]
  have HT8 := Go.Lib.hid (HT7.out.below k8)
  have HB8 : Hid (Below w.heap.size w w8) := Go.Lib.hid (chain HB7.out k8)
  have HD8 := Go.Lib.hid (HD7.out.below k8)
  clear k8 HT7 HB7 HN7 HD7
  go_wp2_with fail
  (with_reducible refine (equal_any w8 HT8.out HD8.out hf f2).mono ?_)
  rintro e w9 ⟨rfl, k9⟩
  rw [E3.out]
  have HB9 : Hid (Below w.heap.size w w9) := Go.Lib.hid (chain HB8.out k9)
  clear k9 HT8 HB8 HD8 E1 E2 E3
  obtain ⟨q, hq⟩ : ∃ q, ((bs M).toList == (bs T.bytes).toList) = q := ⟨_, rfl⟩
  rw [hq]
  go_wp2_with fail
  (with_reducible refine (CM.out w9).mono ?_)
  rintro e w9 ⟨rfl, rfl⟩
  go_wp2_with fail
  (with_reducible refine (equal_sn g w9).mono ?_)
  rintro e w9 ⟨rfl, rfl⟩
  go_wp2
  go_ret
  exact ⟨rfl, HB9.out⟩
end Go.Proofs.Ytonplacldckbgaa
