/- Layer 5: the law Asks. -/
import Derived.Test.YtioehncdkdfcmaaQ1
import Derived.Test.YtioehncdkdfcmaaKp
namespace Go.Proofs.Ytioehncdkdfcmaa
open Go.RowKit Go.Lib Im

theorem wf_top {z : Int} (h : (Lit.int .i64 z).wf = true) : z ≤ 9223372036854775807 := by
  simp [Lit.wf, IntKind.bits, IntKind.signed, IntKind.min, IntKind.max] at h
  omega
set_option maxRecDepth 100000 in
set_option maxHeartbeats 32000000 in
theorem law_asks (v : Value) (L : Nat) (V : Int) (A : Option Addr) (n c : Nat) (ops : List Opr) (p x : Int) (w : World) (h : PlayIn w v L V A n c ops) (hp : (Lit.int .i64 p).wf = true) (_ : (Lit.int .i64 x).wf = true) : Calls Try.prog 5 #[v, .int .i64 p, .int .i64 x] w (BoolB true w) := by
  obtain rfl := h.eq
  have HTP := Go.Lib.hid (wf_top hp)
  clear hp
  obtain ⟨w0, hw0⟩ : ∃ w0, w0 = w.alloc (.cells #[.int .u8 L, .int .i64 V, .slice A n c] 24) := ⟨_, rfl⟩
  have hb0 : Below w.heap.size w w0 := by rw [hw0]; exact (Below.refl _ w).alloc (Nat.le_refl _) _
  have ob1 : ObjAt w0 w.heap.size #[.int .u8 L, .int .i64 V, .slice A n c] 24 := by rw [hw0]; exact ObjAt.new w _ 24
  have cP := play_in h hb0
  have o0 := ob1.b0
  have o1 := ob1.b1
  have o2 := ob1.b2
  have HB0 := Go.Lib.hid hb0
  clear ob1 h hb0
  rw [hw0] at o0 o1 o2
  go_enter Try.func5, Try.ntmps5
  go_wp2_with fail
  rw [← hw0]
  clear o0 o1 o2
  clear hw0
  (with_reducible refine cP.mono ?_)
  rintro e w1 ⟨b, A1, m, c1, l, rfl, hP, hm⟩
  have HP := Go.Lib.hid hP
  clear hP cP
  go_wp2_with fail
  (with_reducible refine (known_any _).mono ?_)
  rintro e w2 ⟨rfl, hb2⟩
  have HP2 := Go.Lib.hid (HP.out.below hb2)
  clear HP hb2
  have HLN := Go.Lib.hid HP2.out.2.2.1
  obtain ⟨g2, hM2, _⟩ := HP2.out.1
  by_cases h0 : p < 0
  · have cA := at_out b g2 l p w2 hM2 (.inl h0)
    unfold TupB at cA
    clear hM2
    go_wp2_with fail
    (with_reducible refine cA.mono ?_)
    rintro e w3 ⟨rfl, hb3⟩
    have HP3 := Go.Lib.hid (HP2.out.below hb3)
    clear hb3 cA HP2
    obtain ⟨g3, hM3, _⟩ := HP3.out.1
    have cN := next_any b g3 l p w3 hM3 (by rw [HLN.out]; omega)
    clear hM3
    go_wp2_with fail
    (with_reducible refine cN.mono ?_)
    rintro e w4 ⟨hb4, hN⟩
    have HP4 := Go.Lib.hid (HP3.out.below hb4)
    clear cN hb4 HP3
    rcases hN with ⟨rfl, n1⟩ | ⟨q1, rfl, n1⟩
    · have N1 := Go.Lib.hid n1
      clear n1
      obtain ⟨g4, hM4, _⟩ := HP4.out.1
      have cF := find_ps b g4 l p x w4 hM4 (by rw [HLN.out]; omega)
      clear hM4
      go_wp2_with fail
      (with_reducible refine cF.mono ?_)
      rintro e w5 ⟨hb5, hF⟩
      have HP5 := Go.Lib.hid (HP4.out.below hb5)
      clear cF hb5 HP4
      rcases hF with ⟨rfl, f1⟩ | ⟨q2, rfl, f1⟩
      · have F1 := Go.Lib.hid f1
        clear f1
        have cR := rnext_any _ m c1 l HLN.out p w5 (own_lower HP5.out.2.1 (Nat.zero_le _)) (by omega) HTP.out
        go_wp2_with fail
        (with_reducible refine cR.mono ?_)
        rintro e w6 ⟨hb6, hR⟩
        have HP6 := Go.Lib.hid (HP5.out.below hb6)
        clear cR hb6 HP5
        obtain ⟨ja, rfl, hja, hxja, hyja⟩ : ∃ j : Int, e = .returned (.int .i64 j) ∧ j < 0 ∧ max j 0 = 0 ∧ ¬ (0 ≤ j) := by
          rcases hR with ⟨he, _⟩ | ⟨q', _, n2⟩
          · exact ⟨-1, he, by omega, by omega, by omega⟩
          · have := isN_unique N1.out n2
            omega
        have cR := rfind_any _ m c1 l HLN.out p x w6 (own_lower HP6.out.2.1 (Nat.zero_le _)) (by omega) HTP.out
        go_wp2_with fail
        (with_reducible refine cR.mono ?_)
        rintro e w7 ⟨hb7, hR⟩
        have HP7 := Go.Lib.hid (HP6.out.below hb7)
        clear cR hb7 HP6
        obtain ⟨jb, rfl, hjb, hxjb, hyjb⟩ : ∃ j : Int, e = .returned (.int .i64 j) ∧ j < 0 ∧ max j 0 = 0 ∧ ¬ (0 ≤ j) := by
          rcases hR with ⟨he, _⟩ | ⟨q', _, n2⟩
          · exact ⟨-1, he, by omega, by omega, by omega⟩
          · have := isF_unique F1.out n2
            omega
        go_wp2
        go_ret
        exact ⟨by (first | (simp; done) | (simp; omega)), HB0.out.trans (HP7.out.2.2.2.mono HB0.out.size)⟩
      · have F1 := Go.Lib.hid f1
        clear f1
        have cR := rnext_any _ m c1 l HLN.out p w5 (own_lower HP5.out.2.1 (Nat.zero_le _)) (by omega) HTP.out
        go_wp2_with fail
        (with_reducible refine cR.mono ?_)
        rintro e w6 ⟨hb6, hR⟩
        have HP6 := Go.Lib.hid (HP5.out.below hb6)
        clear cR hb6 HP5
        obtain ⟨ja, rfl, hja, hxja, hyja⟩ : ∃ j : Int, e = .returned (.int .i64 j) ∧ j < 0 ∧ max j 0 = 0 ∧ ¬ (0 ≤ j) := by
          rcases hR with ⟨he, _⟩ | ⟨q', _, n2⟩
          · exact ⟨-1, he, by omega, by omega, by omega⟩
          · have := isN_unique N1.out n2
            omega
        have cR := rfind_any _ m c1 l HLN.out p x w6 (own_lower HP6.out.2.1 (Nat.zero_le _)) (by omega) HTP.out
        go_wp2_with fail
        (with_reducible refine cR.mono ?_)
        rintro e w7 ⟨hb7, hR⟩
        have HP7 := Go.Lib.hid (HP6.out.below hb7)
        clear cR hb7 HP6
        obtain rfl : e = .returned (.int .i64 (q2 : Nat)) := by
          rcases hR with ⟨_, n2⟩ | ⟨q', he, n2⟩
          · have := isF_unique F1.out n2
            omega
          · have := isF_unique F1.out n2
            rw [he, ← this]
        have hxjb : max ((q2 : Nat) : Int) 0 = ((q2 : Nat) : Int) := by omega
        have hyjb : (0 : Int) ≤ ((q2 : Nat) : Int) := by omega
        go_wp2
        go_ret
        exact ⟨by (first | (simp; done) | (simp; omega)), HB0.out.trans (HP7.out.2.2.2.mono HB0.out.size)⟩
    · have N1 := Go.Lib.hid n1
      clear n1
      obtain ⟨g4, hM4, _⟩ := HP4.out.1
      have cF := find_ps b g4 l p x w4 hM4 (by rw [HLN.out]; omega)
      clear hM4
      go_wp2_with fail
      (with_reducible refine cF.mono ?_)
      rintro e w5 ⟨hb5, hF⟩
      have HP5 := Go.Lib.hid (HP4.out.below hb5)
      clear cF hb5 HP4
      rcases hF with ⟨rfl, f1⟩ | ⟨q2, rfl, f1⟩
      · have F1 := Go.Lib.hid f1
        clear f1
        have cR := rnext_any _ m c1 l HLN.out p w5 (own_lower HP5.out.2.1 (Nat.zero_le _)) (by omega) HTP.out
        go_wp2_with fail
        (with_reducible refine cR.mono ?_)
        rintro e w6 ⟨hb6, hR⟩
        have HP6 := Go.Lib.hid (HP5.out.below hb6)
        clear cR hb6 HP5
        obtain rfl : e = .returned (.int .i64 (q1 : Nat)) := by
          rcases hR with ⟨_, n2⟩ | ⟨q', he, n2⟩
          · have := isN_unique N1.out n2
            omega
          · have := isN_unique N1.out n2
            rw [he, ← this]
        have hxja : max ((q1 : Nat) : Int) 0 = ((q1 : Nat) : Int) := by omega
        have hyja : (0 : Int) ≤ ((q1 : Nat) : Int) := by omega
        have cR := rfind_any _ m c1 l HLN.out p x w6 (own_lower HP6.out.2.1 (Nat.zero_le _)) (by omega) HTP.out
        go_wp2_with fail
        (with_reducible refine cR.mono ?_)
        rintro e w7 ⟨hb7, hR⟩
        have HP7 := Go.Lib.hid (HP6.out.below hb7)
        clear cR hb7 HP6
        obtain ⟨jb, rfl, hjb, hxjb, hyjb⟩ : ∃ j : Int, e = .returned (.int .i64 j) ∧ j < 0 ∧ max j 0 = 0 ∧ ¬ (0 ≤ j) := by
          rcases hR with ⟨he, _⟩ | ⟨q', _, n2⟩
          · exact ⟨-1, he, by omega, by omega, by omega⟩
          · have := isF_unique F1.out n2
            omega
        go_wp2
        go_ret
        exact ⟨by (first | (simp; done) | (simp; omega)), HB0.out.trans (HP7.out.2.2.2.mono HB0.out.size)⟩
      · have F1 := Go.Lib.hid f1
        clear f1
        have cR := rnext_any _ m c1 l HLN.out p w5 (own_lower HP5.out.2.1 (Nat.zero_le _)) (by omega) HTP.out
        go_wp2_with fail
        (with_reducible refine cR.mono ?_)
        rintro e w6 ⟨hb6, hR⟩
        have HP6 := Go.Lib.hid (HP5.out.below hb6)
        clear cR hb6 HP5
        obtain rfl : e = .returned (.int .i64 (q1 : Nat)) := by
          rcases hR with ⟨_, n2⟩ | ⟨q', he, n2⟩
          · have := isN_unique N1.out n2
            omega
          · have := isN_unique N1.out n2
            rw [he, ← this]
        have hxja : max ((q1 : Nat) : Int) 0 = ((q1 : Nat) : Int) := by omega
        have hyja : (0 : Int) ≤ ((q1 : Nat) : Int) := by omega
        have cR := rfind_any _ m c1 l HLN.out p x w6 (own_lower HP6.out.2.1 (Nat.zero_le _)) (by omega) HTP.out
        go_wp2_with fail
        (with_reducible refine cR.mono ?_)
        rintro e w7 ⟨hb7, hR⟩
        have HP7 := Go.Lib.hid (HP6.out.below hb7)
        clear cR hb7 HP6
        obtain rfl : e = .returned (.int .i64 (q2 : Nat)) := by
          rcases hR with ⟨_, n2⟩ | ⟨q', he, n2⟩
          · have := isF_unique F1.out n2
            omega
          · have := isF_unique F1.out n2
            rw [he, ← this]
        have hxjb : max ((q2 : Nat) : Int) 0 = ((q2 : Nat) : Int) := by omega
        have hyjb : (0 : Int) ≤ ((q2 : Nat) : Int) := by omega
        go_wp2
        go_ret
        exact ⟨by (first | (simp; done) | (simp; omega)), HB0.out.trans (HP7.out.2.2.2.mono HB0.out.size)⟩
  · by_cases h1 : (m : Int) ≤ p
    · have cA := at_out b g2 l p w2 hM2 (.inr (by rw [HLN.out]; exact h1))
      unfold TupB at cA
      clear hM2
      go_wp2_with fail
      (with_reducible refine cA.mono ?_)
      rintro e w3 ⟨rfl, hb3⟩
      have HP3 := Go.Lib.hid (HP2.out.below hb3)
      clear hb3 cA HP2
      obtain ⟨g3, hM3, _⟩ := HP3.out.1
      have cN := next_any b g3 l p w3 hM3 (by rw [HLN.out]; omega)
      clear hM3
      go_wp2_with fail
      (with_reducible refine cN.mono ?_)
      rintro e w4 ⟨hb4, hN⟩
      have HP4 := Go.Lib.hid (HP3.out.below hb4)
      clear cN hb4 HP3
      rcases hN with ⟨rfl, n1⟩ | ⟨q1, rfl, n1⟩
      · have N1 := Go.Lib.hid n1
        clear n1
        obtain ⟨g4, hM4, _⟩ := HP4.out.1
        have cF := find_ps b g4 l p x w4 hM4 (by rw [HLN.out]; omega)
        clear hM4
        go_wp2_with fail
        (with_reducible refine cF.mono ?_)
        rintro e w5 ⟨hb5, hF⟩
        have HP5 := Go.Lib.hid (HP4.out.below hb5)
        clear cF hb5 HP4
        rcases hF with ⟨rfl, f1⟩ | ⟨q2, rfl, f1⟩
        · have F1 := Go.Lib.hid f1
          clear f1
          have cR := rnext_any _ m c1 l HLN.out p w5 (own_lower HP5.out.2.1 (Nat.zero_le _)) (by omega) HTP.out
          go_wp2_with fail
          (with_reducible refine cR.mono ?_)
          rintro e w6 ⟨hb6, hR⟩
          have HP6 := Go.Lib.hid (HP5.out.below hb6)
          clear cR hb6 HP5
          obtain ⟨ja, rfl, hja, hxja, hyja⟩ : ∃ j : Int, e = .returned (.int .i64 j) ∧ j < 0 ∧ max j 0 = 0 ∧ ¬ (0 ≤ j) := by
            rcases hR with ⟨he, _⟩ | ⟨q', _, n2⟩
            · exact ⟨-1, he, by omega, by omega, by omega⟩
            · have := isN_unique N1.out n2
              omega
          have cR := rfind_any _ m c1 l HLN.out p x w6 (own_lower HP6.out.2.1 (Nat.zero_le _)) (by omega) HTP.out
          go_wp2_with fail
          (with_reducible refine cR.mono ?_)
          rintro e w7 ⟨hb7, hR⟩
          have HP7 := Go.Lib.hid (HP6.out.below hb7)
          clear cR hb7 HP6
          obtain ⟨jb, rfl, hjb, hxjb, hyjb⟩ : ∃ j : Int, e = .returned (.int .i64 j) ∧ j < 0 ∧ max j 0 = 0 ∧ ¬ (0 ≤ j) := by
            rcases hR with ⟨he, _⟩ | ⟨q', _, n2⟩
            · exact ⟨-1, he, by omega, by omega, by omega⟩
            · have := isF_unique F1.out n2
              omega
          go_wp2
          go_ret
          exact ⟨by (first | (simp; done) | (simp; omega)), HB0.out.trans (HP7.out.2.2.2.mono HB0.out.size)⟩
        · have F1 := Go.Lib.hid f1
          clear f1
          have cR := rnext_any _ m c1 l HLN.out p w5 (own_lower HP5.out.2.1 (Nat.zero_le _)) (by omega) HTP.out
          go_wp2_with fail
          (with_reducible refine cR.mono ?_)
          rintro e w6 ⟨hb6, hR⟩
          have HP6 := Go.Lib.hid (HP5.out.below hb6)
          clear cR hb6 HP5
          obtain ⟨ja, rfl, hja, hxja, hyja⟩ : ∃ j : Int, e = .returned (.int .i64 j) ∧ j < 0 ∧ max j 0 = 0 ∧ ¬ (0 ≤ j) := by
            rcases hR with ⟨he, _⟩ | ⟨q', _, n2⟩
            · exact ⟨-1, he, by omega, by omega, by omega⟩
            · have := isN_unique N1.out n2
              omega
          have cR := rfind_any _ m c1 l HLN.out p x w6 (own_lower HP6.out.2.1 (Nat.zero_le _)) (by omega) HTP.out
          go_wp2_with fail
          (with_reducible refine cR.mono ?_)
          rintro e w7 ⟨hb7, hR⟩
          have HP7 := Go.Lib.hid (HP6.out.below hb7)
          clear cR hb7 HP6
          obtain rfl : e = .returned (.int .i64 (q2 : Nat)) := by
            rcases hR with ⟨_, n2⟩ | ⟨q', he, n2⟩
            · have := isF_unique F1.out n2
              omega
            · have := isF_unique F1.out n2
              rw [he, ← this]
          have hxjb : max ((q2 : Nat) : Int) 0 = ((q2 : Nat) : Int) := by omega
          have hyjb : (0 : Int) ≤ ((q2 : Nat) : Int) := by omega
          go_wp2
          go_ret
          exact ⟨by (first | (simp; done) | (simp; omega)), HB0.out.trans (HP7.out.2.2.2.mono HB0.out.size)⟩
      · have N1 := Go.Lib.hid n1
        clear n1
        obtain ⟨g4, hM4, _⟩ := HP4.out.1
        have cF := find_ps b g4 l p x w4 hM4 (by rw [HLN.out]; omega)
        clear hM4
        go_wp2_with fail
        (with_reducible refine cF.mono ?_)
        rintro e w5 ⟨hb5, hF⟩
        have HP5 := Go.Lib.hid (HP4.out.below hb5)
        clear cF hb5 HP4
        rcases hF with ⟨rfl, f1⟩ | ⟨q2, rfl, f1⟩
        · have F1 := Go.Lib.hid f1
          clear f1
          have cR := rnext_any _ m c1 l HLN.out p w5 (own_lower HP5.out.2.1 (Nat.zero_le _)) (by omega) HTP.out
          go_wp2_with fail
          (with_reducible refine cR.mono ?_)
          rintro e w6 ⟨hb6, hR⟩
          have HP6 := Go.Lib.hid (HP5.out.below hb6)
          clear cR hb6 HP5
          obtain rfl : e = .returned (.int .i64 (q1 : Nat)) := by
            rcases hR with ⟨_, n2⟩ | ⟨q', he, n2⟩
            · have := isN_unique N1.out n2
              omega
            · have := isN_unique N1.out n2
              rw [he, ← this]
          have hxja : max ((q1 : Nat) : Int) 0 = ((q1 : Nat) : Int) := by omega
          have hyja : (0 : Int) ≤ ((q1 : Nat) : Int) := by omega
          have cR := rfind_any _ m c1 l HLN.out p x w6 (own_lower HP6.out.2.1 (Nat.zero_le _)) (by omega) HTP.out
          go_wp2_with fail
          (with_reducible refine cR.mono ?_)
          rintro e w7 ⟨hb7, hR⟩
          have HP7 := Go.Lib.hid (HP6.out.below hb7)
          clear cR hb7 HP6
          obtain ⟨jb, rfl, hjb, hxjb, hyjb⟩ : ∃ j : Int, e = .returned (.int .i64 j) ∧ j < 0 ∧ max j 0 = 0 ∧ ¬ (0 ≤ j) := by
            rcases hR with ⟨he, _⟩ | ⟨q', _, n2⟩
            · exact ⟨-1, he, by omega, by omega, by omega⟩
            · have := isF_unique F1.out n2
              omega
          go_wp2
          go_ret
          exact ⟨by (first | (simp; done) | (simp; omega)), HB0.out.trans (HP7.out.2.2.2.mono HB0.out.size)⟩
        · have F1 := Go.Lib.hid f1
          clear f1
          have cR := rnext_any _ m c1 l HLN.out p w5 (own_lower HP5.out.2.1 (Nat.zero_le _)) (by omega) HTP.out
          go_wp2_with fail
          (with_reducible refine cR.mono ?_)
          rintro e w6 ⟨hb6, hR⟩
          have HP6 := Go.Lib.hid (HP5.out.below hb6)
          clear cR hb6 HP5
          obtain rfl : e = .returned (.int .i64 (q1 : Nat)) := by
            rcases hR with ⟨_, n2⟩ | ⟨q', he, n2⟩
            · have := isN_unique N1.out n2
              omega
            · have := isN_unique N1.out n2
              rw [he, ← this]
          have hxja : max ((q1 : Nat) : Int) 0 = ((q1 : Nat) : Int) := by omega
          have hyja : (0 : Int) ≤ ((q1 : Nat) : Int) := by omega
          have cR := rfind_any _ m c1 l HLN.out p x w6 (own_lower HP6.out.2.1 (Nat.zero_le _)) (by omega) HTP.out
          go_wp2_with fail
          (with_reducible refine cR.mono ?_)
          rintro e w7 ⟨hb7, hR⟩
          have HP7 := Go.Lib.hid (HP6.out.below hb7)
          clear cR hb7 HP6
          obtain rfl : e = .returned (.int .i64 (q2 : Nat)) := by
            rcases hR with ⟨_, n2⟩ | ⟨q', he, n2⟩
            · have := isF_unique F1.out n2
              omega
            · have := isF_unique F1.out n2
              rw [he, ← this]
          have hxjb : max ((q2 : Nat) : Int) 0 = ((q2 : Nat) : Int) := by omega
          have hyjb : (0 : Int) ≤ ((q2 : Nat) : Int) := by omega
          go_wp2
          go_ret
          exact ⟨by (first | (simp; done) | (simp; omega)), HB0.out.trans (HP7.out.2.2.2.mono HB0.out.size)⟩
    · obtain ⟨k, rfl⟩ : ∃ k : Nat, p = k := ⟨p.toNat, by omega⟩
      have hkm : k < m := by omega
      obtain ⟨gA, rfl, hgA, hcA⟩ := own_list HP2.out.2.1 HLN.out hkm
      have hx : l[((k : Nat) : Int).toNat]? = some (l[k]'(by rw [HLN.out]; exact hkm)) := by rw [Int.toNat_natCast]; exact List.getElem?_eq_getElem _
      have cA := at_inn b g2 l k w2 hM2 (by rw [HLN.out]; omega) (by omega) (by rw [HLN.out]; omega) hx
      unfold TupB at cA
      have HG := Go.Lib.hid hgA
      clear hM2 hx hgA
      generalize l[k]'(by rw [HLN.out]; exact hkm) = y at cA hcA
      have q0 : (0 : Int) ≤ (k : Int) := by omega
      have q1 : (k : Int) < (m : Int) := by omega
      go_wp2_with fail
      (with_reducible refine cA.mono ?_)
      rintro e w3 ⟨rfl, hb3⟩
      have HP3 := Go.Lib.hid (HP2.out.below hb3)
      have hcA3 := (hb3.cell (p := ⟨gA, k, none⟩) HG.out).trans hcA
      clear hb3 cA HP2 hcA
      obtain ⟨g3, hM3, _⟩ := HP3.out.1
      have cN := next_any b g3 l k w3 hM3 (by rw [HLN.out]; omega)
      clear hM3
      go_wp2_with fail
      (with_reducible refine cN.mono ?_)
      rintro e w4 ⟨hb4, hN⟩
      have HP4 := Go.Lib.hid (HP3.out.below hb4)
      clear cN hb4 HP3
      rcases hN with ⟨rfl, n1⟩ | ⟨qa, rfl, n1⟩
      · have N1 := Go.Lib.hid n1
        clear n1
        obtain ⟨g4, hM4, _⟩ := HP4.out.1
        have cF := find_ps b g4 l k x w4 hM4 (by rw [HLN.out]; omega)
        clear hM4
        go_wp2_with fail
        (with_reducible refine cF.mono ?_)
        rintro e w5 ⟨hb5, hF⟩
        have HP5 := Go.Lib.hid (HP4.out.below hb5)
        clear cF hb5 HP4
        rcases hF with ⟨rfl, f1⟩ | ⟨qb, rfl, f1⟩
        · have F1 := Go.Lib.hid f1
          clear f1
          have cR := rnext_any _ m c1 l HLN.out k w5 (own_lower HP5.out.2.1 (Nat.zero_le _)) (by omega) HTP.out
          go_wp2_with fail
          (with_reducible refine cR.mono ?_)
          rintro e w6 ⟨hb6, hR⟩
          have HP6 := Go.Lib.hid (HP5.out.below hb6)
          clear cR hb6 HP5
          obtain ⟨ja, rfl, hja, hxja, hyja⟩ : ∃ j : Int, e = .returned (.int .i64 j) ∧ j < 0 ∧ max j 0 = 0 ∧ ¬ (0 ≤ j) := by
            rcases hR with ⟨he, _⟩ | ⟨q', _, n2⟩
            · exact ⟨-1, he, by omega, by omega, by omega⟩
            · have := isN_unique N1.out n2
              omega
          have cR := rfind_any _ m c1 l HLN.out k x w6 (own_lower HP6.out.2.1 (Nat.zero_le _)) (by omega) HTP.out
          go_wp2_with fail
          (with_reducible refine cR.mono ?_)
          rintro e w7 ⟨hb7, hR⟩
          have HP7 := Go.Lib.hid (HP6.out.below hb7)
          clear cR hb7 HP6
          obtain ⟨jb, rfl, hjb, hxjb, hyjb⟩ : ∃ j : Int, e = .returned (.int .i64 j) ∧ j < 0 ∧ max j 0 = 0 ∧ ¬ (0 ≤ j) := by
            rcases hR with ⟨he, _⟩ | ⟨q', _, n2⟩
            · exact ⟨-1, he, by omega, by omega, by omega⟩
            · have := isF_unique F1.out n2
              omega
          go_wp2
          go_ret
          exact ⟨by (first | (simp; done) | (simp; omega)), HB0.out.trans (HP7.out.2.2.2.mono HB0.out.size)⟩
        · have F1 := Go.Lib.hid f1
          clear f1
          have cR := rnext_any _ m c1 l HLN.out k w5 (own_lower HP5.out.2.1 (Nat.zero_le _)) (by omega) HTP.out
          go_wp2_with fail
          (with_reducible refine cR.mono ?_)
          rintro e w6 ⟨hb6, hR⟩
          have HP6 := Go.Lib.hid (HP5.out.below hb6)
          clear cR hb6 HP5
          obtain ⟨ja, rfl, hja, hxja, hyja⟩ : ∃ j : Int, e = .returned (.int .i64 j) ∧ j < 0 ∧ max j 0 = 0 ∧ ¬ (0 ≤ j) := by
            rcases hR with ⟨he, _⟩ | ⟨q', _, n2⟩
            · exact ⟨-1, he, by omega, by omega, by omega⟩
            · have := isN_unique N1.out n2
              omega
          have cR := rfind_any _ m c1 l HLN.out k x w6 (own_lower HP6.out.2.1 (Nat.zero_le _)) (by omega) HTP.out
          go_wp2_with fail
          (with_reducible refine cR.mono ?_)
          rintro e w7 ⟨hb7, hR⟩
          have HP7 := Go.Lib.hid (HP6.out.below hb7)
          clear cR hb7 HP6
          obtain rfl : e = .returned (.int .i64 (qb : Nat)) := by
            rcases hR with ⟨_, n2⟩ | ⟨q', he, n2⟩
            · have := isF_unique F1.out n2
              omega
            · have := isF_unique F1.out n2
              rw [he, ← this]
          have hxjb : max ((qb : Nat) : Int) 0 = ((qb : Nat) : Int) := by omega
          have hyjb : (0 : Int) ≤ ((qb : Nat) : Int) := by omega
          go_wp2
          go_ret
          exact ⟨by (first | (simp; done) | (simp; omega)), HB0.out.trans (HP7.out.2.2.2.mono HB0.out.size)⟩
      · have N1 := Go.Lib.hid n1
        clear n1
        obtain ⟨g4, hM4, _⟩ := HP4.out.1
        have cF := find_ps b g4 l k x w4 hM4 (by rw [HLN.out]; omega)
        clear hM4
        go_wp2_with fail
        (with_reducible refine cF.mono ?_)
        rintro e w5 ⟨hb5, hF⟩
        have HP5 := Go.Lib.hid (HP4.out.below hb5)
        clear cF hb5 HP4
        rcases hF with ⟨rfl, f1⟩ | ⟨qb, rfl, f1⟩
        · have F1 := Go.Lib.hid f1
          clear f1
          have cR := rnext_any _ m c1 l HLN.out k w5 (own_lower HP5.out.2.1 (Nat.zero_le _)) (by omega) HTP.out
          go_wp2_with fail
          (with_reducible refine cR.mono ?_)
          rintro e w6 ⟨hb6, hR⟩
          have HP6 := Go.Lib.hid (HP5.out.below hb6)
          clear cR hb6 HP5
          obtain rfl : e = .returned (.int .i64 (qa : Nat)) := by
            rcases hR with ⟨_, n2⟩ | ⟨q', he, n2⟩
            · have := isN_unique N1.out n2
              omega
            · have := isN_unique N1.out n2
              rw [he, ← this]
          have hxja : max ((qa : Nat) : Int) 0 = ((qa : Nat) : Int) := by omega
          have hyja : (0 : Int) ≤ ((qa : Nat) : Int) := by omega
          have cR := rfind_any _ m c1 l HLN.out k x w6 (own_lower HP6.out.2.1 (Nat.zero_le _)) (by omega) HTP.out
          go_wp2_with fail
          (with_reducible refine cR.mono ?_)
          rintro e w7 ⟨hb7, hR⟩
          have HP7 := Go.Lib.hid (HP6.out.below hb7)
          clear cR hb7 HP6
          obtain ⟨jb, rfl, hjb, hxjb, hyjb⟩ : ∃ j : Int, e = .returned (.int .i64 j) ∧ j < 0 ∧ max j 0 = 0 ∧ ¬ (0 ≤ j) := by
            rcases hR with ⟨he, _⟩ | ⟨q', _, n2⟩
            · exact ⟨-1, he, by omega, by omega, by omega⟩
            · have := isF_unique F1.out n2
              omega
          go_wp2
          go_ret
          exact ⟨by (first | (simp; done) | (simp; omega)), HB0.out.trans (HP7.out.2.2.2.mono HB0.out.size)⟩
        · have F1 := Go.Lib.hid f1
          clear f1
          have cR := rnext_any _ m c1 l HLN.out k w5 (own_lower HP5.out.2.1 (Nat.zero_le _)) (by omega) HTP.out
          go_wp2_with fail
          (with_reducible refine cR.mono ?_)
          rintro e w6 ⟨hb6, hR⟩
          have HP6 := Go.Lib.hid (HP5.out.below hb6)
          clear cR hb6 HP5
          obtain rfl : e = .returned (.int .i64 (qa : Nat)) := by
            rcases hR with ⟨_, n2⟩ | ⟨q', he, n2⟩
            · have := isN_unique N1.out n2
              omega
            · have := isN_unique N1.out n2
              rw [he, ← this]
          have hxja : max ((qa : Nat) : Int) 0 = ((qa : Nat) : Int) := by omega
          have hyja : (0 : Int) ≤ ((qa : Nat) : Int) := by omega
          have cR := rfind_any _ m c1 l HLN.out k x w6 (own_lower HP6.out.2.1 (Nat.zero_le _)) (by omega) HTP.out
          go_wp2_with fail
          (with_reducible refine cR.mono ?_)
          rintro e w7 ⟨hb7, hR⟩
          have HP7 := Go.Lib.hid (HP6.out.below hb7)
          clear cR hb7 HP6
          obtain rfl : e = .returned (.int .i64 (qb : Nat)) := by
            rcases hR with ⟨_, n2⟩ | ⟨q', he, n2⟩
            · have := isF_unique F1.out n2
              omega
            · have := isF_unique F1.out n2
              rw [he, ← this]
          have hxjb : max ((qb : Nat) : Int) 0 = ((qb : Nat) : Int) := by omega
          have hyjb : (0 : Int) ≤ ((qb : Nat) : Int) := by omega
          go_wp2
          go_ret
          exact ⟨by (first | (simp; done) | (simp; omega)), HB0.out.trans (HP7.out.2.2.2.mono HB0.out.size)⟩
end Go.Proofs.Ytioehncdkdfcmaa
