/- Layer 8: the law of resolving (8). -/
import Derived.Test.YtbkpokipibgdfaaTV
namespace Go.Proofs.Ytbkpokipibgdfaa
open Go.RowKit Go.Lib
set_option linter.unusedVariables false

set_option maxRecDepth 100000 in
set_option maxHeartbeats 16000000 in
theorem law_resolves (A : Option Addr) (n c : Nat) (l : List St) (hn : l.length = n) (hc : n ≤ c ∧ c ≤ maxLen) (hin : ∀ x ∈ l, StIn x) (C : Option Addr) (n1 c1 : Nat) (pl : List Pr) (hn1 : pl.length = n1) (hc1 : n1 ≤ c1 ∧ c1 ≤ maxLen) (hp1 : ∀ y ∈ pl, I64 y.1 ∧ I64 y.2) (D : Option Addr) (n2 c2 : Nat) (ol : List Pr) (hn2 : ol.length = n2) (hc2 : n2 ≤ c2 ∧ c2 ≤ maxLen) (hp2 : ∀ y ∈ ol, I64 y.1 ∧ I64 y.2) (w : World) (hA : LsAt w A l) (hC : PrAt w C pl) (hD : PrAt w D ol) :
    Calls Try.prog 8 #[.slice A n c, .slice C n1 c1, .slice D n2 c2] w (TrueW w) := by
  have cK := Go.Lib.hid (fun w' => known_any w')
  have cS := Go.Lib.hid (fun w' (hb : Below w.heap.size w w') => small_any l A n c hn hc w' (hA.below hb))
  have HA := Go.Lib.hid hA
  have HC := Go.Lib.hid hC
  have HD := Go.Lib.hid hD
  have HN := Go.Lib.hid hn
  have HN1 := Go.Lib.hid hn1
  have HN2 := Go.Lib.hid hn2
  have HC1 := Go.Lib.hid hc1
  have HC2 := Go.Lib.hid hc2
  have HP1 := Go.Lib.hid hp1
  have HP2 := Go.Lib.hid hp2
  have HOK := Go.Lib.hid (ls_ok hin)
  have m1 : n1 ≤ 9223372036854775807 := by have := hc1.1; have := hc1.2; unfold maxLen at this; omega
  have m2 : n2 ≤ 9223372036854775807 := by have := hc2.1; have := hc2.2; unfold maxLen at this; omega
  clear hA hC hD hn hn1 hn2 hc hc1 hc2 hin hp1 hp2
  have K0 := Go.Lib.hid (Below.refl w.heap.size w)
  have s0 := K0.out.size
  go_enter Try.func8, Try.ntmps8
  have cc := cK.out w
  go_wp2_with fail
  (with_reducible refine cc.mono ?_)
  rintro e w1 ⟨rfl, k1⟩
  have K1 := Go.Lib.hid (K0.out.trans (k1.mono s0))
  have s1 := K1.out.size
  clear cc k1
  have cc := cS.out w1 K1.out
  go_wp2_with fail
  (with_reducible refine cc.mono ?_)
  rintro e w2 ⟨⟨b, rfl, hb⟩, k2⟩
  have K2 := Go.Lib.hid (K1.out.trans (k2.mono s1))
  have s2 := K2.out.size
  clear cc k2
  cases b with
  | false =>
    clear hb
    have cc := cK.out w2
    go_wp2_with fail
    (with_reducible refine cc.mono ?_)
    rintro e w3 ⟨rfl, k3⟩
    have K3 := Go.Lib.hid (K2.out.trans (k3.mono s2))
    have s3 := K3.out.size
    clear cc k3
    go_wp2
    go_ret
    exact ⟨by simp, K3.out⟩
  | true =>
    have HT := Go.Lib.hid (hb rfl)
    clear hb
    by_cases q1 : n1 ≤ 50
    case neg =>
      have q1i : (50 : Int) < (n1 : Int) := by omega
      have cc := cK.out w2
      go_wp2_with fail
      (with_reducible refine cc.mono ?_)
      rintro e w3 ⟨rfl, k3⟩
      have K3 := Go.Lib.hid (K2.out.trans (k3.mono s2))
      have s3 := K3.out.size
      clear cc k3
      go_wp2
      go_ret
      exact ⟨by simp, K3.out⟩
    by_cases q2 : n2 ≤ 50
    case neg =>
      have q1i : ¬ (50 : Int) < (n1 : Int) := by omega
      have q2i : (50 : Int) < (n2 : Int) := by omega
      have cc := cK.out w2
      go_wp2_with fail
      (with_reducible refine cc.mono ?_)
      rintro e w3 ⟨rfl, k3⟩
      have K3 := Go.Lib.hid (K2.out.trans (k3.mono s2))
      have s3 := K3.out.size
      clear cc k3
      go_wp2
      go_ret
      exact ⟨by simp, K3.out⟩
    have q1i : ¬ (50 : Int) < (n1 : Int) := by omega
    have q2i : ¬ (50 : Int) < (n2 : Int) := by omega
    have q3 : n ≤ 1000 := by rw [← HN.out]; exact Nat.le_trans HT.out.1 (by omega)
    have e3 := Go.Lib.hid (fun w' (hb : Below w.heap.size w w') => rcheck_any l HOK.out (sml_nms HT.out) n HN.out q3 A c w' (HA.out.below hb))
    by_cases hz : chkA l = 0
    case neg =>
      have e1 := Go.Lib.hid (fun w' (hb : Below w.heap.size w w') => para_e1 l HOK.out (sml_nms HT.out) (sml_prs HT.out) A n c HN.out q3 pl C n1 c1 HN1.out HC1.out (by omega) HP1.out hz w' (HA.out.below hb) (HC.out.below hb (Nat.le_refl _)))
      have e2 := Go.Lib.hid (fun w' (hb : Below w.heap.size w w') => text_e1 l HOK.out (sml_nms HT.out) (sml_prs HT.out) A n c HN.out q3 pl ol C D n1 c1 n2 c2 HN1.out HN2.out HC1.out HC2.out (by omega) (by omega) HP1.out HP2.out hz w' (HA.out.below hb) (HC.out.below hb (Nat.le_refl _)) (HD.out.below hb (Nat.le_refl _)))
      generalize chkA l = E at e1 e2 e3 hz
      have g1 : (E != 0) = true := by simpa using hz
      have eE : (E == E) = true := by simp
      clear hz
      have cc := e1.out w2 K2.out
      go_wp2_with fail
      (with_reducible refine cc.mono ?_)
      rintro e w3 ⟨rfl, k3⟩
      have K3 := Go.Lib.hid (K2.out.trans (k3.mono s2))
      have s3 := K3.out.size
      clear cc k3
      have cc := e2.out w3 K3.out
      go_wp2_with fail
      (with_reducible refine cc.mono ?_)
      rintro e w4 ⟨rfl, k4⟩
      have K4 := Go.Lib.hid (K3.out.trans (k4.mono s3))
      have s4 := K4.out.size
      clear cc k4
      have cc := e3.out w4 K4.out
      go_wp2_with fail
      (with_reducible refine cc.mono ?_)
      rintro e w5 ⟨rfl, k5⟩
      have K5 := Go.Lib.hid (K4.out.trans (k5.mono s4))
      have s5 := K5.out.size
      clear cc k5
      go_wp2
      go_ret
      exact ⟨by simp, K5.out⟩
    have HG := Go.Lib.hid (good_of hz)
    have e1 := Go.Lib.hid (fun w' (hb : Below w.heap.size w w') => Para_any l HOK.out (sml_nms HT.out) (sml_prs HT.out) A n c HN.out q3 pl C n1 c1 HN1.out HC1.out (by omega) HP1.out hz w' (HA.out.below hb) (HC.out.below hb (Nat.le_refl _)))
    have e2 := Go.Lib.hid (fun w' (hb : Below w.heap.size w w') => Text_any l HOK.out (sml_nms HT.out) (sml_prs HT.out) A n c HN.out q3 pl ol C D n1 c1 n2 c2 HN1.out HN2.out HC1.out HC2.out (by omega) (by omega) HP1.out HP2.out hz w' (HA.out.below hb) (HC.out.below hb (Nat.le_refl _)) (HD.out.below hb (Nat.le_refl _)))
    have e4 := Go.Lib.hid (fun w' (hb : Below w.heap.size w w') => rPara_any l HG.out A n c HN.out pl C n1 c1 HN1.out HC1.out w' (HA.out.below hb) (HC.out.below hb (Nat.le_refl _)))
    have e5 := Go.Lib.hid (fun w' (hb : Below w.heap.size w w') => rText_any l HG.out A n c HN.out pl ol C D n1 c1 n2 c2 HN1.out HN2.out HC1.out HC2.out w' (HA.out.below hb) (HC.out.below hb (Nat.le_refl _)) (HD.out.below hb (Nat.le_refl _)))
    rw [hz] at e3
    clear hz
    generalize parL l pl = P at *
    generalize txtL l pl ol = T at *
    generalize parE l pl = E1 at *
    generalize txtE l pl ol = E2 at *
    have eE1 : (E1 == E1) = true := by simp
    have eE2 : (E2 == E2) = true := by simp
    have cc := e1.out w2 K2.out
    go_wp2_with fail
    (with_reducible refine cc.mono ?_)
    rintro e w3 ⟨⟨B1, m3, cb1, hl, rfl, hr⟩, k3⟩
    have K3 := Go.Lib.hid (K2.out.trans (k3.mono s2))
    have s3 := K3.out.size
    clear cc k3
    have HRa := Go.Lib.hid (row_prat hr hl)
    have HLa := Go.Lib.hid hl
    clear hr hl
    have cc := e2.out w3 K3.out
    go_wp2_with fail
    (with_reducible refine cc.mono ?_)
    rintro e w4 ⟨⟨B2, m4, cb2, hl, rfl, hr⟩, k4⟩
    have K4 := Go.Lib.hid (K3.out.trans (k4.mono s3))
    have s4 := K4.out.size
    have HRa := Go.Lib.hid (⟨HRa.out.1, HRa.out.2.1, HRa.out.2.2.below k4 (Nat.le_refl _)⟩ : _ ∧ _ ∧ _)
    clear cc k4
    have HRb := Go.Lib.hid (row_prat hr hl)
    have HLb := Go.Lib.hid hl
    clear hr hl
    have cc := e3.out w4 K4.out
    go_wp2_with fail
    (with_reducible refine cc.mono ?_)
    rintro e w5 ⟨rfl, k5⟩
    have K5 := Go.Lib.hid (K4.out.trans (k5.mono s4))
    have s5 := K5.out.size
    have HRa := Go.Lib.hid (⟨HRa.out.1, HRa.out.2.1, HRa.out.2.2.below k5 (Nat.le_refl _)⟩ : _ ∧ _ ∧ _)
    have HRb := Go.Lib.hid (⟨HRb.out.1, HRb.out.2.1, HRb.out.2.2.below k5 (Nat.le_refl _)⟩ : _ ∧ _ ∧ _)
    clear cc k5
    have cc := e4.out w5 K5.out
    go_wp2_with fail
    (with_reducible refine cc.mono ?_)
    rintro e w6 ⟨⟨B3, m5, cb3, hl, rfl, hr⟩, k6⟩
    have K6 := Go.Lib.hid (K5.out.trans (k6.mono s5))
    have s6 := K6.out.size
    have HRa := Go.Lib.hid (⟨HRa.out.1, HRa.out.2.1, HRa.out.2.2.below k6 (Nat.le_refl _)⟩ : _ ∧ _ ∧ _)
    have HRb := Go.Lib.hid (⟨HRb.out.1, HRb.out.2.1, HRb.out.2.2.below k6 (Nat.le_refl _)⟩ : _ ∧ _ ∧ _)
    clear cc k6
    have HRc := Go.Lib.hid (row_prat hr hl)
    have HLc := Go.Lib.hid hl
    clear hr hl
    have cc := e5.out w6 K6.out
    go_wp2_with fail
    (with_reducible refine cc.mono ?_)
    rintro e w7 ⟨⟨B4, m6, cb4, hl, rfl, hr⟩, k7⟩
    have K7 := Go.Lib.hid (K6.out.trans (k7.mono s6))
    have s7 := K7.out.size
    have HRa := Go.Lib.hid (⟨HRa.out.1, HRa.out.2.1, HRa.out.2.2.below k7 (Nat.le_refl _)⟩ : _ ∧ _ ∧ _)
    have HRb := Go.Lib.hid (⟨HRb.out.1, HRb.out.2.1, HRb.out.2.2.below k7 (Nat.le_refl _)⟩ : _ ∧ _ ∧ _)
    have HRc := Go.Lib.hid (⟨HRc.out.1, HRc.out.2.1, HRc.out.2.2.below k7 (Nat.le_refl _)⟩ : _ ∧ _ ∧ _)
    clear cc k7
    have HRd := Go.Lib.hid (row_prat hr hl)
    have HLd := Go.Lib.hid hl
    clear hr hl
    have hP : decide (P = P) = true := by simp
    have hTT : decide (T = T) = true := by simp
    have cc := eqprops_any B1 B3 m3 m5 cb1 cb3 P P HLa.out HLc.out ⟨HRa.out.1, HRa.out.2.1⟩ ⟨HRc.out.1, HRc.out.2.1⟩ w7 HRa.out.2.2 HRc.out.2.2
    go_wp2_with fail
    (with_reducible refine cc.mono ?_)
    rintro e w8 ⟨rfl, k8⟩
    have K8 := Go.Lib.hid (K7.out.trans (k8.mono s7))
    have s8 := K8.out.size
    have HRb := Go.Lib.hid (⟨HRb.out.1, HRb.out.2.1, HRb.out.2.2.below k8 (Nat.le_refl _)⟩ : _ ∧ _ ∧ _)
    have HRd := Go.Lib.hid (⟨HRd.out.1, HRd.out.2.1, HRd.out.2.2.below k8 (Nat.le_refl _)⟩ : _ ∧ _ ∧ _)
    clear cc k8
    have cc := eqprops_any B2 B4 m4 m6 cb2 cb4 T T HLb.out HLd.out ⟨HRb.out.1, HRb.out.2.1⟩ ⟨HRd.out.1, HRd.out.2.1⟩ w8 HRb.out.2.2 HRd.out.2.2
    go_wp2_with fail
    (with_reducible refine cc.mono ?_)
    rintro e w9 ⟨rfl, k9⟩
    have K9 := Go.Lib.hid (K8.out.trans (k9.mono s8))
    have s9 := K9.out.size
    clear cc k9
    go_wp2
    go_ret
    exact ⟨by simp, K9.out⟩
end Go.Proofs.Ytbkpokipibgdfaa
