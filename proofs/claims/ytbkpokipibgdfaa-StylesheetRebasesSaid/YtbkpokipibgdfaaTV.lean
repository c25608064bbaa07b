/- Layer 8: the reference's Para (32) and Text (33). -/
import Derived.Test.YtbkpokipibgdfaaTU
namespace Go.Proofs.Ytbkpokipibgdfaa
open Go.RowKit Go.Lib
set_option linter.unusedVariables false

theorem hasB_some' {l : List St} {kd i : Int} (h : hasB l kd i = true) : (plc l i).isSome = true := by
  cases hp : plc l i with
  | none => rw [hasB_none hp] at h; cases h
  | some k => rfl
theorem reffI_any (l : List St) (hG : Good l) (A : Option Addr) (n c : Nat) (hn : l.length = n) (i : Int) (hi : i = 0 ∨ (plc l i).isSome = true) (w : World) (hA : LsAt w A l) :
    Calls Try.prog 29 #[.slice A n c, .int .i64 i] w fun e w' => (∃ B n cb, (effI l i).length = n ∧ e = .returned (.slice B n cb) ∧ w'.ownsRow w.heap.size 55 2 (.slice B n cb) n (rowP (effI l i))) ∧ Below w.heap.size w w' := by
  refine (reff_any l hG A n c hn i hi w hA).mono ?_
  rintro e w1 ⟨⟨xs, B, m, cb, h1, h2, h3, rfl, h4⟩, k⟩
  unfold effI
  rw [chn_eq h1 h2]
  exact ⟨⟨B, m, cb, h3, rfl, h4⟩, k⟩
theorem rmergeL_any (la lb : List Pr) (ha : InT la) (hb : InT lb) (na nb : Nat) (hna : la.length = na) (hnb : lb.length = nb) (A B0 : Option Addr) (ca cb0 : Nat) (hca : na ≤ ca ∧ ca ≤ maxLen) (hcb : nb ≤ cb0 ∧ cb0 ≤ maxLen) (w : World) (hA : PrAt w A la) (hB : PrAt w B0 lb) :
    Calls Try.prog 36 #[.slice A na ca, .slice B0 nb cb0] w fun e w' => (∃ B n cb, (mergeL la lb).length = n ∧ e = .returned (.slice B n cb) ∧ w'.ownsRow w.heap.size 55 2 (.slice B n cb) n (rowP (mergeL la lb))) ∧ Below w.heap.size w w' := by
  refine (rmergeT_any la lb na nb hna hnb A B0 ca cb0 hca hcb w hA hB).mono ?_
  rintro e w1 ⟨B, m, cb, h1, rfl, h2, k⟩
  rw [rmg_merge ha hb] at h1 h2
  exact ⟨⟨B, m, cb, h1, rfl, h2⟩, k⟩
theorem rgroupL_any (gr : Int) (l : List Pr) (hI : InT l) (A : Option Addr) (n c : Nat) (hn : l.length = n) (hc : n ≤ c ∧ c ≤ maxLen) (w : World) (hA : PrAt w A l) :
    Calls Try.prog 58 #[.slice A n c, .int .i64 gr] w fun e w' => (∃ B n cb, (keepP gr l).length = n ∧ e = .returned (.slice B n cb) ∧ w'.ownsRow w.heap.size 55 2 (.slice B n cb) n (rowP (keepP gr l))) ∧ Below w.heap.size w w' := by
  refine (rgroup_any gr l hI A n c hn hc w hA).mono ?_
  rintro e w1 ⟨B, m, cb, h1, rfl, h2, k⟩
  exact ⟨⟨B, m, cb, h1, rfl, h2⟩, k⟩
theorem rget' (A : Option Addr) (len c : Nat) (l : List Pr) (hl : l.length = len) (hc : len ≤ c ∧ c ≤ maxLen) (p : Int) (w : World) (hA : PrAt w A l) :
    Calls Try.prog 34 #[.slice A len c, .int .i64 p] w fun e w' => e = .returned (.tuple #[.int .i64 (getV l p), .bool (getB l p)]) ∧ Below w.heap.size w w' := by
  refine (rget_any A len c l hl hc p w hA).mono ?_
  rintro e w1 ⟨h, rfl⟩
  exact ⟨h, Below.refl _ _⟩
set_option maxRecDepth 100000 in
set_option maxHeartbeats 16000000 in
theorem rpara_e1 (l : List St) (hG : Good l) (A : Option Addr) (m d : Nat) (hm : l.length = m) (pl : List Pr) (C : Option Addr) (n1 c1 : Nat) (hn1 : pl.length = n1) (hc1 : n1 ≤ c1 ∧ c1 ≤ maxLen) (hbad : chkP 2 pl ≠ 0)
    (w : World) (hA : LsAt w A l) (hC : PrAt w C pl) :
    Calls Try.prog 32 #[.slice A m d, .slice C n1 c1] w fun e w' => e = .returned (.tuple #[.slice none 0 0, .int .i64 (chkP 2 pl)]) ∧ Below w.heap.size w w' := by
  obtain ⟨E, hE⟩ : ∃ E, chkP 2 pl = E := ⟨_, rfl⟩
  rw [hE] at hbad
  rw [hE]
  have e1 : (E != 0) = true := by simpa using hbad
  have HE := Lib.hid hE
  clear hE hbad
  have hm128 : m ≤ 128 := by rw [← hm]; exact hG.len
  have HG := Lib.hid hG
  have C1 := Lib.hid (fun w' (hb : Below w.heap.size w w') => rcheck_in 2 C n1 c1 pl hn1 hc1 (by omega) w' (hC.below hb (Nat.le_refl _)))
  have G1 := Lib.hid (fun w' (hb : Below w.heap.size w w') => rget' C n1 c1 pl hn1 hc1 20 w' (hC.below hb (Nat.le_refl _)))
  have IS := Lib.hid (fun kd i w' (hb : Below w.heap.size w w') => ris_any l m hm (by omega) A d kd i w' (hA.below hb))
  have EF := Lib.hid (fun i (hi : i = 0 ∨ (plc l i).isSome = true) w' (hb : Below w.heap.size w w') => reffI_any l hG A m d hm i hi w' (hA.below hb))
  have HC := Lib.hid hC
  have HN1 := Lib.hid hn1
  have HC1 := Lib.hid hc1
  clear hA hC hn1 hc1 hm hG
  have K0 := Go.Lib.hid (Below.refl w.heap.size w)
  have s0 := K0.out.size
  go_enter Try.func32, Try.ntmps32
  have cq := C1.out w K0.out
  rw [HE.out] at cq
  have cc := cq
  go_wp2_with fail
  (with_reducible refine cc.mono ?_)
  rintro e w1 ⟨rfl, k1⟩
  have K1 := Go.Lib.hid (K0.out.trans (k1.mono s0))
  have s1 := K1.out.size
  clear cc k1
  clear cq
  go_wp2
  go_ret2
  exact ⟨rfl, K1.out⟩
set_option maxRecDepth 100000 in
set_option maxHeartbeats 16000000 in
theorem rpara_e2 (l : List St) (hG : Good l) (A : Option Addr) (m d : Nat) (hm : l.length = m) (pl : List Pr) (C : Option Addr) (n1 c1 : Nat) (hn1 : pl.length = n1) (hc1 : n1 ≤ c1 ∧ c1 ≤ maxLen) (hcp : chkP 2 pl = 0) (hbad : idOf 1 pl ≠ 0 ∧ hasB l 1 (idOf 1 pl) = false)
    (w : World) (hA : LsAt w A l) (hC : PrAt w C pl) :
    Calls Try.prog 32 #[.slice A m d, .slice C n1 c1] w fun e w' => e = .returned (.tuple #[.slice none 0 0, .int .i64 (25)]) ∧ Below w.heap.size w w' := by
  have hm128 : m ≤ 128 := by rw [← hm]; exact hG.len
  have HG := Lib.hid hG
  have C1 := Lib.hid (fun w' (hb : Below w.heap.size w w') => rcheck_in 2 C n1 c1 pl hn1 hc1 (by omega) w' (hC.below hb (Nat.le_refl _)))
  have G1 := Lib.hid (fun w' (hb : Below w.heap.size w w') => rget' C n1 c1 pl hn1 hc1 20 w' (hC.below hb (Nat.le_refl _)))
  have IS := Lib.hid (fun kd i w' (hb : Below w.heap.size w w') => ris_any l m hm (by omega) A d kd i w' (hA.below hb))
  have EF := Lib.hid (fun i (hi : i = 0 ∨ (plc l i).isSome = true) w' (hb : Below w.heap.size w w') => reffI_any l hG A m d hm i hi w' (hA.below hb))
  have HC := Lib.hid hC
  have HN1 := Lib.hid hn1
  have HC1 := Lib.hid hc1
  clear hA hC hn1 hc1 hm hG
  have K0 := Go.Lib.hid (Below.refl w.heap.size w)
  have s0 := K0.out.size
  go_enter Try.func32, Try.ntmps32
  have cq := C1.out w K0.out
  rw [hcp] at cq
  have cc := cq
  go_wp2_with fail
  (with_reducible refine cc.mono ?_)
  rintro e w1 ⟨rfl, k1⟩
  have K1 := Go.Lib.hid (K0.out.trans (k1.mono s0))
  have s1 := K1.out.size
  clear cc k1
  clear cq
  have cc := G1.out w1 K1.out
  go_wp2_with fail
  (with_reducible refine cc.mono ?_)
  rintro e w2 ⟨rfl, k2⟩
  have K2 := Go.Lib.hid (K1.out.trans (k2.mono s1))
  have s2 := K2.out.size
  clear cc k2
  rw [idOf_one] at hbad
  obtain ⟨hb1, hb2⟩ := hbad
  have HB2 := Lib.hid hb2
  clear hb2
  generalize getV pl 20 = i1 at *
  have e2 : (i1 != 0) = true := by simpa using hb1
  clear hb1
  have cq := IS.out 1 i1 w2 K2.out
  rw [HB2.out] at cq
  have cc := cq
  go_wp2_with fail
  (with_reducible refine cc.mono ?_)
  rintro e w3 ⟨rfl, k3⟩
  have K3 := Go.Lib.hid (K2.out.trans (k3.mono s2))
  have s3 := K3.out.size
  clear cc k3
  go_wp2
  go_ret2
  exact ⟨rfl, K3.out⟩
set_option maxRecDepth 100000 in
set_option maxHeartbeats 16000000 in
theorem rpara_g (l : List St) (hG : Good l) (A : Option Addr) (m d : Nat) (hm : l.length = m) (pl : List Pr) (C : Option Addr) (n1 c1 : Nat) (hn1 : pl.length = n1) (hc1 : n1 ≤ c1 ∧ c1 ≤ maxLen) (hcp : chkP 2 pl = 0) (hok1 : ¬ (idOf 1 pl ≠ 0 ∧ hasB l 1 (idOf 1 pl) = false))
    (w : World) (hA : LsAt w A l) (hC : PrAt w C pl) :
    Calls Try.prog 32 #[.slice A m d, .slice C n1 c1] w (OutE (keepP 2 (mergeL (effI l (getV pl 20)) pl)) 0 w) := by
  rw [idOf_one] at hok1
  have HPI := Lib.hid (chk_in (by omega) hcp)
  have H1 := Lib.hid (show getV pl 20 = 0 ∨ hasB l 1 (getV pl 20) = true by
    by_cases h : getV pl 20 = 0
    · exact .inl h
    · right
      cases hb : hasB l 1 (getV pl 20) with
      | true => rfl
      | false => exact absurd ⟨h, hb⟩ hok1)
  clear hok1
  have hm128 : m ≤ 128 := by rw [← hm]; exact hG.len
  have HG := Lib.hid hG
  have C1 := Lib.hid (fun w' (hb : Below w.heap.size w w') => rcheck_in 2 C n1 c1 pl hn1 hc1 (by omega) w' (hC.below hb (Nat.le_refl _)))
  have G1 := Lib.hid (fun w' (hb : Below w.heap.size w w') => rget' C n1 c1 pl hn1 hc1 20 w' (hC.below hb (Nat.le_refl _)))
  have IS := Lib.hid (fun kd i w' (hb : Below w.heap.size w w') => ris_any l m hm (by omega) A d kd i w' (hA.below hb))
  have EF := Lib.hid (fun i (hi : i = 0 ∨ (plc l i).isSome = true) w' (hb : Below w.heap.size w w') => reffI_any l hG A m d hm i hi w' (hA.below hb))
  have HC := Lib.hid hC
  have HN1 := Lib.hid hn1
  have HC1 := Lib.hid hc1
  clear hA hC hn1 hc1 hm hG
  generalize getV pl 20 = i1 at *
  have K0 := Go.Lib.hid (Below.refl w.heap.size w)
  have s0 := K0.out.size
  go_enter Try.func32, Try.ntmps32
  have cq := C1.out w K0.out
  rw [hcp] at cq
  have cc := cq
  go_wp2_with fail
  (with_reducible refine cc.mono ?_)
  rintro e w1 ⟨rfl, k1⟩
  have K1 := Go.Lib.hid (K0.out.trans (k1.mono s0))
  have s1 := K1.out.size
  clear cc k1
  clear cq
  have cc := G1.out w1 K1.out
  go_wp2_with fail
  (with_reducible refine cc.mono ?_)
  rintro e w2 ⟨rfl, k2⟩
  have K2 := Go.Lib.hid (K1.out.trans (k2.mono s1))
  have s2 := K2.out.size
  clear cc k2
  rcases H1.out with h0 | h0
  · have eH1 : (i1 != 0) = false := by simpa using h0
    clear h0
    have cc := EF.out i1 (H1.out.imp id hasB_some') w2 K2.out
    go_wp2_with fail
    (with_reducible refine cc.mono ?_)
    rintro e w3 ⟨⟨B1, m1, cb1, hl, rfl, hr⟩, k3⟩
    have K3 := Go.Lib.hid (K2.out.trans (k3.mono s2))
    have s3 := K3.out.size
    clear cc k3
    have HRa := Lib.hid (row_prat hr hl)
    have HLa := Lib.hid hl
    have HOa := Lib.hid hr
    clear hr hl
    have cc := rmergeL_any (effI l i1) pl (effI_in HG.out i1) HPI.out m1 n1 HLa.out HN1.out B1 C cb1 c1 ⟨HRa.out.1, HRa.out.2.1⟩ HC1.out w3 HRa.out.2.2 (HC.out.below K3.out (Nat.le_refl _))
    go_wp2_with fail
    (with_reducible refine cc.mono ?_)
    rintro e w4 ⟨⟨B2, m2, cb2, hl, rfl, hr⟩, k4⟩
    have K4 := Go.Lib.hid (K3.out.trans (k4.mono s3))
    have s4 := K4.out.size
    clear cc k4
    have HRb := Lib.hid (row_prat hr hl)
    have HLb := Lib.hid hl
    have HOb := Lib.hid hr
    clear hr hl
    have cc := rgroupL_any 2 _ ((effI_in HG.out i1).merge HPI.out) B2 m2 cb2 HLb.out ⟨HRb.out.1, HRb.out.2.1⟩ w4 HRb.out.2.2
    go_wp2_with fail
    (with_reducible refine cc.mono ?_)
    rintro e w5 ⟨⟨B3, m3, cb3, hl, rfl, hr⟩, k5⟩
    have K5 := Go.Lib.hid (K4.out.trans (k5.mono s4))
    have s5 := K5.out.size
    clear cc k5
    have HL3 := Lib.hid hl
    have HO3 := Lib.hid (own_lower hr s4)
    clear hl hr
    go_wp2
    go_ret2
    exact ⟨⟨B3, m3, cb3, HL3.out, rfl, HO3.out⟩, K5.out⟩
  · by_cases hz : i1 = 0
    case pos =>
      have eH1 : (i1 != 0) = false := by simpa using hz
      clear hz h0
      have cc := EF.out i1 (H1.out.imp id hasB_some') w2 K2.out
      go_wp2_with fail
      (with_reducible refine cc.mono ?_)
      rintro e w3 ⟨⟨B1, m1, cb1, hl, rfl, hr⟩, k3⟩
      have K3 := Go.Lib.hid (K2.out.trans (k3.mono s2))
      have s3 := K3.out.size
      clear cc k3
      have HRa := Lib.hid (row_prat hr hl)
      have HLa := Lib.hid hl
      have HOa := Lib.hid hr
      clear hr hl
      have cc := rmergeL_any (effI l i1) pl (effI_in HG.out i1) HPI.out m1 n1 HLa.out HN1.out B1 C cb1 c1 ⟨HRa.out.1, HRa.out.2.1⟩ HC1.out w3 HRa.out.2.2 (HC.out.below K3.out (Nat.le_refl _))
      go_wp2_with fail
      (with_reducible refine cc.mono ?_)
      rintro e w4 ⟨⟨B2, m2, cb2, hl, rfl, hr⟩, k4⟩
      have K4 := Go.Lib.hid (K3.out.trans (k4.mono s3))
      have s4 := K4.out.size
      clear cc k4
      have HRb := Lib.hid (row_prat hr hl)
      have HLb := Lib.hid hl
      have HOb := Lib.hid hr
      clear hr hl
      have cc := rgroupL_any 2 _ ((effI_in HG.out i1).merge HPI.out) B2 m2 cb2 HLb.out ⟨HRb.out.1, HRb.out.2.1⟩ w4 HRb.out.2.2
      go_wp2_with fail
      (with_reducible refine cc.mono ?_)
      rintro e w5 ⟨⟨B3, m3, cb3, hl, rfl, hr⟩, k5⟩
      have K5 := Go.Lib.hid (K4.out.trans (k5.mono s4))
      have s5 := K5.out.size
      clear cc k5
      have HL3 := Lib.hid hl
      have HO3 := Lib.hid (own_lower hr s4)
      clear hl hr
      go_wp2
      go_ret2
      exact ⟨⟨B3, m3, cb3, HL3.out, rfl, HO3.out⟩, K5.out⟩
    have eH1 : (i1 != 0) = true := by simpa using hz
    clear hz
    have cq := IS.out 1 i1 w2 K2.out
    rw [h0] at cq
    clear h0
    have cc := cq
    go_wp2_with fail
    (with_reducible refine cc.mono ?_)
    rintro e w3 ⟨rfl, k3⟩
    have K3 := Go.Lib.hid (K2.out.trans (k3.mono s2))
    have s3 := K3.out.size
    clear cc k3
    clear cq
    have cc := EF.out i1 (H1.out.imp id hasB_some') w3 K3.out
    go_wp2_with fail
    (with_reducible refine cc.mono ?_)
    rintro e w4 ⟨⟨B1, m1, cb1, hl, rfl, hr⟩, k4⟩
    have K4 := Go.Lib.hid (K3.out.trans (k4.mono s3))
    have s4 := K4.out.size
    clear cc k4
    have HRa := Lib.hid (row_prat hr hl)
    have HLa := Lib.hid hl
    have HOa := Lib.hid hr
    clear hr hl
    have cc := rmergeL_any (effI l i1) pl (effI_in HG.out i1) HPI.out m1 n1 HLa.out HN1.out B1 C cb1 c1 ⟨HRa.out.1, HRa.out.2.1⟩ HC1.out w4 HRa.out.2.2 (HC.out.below K4.out (Nat.le_refl _))
    go_wp2_with fail
    (with_reducible refine cc.mono ?_)
    rintro e w5 ⟨⟨B2, m2, cb2, hl, rfl, hr⟩, k5⟩
    have K5 := Go.Lib.hid (K4.out.trans (k5.mono s4))
    have s5 := K5.out.size
    clear cc k5
    have HRb := Lib.hid (row_prat hr hl)
    have HLb := Lib.hid hl
    have HOb := Lib.hid hr
    clear hr hl
    have cc := rgroupL_any 2 _ ((effI_in HG.out i1).merge HPI.out) B2 m2 cb2 HLb.out ⟨HRb.out.1, HRb.out.2.1⟩ w5 HRb.out.2.2
    go_wp2_with fail
    (with_reducible refine cc.mono ?_)
    rintro e w6 ⟨⟨B3, m3, cb3, hl, rfl, hr⟩, k6⟩
    have K6 := Go.Lib.hid (K5.out.trans (k6.mono s5))
    have s6 := K6.out.size
    clear cc k6
    have HL3 := Lib.hid hl
    have HO3 := Lib.hid (own_lower hr s5)
    clear hl hr
    go_wp2
    go_ret2
    exact ⟨⟨B3, m3, cb3, HL3.out, rfl, HO3.out⟩, K6.out⟩
set_option maxRecDepth 100000 in
set_option maxHeartbeats 16000000 in
theorem rtext_e1 (l : List St) (hG : Good l) (A : Option Addr) (m d : Nat) (hm : l.length = m) (pl ol : List Pr) (C D : Option Addr) (n1 c1 n2 c2 : Nat) (hn1 : pl.length = n1) (hn2 : ol.length = n2) (hc1 : n1 ≤ c1 ∧ c1 ≤ maxLen) (hc2 : n2 ≤ c2 ∧ c2 ≤ maxLen) (hbad : chkP 2 pl ≠ 0)
    (w : World) (hA : LsAt w A l) (hC : PrAt w C pl) (hD : PrAt w D ol) :
    Calls Try.prog 33 #[.slice A m d, .slice C n1 c1, .slice D n2 c2] w fun e w' => e = .returned (.tuple #[.slice none 0 0, .int .i64 (chkP 2 pl)]) ∧ Below w.heap.size w w' := by
  obtain ⟨E, hE⟩ : ∃ E, chkP 2 pl = E := ⟨_, rfl⟩
  rw [hE] at hbad
  rw [hE]
  have e1 : (E != 0) = true := by simpa using hbad
  have HE := Lib.hid hE
  clear hE hbad
  have hm128 : m ≤ 128 := by rw [← hm]; exact hG.len
  have HG := Lib.hid hG
  have C1 := Lib.hid (fun w' (hb : Below w.heap.size w w') => rcheck_in 2 C n1 c1 pl hn1 hc1 (by omega) w' (hC.below hb (Nat.le_refl _)))
  have G1 := Lib.hid (fun w' (hb : Below w.heap.size w w') => rget' C n1 c1 pl hn1 hc1 20 w' (hC.below hb (Nat.le_refl _)))
  have IS := Lib.hid (fun kd i w' (hb : Below w.heap.size w w') => ris_any l m hm (by omega) A d kd i w' (hA.below hb))
  have EF := Lib.hid (fun i (hi : i = 0 ∨ (plc l i).isSome = true) w' (hb : Below w.heap.size w w') => reffI_any l hG A m d hm i hi w' (hA.below hb))
  have HC := Lib.hid hC
  have HN1 := Lib.hid hn1
  have HC1 := Lib.hid hc1
  have C2 := Lib.hid (fun w' (hb : Below w.heap.size w w') => rcheck_in 1 D n2 c2 ol hn2 hc2 (by omega) w' (hD.below hb (Nat.le_refl _)))
  have G2 := Lib.hid (fun w' (hb : Below w.heap.size w w') => rget' D n2 c2 ol hn2 hc2 1 w' (hD.below hb (Nat.le_refl _)))
  have HD := Lib.hid hD
  have HN2 := Lib.hid hn2
  have HC2 := Lib.hid hc2
  clear hD hn2 hc2
  clear hA hC hn1 hc1 hm hG
  have K0 := Go.Lib.hid (Below.refl w.heap.size w)
  have s0 := K0.out.size
  go_enter Try.func33, Try.ntmps33
  have cq := C1.out w K0.out
  rw [HE.out] at cq
  have cc := cq
  go_wp2_with fail
  (with_reducible refine cc.mono ?_)
  rintro e w1 ⟨rfl, k1⟩
  have K1 := Go.Lib.hid (K0.out.trans (k1.mono s0))
  have s1 := K1.out.size
  clear cc k1
  clear cq
  go_wp2
  go_ret2
  exact ⟨rfl, K1.out⟩
set_option maxRecDepth 100000 in
set_option maxHeartbeats 16000000 in
theorem rtext_e2 (l : List St) (hG : Good l) (A : Option Addr) (m d : Nat) (hm : l.length = m) (pl ol : List Pr) (C D : Option Addr) (n1 c1 n2 c2 : Nat) (hn1 : pl.length = n1) (hn2 : ol.length = n2) (hc1 : n1 ≤ c1 ∧ c1 ≤ maxLen) (hc2 : n2 ≤ c2 ∧ c2 ≤ maxLen) (hcp : chkP 2 pl = 0) (hbad : chkP 1 ol ≠ 0)
    (w : World) (hA : LsAt w A l) (hC : PrAt w C pl) (hD : PrAt w D ol) :
    Calls Try.prog 33 #[.slice A m d, .slice C n1 c1, .slice D n2 c2] w fun e w' => e = .returned (.tuple #[.slice none 0 0, .int .i64 (chkP 1 ol)]) ∧ Below w.heap.size w w' := by
  obtain ⟨E, hE⟩ : ∃ E, chkP 1 ol = E := ⟨_, rfl⟩
  rw [hE] at hbad
  rw [hE]
  have e1 : (E != 0) = true := by simpa using hbad
  have HE := Lib.hid hE
  clear hE hbad
  have hm128 : m ≤ 128 := by rw [← hm]; exact hG.len
  have HG := Lib.hid hG
  have C1 := Lib.hid (fun w' (hb : Below w.heap.size w w') => rcheck_in 2 C n1 c1 pl hn1 hc1 (by omega) w' (hC.below hb (Nat.le_refl _)))
  have G1 := Lib.hid (fun w' (hb : Below w.heap.size w w') => rget' C n1 c1 pl hn1 hc1 20 w' (hC.below hb (Nat.le_refl _)))
  have IS := Lib.hid (fun kd i w' (hb : Below w.heap.size w w') => ris_any l m hm (by omega) A d kd i w' (hA.below hb))
  have EF := Lib.hid (fun i (hi : i = 0 ∨ (plc l i).isSome = true) w' (hb : Below w.heap.size w w') => reffI_any l hG A m d hm i hi w' (hA.below hb))
  have HC := Lib.hid hC
  have HN1 := Lib.hid hn1
  have HC1 := Lib.hid hc1
  have C2 := Lib.hid (fun w' (hb : Below w.heap.size w w') => rcheck_in 1 D n2 c2 ol hn2 hc2 (by omega) w' (hD.below hb (Nat.le_refl _)))
  have G2 := Lib.hid (fun w' (hb : Below w.heap.size w w') => rget' D n2 c2 ol hn2 hc2 1 w' (hD.below hb (Nat.le_refl _)))
  have HD := Lib.hid hD
  have HN2 := Lib.hid hn2
  have HC2 := Lib.hid hc2
  clear hD hn2 hc2
  clear hA hC hn1 hc1 hm hG
  have K0 := Go.Lib.hid (Below.refl w.heap.size w)
  have s0 := K0.out.size
  go_enter Try.func33, Try.ntmps33
  have cq := C1.out w K0.out
  rw [hcp] at cq
  have cc := cq
  go_wp2_with fail
  (with_reducible refine cc.mono ?_)
  rintro e w1 ⟨rfl, k1⟩
  have K1 := Go.Lib.hid (K0.out.trans (k1.mono s0))
  have s1 := K1.out.size
  clear cc k1
  clear cq
  have cq := C2.out w1 K1.out
  rw [HE.out] at cq
  have cc := cq
  go_wp2_with fail
  (with_reducible refine cc.mono ?_)
  rintro e w2 ⟨rfl, k2⟩
  have K2 := Go.Lib.hid (K1.out.trans (k2.mono s1))
  have s2 := K2.out.size
  clear cc k2
  go_wp2
  go_ret2
  exact ⟨rfl, K2.out⟩
set_option maxRecDepth 100000 in
set_option maxHeartbeats 16000000 in
theorem rtext_e3 (l : List St) (hG : Good l) (A : Option Addr) (m d : Nat) (hm : l.length = m) (pl ol : List Pr) (C D : Option Addr) (n1 c1 n2 c2 : Nat) (hn1 : pl.length = n1) (hn2 : ol.length = n2) (hc1 : n1 ≤ c1 ∧ c1 ≤ maxLen) (hc2 : n2 ≤ c2 ∧ c2 ≤ maxLen) (hcp : chkP 2 pl = 0) (hco : chkP 1 ol = 0) (hbad : idOf 1 pl ≠ 0 ∧ hasB l 1 (idOf 1 pl) = false)
    (w : World) (hA : LsAt w A l) (hC : PrAt w C pl) (hD : PrAt w D ol) :
    Calls Try.prog 33 #[.slice A m d, .slice C n1 c1, .slice D n2 c2] w fun e w' => e = .returned (.tuple #[.slice none 0 0, .int .i64 (25)]) ∧ Below w.heap.size w w' := by
  have hm128 : m ≤ 128 := by rw [← hm]; exact hG.len
  have HG := Lib.hid hG
  have C1 := Lib.hid (fun w' (hb : Below w.heap.size w w') => rcheck_in 2 C n1 c1 pl hn1 hc1 (by omega) w' (hC.below hb (Nat.le_refl _)))
  have G1 := Lib.hid (fun w' (hb : Below w.heap.size w w') => rget' C n1 c1 pl hn1 hc1 20 w' (hC.below hb (Nat.le_refl _)))
  have IS := Lib.hid (fun kd i w' (hb : Below w.heap.size w w') => ris_any l m hm (by omega) A d kd i w' (hA.below hb))
  have EF := Lib.hid (fun i (hi : i = 0 ∨ (plc l i).isSome = true) w' (hb : Below w.heap.size w w') => reffI_any l hG A m d hm i hi w' (hA.below hb))
  have HC := Lib.hid hC
  have HN1 := Lib.hid hn1
  have HC1 := Lib.hid hc1
  have C2 := Lib.hid (fun w' (hb : Below w.heap.size w w') => rcheck_in 1 D n2 c2 ol hn2 hc2 (by omega) w' (hD.below hb (Nat.le_refl _)))
  have G2 := Lib.hid (fun w' (hb : Below w.heap.size w w') => rget' D n2 c2 ol hn2 hc2 1 w' (hD.below hb (Nat.le_refl _)))
  have HD := Lib.hid hD
  have HN2 := Lib.hid hn2
  have HC2 := Lib.hid hc2
  clear hD hn2 hc2
  clear hA hC hn1 hc1 hm hG
  have K0 := Go.Lib.hid (Below.refl w.heap.size w)
  have s0 := K0.out.size
  go_enter Try.func33, Try.ntmps33
  have cq := C1.out w K0.out
  rw [hcp] at cq
  have cc := cq
  go_wp2_with fail
  (with_reducible refine cc.mono ?_)
  rintro e w1 ⟨rfl, k1⟩
  have K1 := Go.Lib.hid (K0.out.trans (k1.mono s0))
  have s1 := K1.out.size
  clear cc k1
  clear cq
  have cq := C2.out w1 K1.out
  rw [hco] at cq
  have cc := cq
  go_wp2_with fail
  (with_reducible refine cc.mono ?_)
  rintro e w2 ⟨rfl, k2⟩
  have K2 := Go.Lib.hid (K1.out.trans (k2.mono s1))
  have s2 := K2.out.size
  clear cc k2
  clear cq
  have cc := G1.out w2 K2.out
  go_wp2_with fail
  (with_reducible refine cc.mono ?_)
  rintro e w3 ⟨rfl, k3⟩
  have K3 := Go.Lib.hid (K2.out.trans (k3.mono s2))
  have s3 := K3.out.size
  clear cc k3
  have cc := G2.out w3 K3.out
  go_wp2_with fail
  (with_reducible refine cc.mono ?_)
  rintro e w4 ⟨rfl, k4⟩
  have K4 := Go.Lib.hid (K3.out.trans (k4.mono s3))
  have s4 := K4.out.size
  clear cc k4
  rw [idOf_one] at hbad
  obtain ⟨hb1, hb2⟩ := hbad
  have HB2 := Lib.hid hb2
  clear hb2
  generalize getV pl 20 = i1 at *
  have e2 : (i1 != 0) = true := by simpa using hb1
  clear hb1
  have cq := IS.out 1 i1 w4 K4.out
  rw [HB2.out] at cq
  have cc := cq
  go_wp2_with fail
  (with_reducible refine cc.mono ?_)
  rintro e w5 ⟨rfl, k5⟩
  have K5 := Go.Lib.hid (K4.out.trans (k5.mono s4))
  have s5 := K5.out.size
  clear cc k5
  go_wp2
  go_ret2
  exact ⟨rfl, K5.out⟩
set_option maxRecDepth 100000 in
set_option maxHeartbeats 16000000 in
theorem rtext_e4 (l : List St) (hG : Good l) (A : Option Addr) (m d : Nat) (hm : l.length = m) (pl ol : List Pr) (C D : Option Addr) (n1 c1 n2 c2 : Nat) (hn1 : pl.length = n1) (hn2 : ol.length = n2) (hc1 : n1 ≤ c1 ∧ c1 ≤ maxLen) (hc2 : n2 ≤ c2 ∧ c2 ≤ maxLen) (hcp : chkP 2 pl = 0) (hco : chkP 1 ol = 0) (hok1 : ¬ (idOf 1 pl ≠ 0 ∧ hasB l 1 (idOf 1 pl) = false)) (hbad : idOf 2 ol ≠ 0 ∧ hasB l 2 (idOf 2 ol) = false)
    (w : World) (hA : LsAt w A l) (hC : PrAt w C pl) (hD : PrAt w D ol) :
    Calls Try.prog 33 #[.slice A m d, .slice C n1 c1, .slice D n2 c2] w fun e w' => e = .returned (.tuple #[.slice none 0 0, .int .i64 (25)]) ∧ Below w.heap.size w w' := by
  have hm128 : m ≤ 128 := by rw [← hm]; exact hG.len
  have HG := Lib.hid hG
  have C1 := Lib.hid (fun w' (hb : Below w.heap.size w w') => rcheck_in 2 C n1 c1 pl hn1 hc1 (by omega) w' (hC.below hb (Nat.le_refl _)))
  have G1 := Lib.hid (fun w' (hb : Below w.heap.size w w') => rget' C n1 c1 pl hn1 hc1 20 w' (hC.below hb (Nat.le_refl _)))
  have IS := Lib.hid (fun kd i w' (hb : Below w.heap.size w w') => ris_any l m hm (by omega) A d kd i w' (hA.below hb))
  have EF := Lib.hid (fun i (hi : i = 0 ∨ (plc l i).isSome = true) w' (hb : Below w.heap.size w w') => reffI_any l hG A m d hm i hi w' (hA.below hb))
  have HC := Lib.hid hC
  have HN1 := Lib.hid hn1
  have HC1 := Lib.hid hc1
  have C2 := Lib.hid (fun w' (hb : Below w.heap.size w w') => rcheck_in 1 D n2 c2 ol hn2 hc2 (by omega) w' (hD.below hb (Nat.le_refl _)))
  have G2 := Lib.hid (fun w' (hb : Below w.heap.size w w') => rget' D n2 c2 ol hn2 hc2 1 w' (hD.below hb (Nat.le_refl _)))
  have HD := Lib.hid hD
  have HN2 := Lib.hid hn2
  have HC2 := Lib.hid hc2
  clear hD hn2 hc2
  clear hA hC hn1 hc1 hm hG
  have K0 := Go.Lib.hid (Below.refl w.heap.size w)
  have s0 := K0.out.size
  go_enter Try.func33, Try.ntmps33
  rw [idOf_one] at hok1
  have H1 := Lib.hid (show getV pl 20 = 0 ∨ hasB l 1 (getV pl 20) = true by
    by_cases h : getV pl 20 = 0
    · exact .inl h
    · right
      cases hb : hasB l 1 (getV pl 20) with
      | true => rfl
      | false => exact absurd ⟨h, hb⟩ hok1)
  clear hok1
  rw [idOf_two] at hbad
  obtain ⟨hb1, hb2⟩ := hbad
  have HB2 := Lib.hid hb2
  clear hb2
  have cq := C1.out w K0.out
  rw [hcp] at cq
  have cc := cq
  go_wp2_with fail
  (with_reducible refine cc.mono ?_)
  rintro e w1 ⟨rfl, k1⟩
  have K1 := Go.Lib.hid (K0.out.trans (k1.mono s0))
  have s1 := K1.out.size
  clear cc k1
  clear cq
  have cq := C2.out w1 K1.out
  rw [hco] at cq
  have cc := cq
  go_wp2_with fail
  (with_reducible refine cc.mono ?_)
  rintro e w2 ⟨rfl, k2⟩
  have K2 := Go.Lib.hid (K1.out.trans (k2.mono s1))
  have s2 := K2.out.size
  clear cc k2
  clear cq
  have cc := G1.out w2 K2.out
  go_wp2_with fail
  (with_reducible refine cc.mono ?_)
  rintro e w3 ⟨rfl, k3⟩
  have K3 := Go.Lib.hid (K2.out.trans (k3.mono s2))
  have s3 := K3.out.size
  clear cc k3
  have cc := G2.out w3 K3.out
  go_wp2_with fail
  (with_reducible refine cc.mono ?_)
  rintro e w4 ⟨rfl, k4⟩
  have K4 := Go.Lib.hid (K3.out.trans (k4.mono s3))
  have s4 := K4.out.size
  clear cc k4
  generalize getV pl 20 = i1 at *
  generalize getV ol 1 = i2 at *
  have e2 : (i2 != 0) = true := by simpa using hb1
  clear hb1
  rcases H1.out with h0 | h0
  · have eH1 : (i1 != 0) = false := by simpa using h0
    clear h0
    have cq := IS.out 2 i2 w4 K4.out
    rw [HB2.out] at cq
    have cc := cq
    go_wp2_with fail
    (with_reducible refine cc.mono ?_)
    rintro e w5 ⟨rfl, k5⟩
    have K5 := Go.Lib.hid (K4.out.trans (k5.mono s4))
    have s5 := K5.out.size
    clear cc k5
    go_wp2
    go_ret2
    exact ⟨rfl, K5.out⟩
  · by_cases hz : i1 = 0
    case pos =>
      have eH1 : (i1 != 0) = false := by simpa using hz
      clear hz h0
      have cq := IS.out 2 i2 w4 K4.out
      rw [HB2.out] at cq
      have cc := cq
      go_wp2_with fail
      (with_reducible refine cc.mono ?_)
      rintro e w5 ⟨rfl, k5⟩
      have K5 := Go.Lib.hid (K4.out.trans (k5.mono s4))
      have s5 := K5.out.size
      clear cc k5
      go_wp2
      go_ret2
      exact ⟨rfl, K5.out⟩
    have eH1 : (i1 != 0) = true := by simpa using hz
    clear hz
    have cq := IS.out 1 i1 w4 K4.out
    rw [h0] at cq
    clear h0
    have cc := cq
    go_wp2_with fail
    (with_reducible refine cc.mono ?_)
    rintro e w5 ⟨rfl, k5⟩
    have K5 := Go.Lib.hid (K4.out.trans (k5.mono s4))
    have s5 := K5.out.size
    clear cc k5
    clear cq
    have cq := IS.out 2 i2 w5 K5.out
    rw [HB2.out] at cq
    have cc := cq
    go_wp2_with fail
    (with_reducible refine cc.mono ?_)
    rintro e w6 ⟨rfl, k6⟩
    have K6 := Go.Lib.hid (K5.out.trans (k6.mono s5))
    have s6 := K6.out.size
    clear cc k6
    go_wp2
    go_ret2
    exact ⟨rfl, K6.out⟩
set_option maxRecDepth 100000 in
set_option maxHeartbeats 16000000 in
theorem rtext_g (l : List St) (hG : Good l) (A : Option Addr) (m d : Nat) (hm : l.length = m) (pl ol : List Pr) (C D : Option Addr) (n1 c1 n2 c2 : Nat) (hn1 : pl.length = n1) (hn2 : ol.length = n2) (hc1 : n1 ≤ c1 ∧ c1 ≤ maxLen) (hc2 : n2 ≤ c2 ∧ c2 ≤ maxLen) (hcp : chkP 2 pl = 0) (hco : chkP 1 ol = 0) (hok1 : ¬ (idOf 1 pl ≠ 0 ∧ hasB l 1 (idOf 1 pl) = false)) (hok2 : ¬ (idOf 2 ol ≠ 0 ∧ hasB l 2 (idOf 2 ol) = false))
    (w : World) (hA : LsAt w A l) (hC : PrAt w C pl) (hD : PrAt w D ol) :
    Calls Try.prog 33 #[.slice A m d, .slice C n1 c1, .slice D n2 c2] w (OutE (mergeL (mergeL (keepP 1 (effI l (getV pl 20))) (effI l (getV ol 1))) ol) 0 w) := by
  rw [idOf_one] at hok1
  rw [idOf_two] at hok2
  have HPI := Lib.hid (chk_in (by omega) hco)
  have H1 := Lib.hid (show getV pl 20 = 0 ∨ hasB l 1 (getV pl 20) = true by
    by_cases h : getV pl 20 = 0
    · exact .inl h
    · right
      cases hb : hasB l 1 (getV pl 20) with
      | true => rfl
      | false => exact absurd ⟨h, hb⟩ hok1)
  clear hok1
  have H2 := Lib.hid (show getV ol 1 = 0 ∨ hasB l 2 (getV ol 1) = true by
    by_cases h : getV ol 1 = 0
    · exact .inl h
    · right
      cases hb : hasB l 2 (getV ol 1) with
      | true => rfl
      | false => exact absurd ⟨h, hb⟩ hok2)
  clear hok2
  have hm128 : m ≤ 128 := by rw [← hm]; exact hG.len
  have HG := Lib.hid hG
  have C1 := Lib.hid (fun w' (hb : Below w.heap.size w w') => rcheck_in 2 C n1 c1 pl hn1 hc1 (by omega) w' (hC.below hb (Nat.le_refl _)))
  have G1 := Lib.hid (fun w' (hb : Below w.heap.size w w') => rget' C n1 c1 pl hn1 hc1 20 w' (hC.below hb (Nat.le_refl _)))
  have IS := Lib.hid (fun kd i w' (hb : Below w.heap.size w w') => ris_any l m hm (by omega) A d kd i w' (hA.below hb))
  have EF := Lib.hid (fun i (hi : i = 0 ∨ (plc l i).isSome = true) w' (hb : Below w.heap.size w w') => reffI_any l hG A m d hm i hi w' (hA.below hb))
  have HC := Lib.hid hC
  have HN1 := Lib.hid hn1
  have HC1 := Lib.hid hc1
  have C2 := Lib.hid (fun w' (hb : Below w.heap.size w w') => rcheck_in 1 D n2 c2 ol hn2 hc2 (by omega) w' (hD.below hb (Nat.le_refl _)))
  have G2 := Lib.hid (fun w' (hb : Below w.heap.size w w') => rget' D n2 c2 ol hn2 hc2 1 w' (hD.below hb (Nat.le_refl _)))
  have HD := Lib.hid hD
  have HN2 := Lib.hid hn2
  have HC2 := Lib.hid hc2
  clear hD hn2 hc2
  clear hA hC hn1 hc1 hm hG
  have K0 := Go.Lib.hid (Below.refl w.heap.size w)
  have s0 := K0.out.size
  go_enter Try.func33, Try.ntmps33
  have cq := C1.out w K0.out
  rw [hcp] at cq
  have cc := cq
  go_wp2_with fail
  (with_reducible refine cc.mono ?_)
  rintro e w1 ⟨rfl, k1⟩
  have K1 := Go.Lib.hid (K0.out.trans (k1.mono s0))
  have s1 := K1.out.size
  clear cc k1
  clear cq
  have cq := C2.out w1 K1.out
  rw [hco] at cq
  have cc := cq
  go_wp2_with fail
  (with_reducible refine cc.mono ?_)
  rintro e w2 ⟨rfl, k2⟩
  have K2 := Go.Lib.hid (K1.out.trans (k2.mono s1))
  have s2 := K2.out.size
  clear cc k2
  clear cq
  have cc := G1.out w2 K2.out
  go_wp2_with fail
  (with_reducible refine cc.mono ?_)
  rintro e w3 ⟨rfl, k3⟩
  have K3 := Go.Lib.hid (K2.out.trans (k3.mono s2))
  have s3 := K3.out.size
  clear cc k3
  have cc := G2.out w3 K3.out
  go_wp2_with fail
  (with_reducible refine cc.mono ?_)
  rintro e w4 ⟨rfl, k4⟩
  have K4 := Go.Lib.hid (K3.out.trans (k4.mono s3))
  have s4 := K4.out.size
  clear cc k4
  generalize getV pl 20 = i1 at *
  generalize getV ol 1 = i2 at *
  rcases H1.out with h0 | h0
  · have eH1 : (i1 != 0) = false := by simpa using h0
    clear h0
    rcases H2.out with h0 | h0
    · have eH2 : (i2 != 0) = false := by simpa using h0
      clear h0
      have cc := EF.out i1 (H1.out.imp id hasB_some') w4 K4.out
      go_wp2_with fail
      (with_reducible refine cc.mono ?_)
      rintro e w5 ⟨⟨B1, m1, cb1, hl, rfl, hr⟩, k5⟩
      have K5 := Go.Lib.hid (K4.out.trans (k5.mono s4))
      have s5 := K5.out.size
      clear cc k5
      have HRa := Lib.hid (row_prat hr hl)
      have HLa := Lib.hid hl
      have HOa := Lib.hid hr
      clear hr hl
      have cc := rgroupL_any 1 _ (effI_in HG.out i1) B1 m1 cb1 HLa.out ⟨HRa.out.1, HRa.out.2.1⟩ w5 HRa.out.2.2
      go_wp2_with fail
      (with_reducible refine cc.mono ?_)
      rintro e w6 ⟨⟨B2, m2, cb2, hl, rfl, hr⟩, k6⟩
      have K6 := Go.Lib.hid (K5.out.trans (k6.mono s5))
      have s6 := K6.out.size
      clear cc k6
      have HRb := Lib.hid (row_prat hr hl)
      have HLb := Lib.hid hl
      have HOb := Lib.hid hr
      clear hr hl
      have cc := EF.out i2 (H2.out.imp id hasB_some') w6 K6.out
      go_wp2_with fail
      (with_reducible refine cc.mono ?_)
      rintro e w7 ⟨⟨B3, m3, cb3, hl, rfl, hr⟩, k7⟩
      have K7 := Go.Lib.hid (K6.out.trans (k7.mono s6))
      have s7 := K7.out.size
      have HRb := Lib.hid (⟨HRb.out.1, HRb.out.2.1, HRb.out.2.2.below k7 (Nat.le_refl _)⟩ : _ ∧ _ ∧ _)
      clear cc k7
      have HRc := Lib.hid (row_prat hr hl)
      have HLc := Lib.hid hl
      have HOc := Lib.hid hr
      clear hr hl
      have cc := rmergeL_any _ _ (keepP_in (effI_in HG.out i1) 1) (effI_in HG.out i2) m2 m3 HLb.out HLc.out B2 B3 cb2 cb3 ⟨HRb.out.1, HRb.out.2.1⟩ ⟨HRc.out.1, HRc.out.2.1⟩ w7 HRb.out.2.2 HRc.out.2.2
      go_wp2_with fail
      (with_reducible refine cc.mono ?_)
      rintro e w8 ⟨⟨B4, m4, cb4, hl, rfl, hr⟩, k8⟩
      have K8 := Go.Lib.hid (K7.out.trans (k8.mono s7))
      have s8 := K8.out.size
      clear cc k8
      have HRd := Lib.hid (row_prat hr hl)
      have HLd := Lib.hid hl
      have HOd := Lib.hid hr
      clear hr hl
      have cc := rmergeL_any _ ol ((keepP_in (effI_in HG.out i1) 1).merge (effI_in HG.out i2)) HPI.out m4 n2 HLd.out HN2.out B4 D cb4 c2 ⟨HRd.out.1, HRd.out.2.1⟩ HC2.out w8 HRd.out.2.2 (HD.out.below K8.out (Nat.le_refl _))
      go_wp2_with fail
      (with_reducible refine cc.mono ?_)
      rintro e w9 ⟨⟨B5, m5, cb5, hl, rfl, hr⟩, k9⟩
      have K9 := Go.Lib.hid (K8.out.trans (k9.mono s8))
      have s9 := K9.out.size
      clear cc k9
      have HL3 := Lib.hid hl
      have HO3 := Lib.hid (own_lower hr s8)
      clear hl hr
      go_wp2
      go_ret2
      exact ⟨⟨B5, m5, cb5, HL3.out, rfl, HO3.out⟩, K9.out⟩
    · by_cases hz : i2 = 0
      case pos =>
        have eH2 : (i2 != 0) = false := by simpa using hz
        clear hz h0
        have cc := EF.out i1 (H1.out.imp id hasB_some') w4 K4.out
        go_wp2_with fail
        (with_reducible refine cc.mono ?_)
        rintro e w5 ⟨⟨B1, m1, cb1, hl, rfl, hr⟩, k5⟩
        have K5 := Go.Lib.hid (K4.out.trans (k5.mono s4))
        have s5 := K5.out.size
        clear cc k5
        have HRa := Lib.hid (row_prat hr hl)
        have HLa := Lib.hid hl
        have HOa := Lib.hid hr
        clear hr hl
        have cc := rgroupL_any 1 _ (effI_in HG.out i1) B1 m1 cb1 HLa.out ⟨HRa.out.1, HRa.out.2.1⟩ w5 HRa.out.2.2
        go_wp2_with fail
        (with_reducible refine cc.mono ?_)
        rintro e w6 ⟨⟨B2, m2, cb2, hl, rfl, hr⟩, k6⟩
        have K6 := Go.Lib.hid (K5.out.trans (k6.mono s5))
        have s6 := K6.out.size
        clear cc k6
        have HRb := Lib.hid (row_prat hr hl)
        have HLb := Lib.hid hl
        have HOb := Lib.hid hr
        clear hr hl
        have cc := EF.out i2 (H2.out.imp id hasB_some') w6 K6.out
        go_wp2_with fail
        (with_reducible refine cc.mono ?_)
        rintro e w7 ⟨⟨B3, m3, cb3, hl, rfl, hr⟩, k7⟩
        have K7 := Go.Lib.hid (K6.out.trans (k7.mono s6))
        have s7 := K7.out.size
        have HRb := Lib.hid (⟨HRb.out.1, HRb.out.2.1, HRb.out.2.2.below k7 (Nat.le_refl _)⟩ : _ ∧ _ ∧ _)
        clear cc k7
        have HRc := Lib.hid (row_prat hr hl)
        have HLc := Lib.hid hl
        have HOc := Lib.hid hr
        clear hr hl
        have cc := rmergeL_any _ _ (keepP_in (effI_in HG.out i1) 1) (effI_in HG.out i2) m2 m3 HLb.out HLc.out B2 B3 cb2 cb3 ⟨HRb.out.1, HRb.out.2.1⟩ ⟨HRc.out.1, HRc.out.2.1⟩ w7 HRb.out.2.2 HRc.out.2.2
        go_wp2_with fail
        (with_reducible refine cc.mono ?_)
        rintro e w8 ⟨⟨B4, m4, cb4, hl, rfl, hr⟩, k8⟩
        have K8 := Go.Lib.hid (K7.out.trans (k8.mono s7))
        have s8 := K8.out.size
        clear cc k8
        have HRd := Lib.hid (row_prat hr hl)
        have HLd := Lib.hid hl
        have HOd := Lib.hid hr
        clear hr hl
        have cc := rmergeL_any _ ol ((keepP_in (effI_in HG.out i1) 1).merge (effI_in HG.out i2)) HPI.out m4 n2 HLd.out HN2.out B4 D cb4 c2 ⟨HRd.out.1, HRd.out.2.1⟩ HC2.out w8 HRd.out.2.2 (HD.out.below K8.out (Nat.le_refl _))
        go_wp2_with fail
        (with_reducible refine cc.mono ?_)
        rintro e w9 ⟨⟨B5, m5, cb5, hl, rfl, hr⟩, k9⟩
        have K9 := Go.Lib.hid (K8.out.trans (k9.mono s8))
        have s9 := K9.out.size
        clear cc k9
        have HL3 := Lib.hid hl
        have HO3 := Lib.hid (own_lower hr s8)
        clear hl hr
        go_wp2
        go_ret2
        exact ⟨⟨B5, m5, cb5, HL3.out, rfl, HO3.out⟩, K9.out⟩
      have eH2 : (i2 != 0) = true := by simpa using hz
      clear hz
      have cq := IS.out 2 i2 w4 K4.out
      rw [h0] at cq
      clear h0
      have cc := cq
      go_wp2_with fail
      (with_reducible refine cc.mono ?_)
      rintro e w5 ⟨rfl, k5⟩
      have K5 := Go.Lib.hid (K4.out.trans (k5.mono s4))
      have s5 := K5.out.size
      clear cc k5
      clear cq
      have cc := EF.out i1 (H1.out.imp id hasB_some') w5 K5.out
      go_wp2_with fail
      (with_reducible refine cc.mono ?_)
      rintro e w6 ⟨⟨B1, m1, cb1, hl, rfl, hr⟩, k6⟩
      have K6 := Go.Lib.hid (K5.out.trans (k6.mono s5))
      have s6 := K6.out.size
      clear cc k6
      have HRa := Lib.hid (row_prat hr hl)
      have HLa := Lib.hid hl
      have HOa := Lib.hid hr
      clear hr hl
      have cc := rgroupL_any 1 _ (effI_in HG.out i1) B1 m1 cb1 HLa.out ⟨HRa.out.1, HRa.out.2.1⟩ w6 HRa.out.2.2
      go_wp2_with fail
      (with_reducible refine cc.mono ?_)
      rintro e w7 ⟨⟨B2, m2, cb2, hl, rfl, hr⟩, k7⟩
      have K7 := Go.Lib.hid (K6.out.trans (k7.mono s6))
      have s7 := K7.out.size
      clear cc k7
      have HRb := Lib.hid (row_prat hr hl)
      have HLb := Lib.hid hl
      have HOb := Lib.hid hr
      clear hr hl
      have cc := EF.out i2 (H2.out.imp id hasB_some') w7 K7.out
      go_wp2_with fail
      (with_reducible refine cc.mono ?_)
      rintro e w8 ⟨⟨B3, m3, cb3, hl, rfl, hr⟩, k8⟩
      have K8 := Go.Lib.hid (K7.out.trans (k8.mono s7))
      have s8 := K8.out.size
      have HRb := Lib.hid (⟨HRb.out.1, HRb.out.2.1, HRb.out.2.2.below k8 (Nat.le_refl _)⟩ : _ ∧ _ ∧ _)
      clear cc k8
      have HRc := Lib.hid (row_prat hr hl)
      have HLc := Lib.hid hl
      have HOc := Lib.hid hr
      clear hr hl
      have cc := rmergeL_any _ _ (keepP_in (effI_in HG.out i1) 1) (effI_in HG.out i2) m2 m3 HLb.out HLc.out B2 B3 cb2 cb3 ⟨HRb.out.1, HRb.out.2.1⟩ ⟨HRc.out.1, HRc.out.2.1⟩ w8 HRb.out.2.2 HRc.out.2.2
      go_wp2_with fail
      (with_reducible refine cc.mono ?_)
      rintro e w9 ⟨⟨B4, m4, cb4, hl, rfl, hr⟩, k9⟩
      have K9 := Go.Lib.hid (K8.out.trans (k9.mono s8))
      have s9 := K9.out.size
      clear cc k9
      have HRd := Lib.hid (row_prat hr hl)
      have HLd := Lib.hid hl
      have HOd := Lib.hid hr
      clear hr hl
      have cc := rmergeL_any _ ol ((keepP_in (effI_in HG.out i1) 1).merge (effI_in HG.out i2)) HPI.out m4 n2 HLd.out HN2.out B4 D cb4 c2 ⟨HRd.out.1, HRd.out.2.1⟩ HC2.out w9 HRd.out.2.2 (HD.out.below K9.out (Nat.le_refl _))
      go_wp2_with fail
      (with_reducible refine cc.mono ?_)
      rintro e w10 ⟨⟨B5, m5, cb5, hl, rfl, hr⟩, k10⟩
      have K10 := Go.Lib.hid (K9.out.trans (k10.mono s9))
      have s10 := K10.out.size
      clear cc k10
      have HL3 := Lib.hid hl
      have HO3 := Lib.hid (own_lower hr s9)
      clear hl hr
      go_wp2
      go_ret2
      exact ⟨⟨B5, m5, cb5, HL3.out, rfl, HO3.out⟩, K10.out⟩
  · by_cases hz : i1 = 0
    case pos =>
      have eH1 : (i1 != 0) = false := by simpa using hz
      clear hz h0
      rcases H2.out with h0 | h0
      · have eH2 : (i2 != 0) = false := by simpa using h0
        clear h0
        have cc := EF.out i1 (H1.out.imp id hasB_some') w4 K4.out
        go_wp2_with fail
        (with_reducible refine cc.mono ?_)
        rintro e w5 ⟨⟨B1, m1, cb1, hl, rfl, hr⟩, k5⟩
        have K5 := Go.Lib.hid (K4.out.trans (k5.mono s4))
        have s5 := K5.out.size
        clear cc k5
        have HRa := Lib.hid (row_prat hr hl)
        have HLa := Lib.hid hl
        have HOa := Lib.hid hr
        clear hr hl
        have cc := rgroupL_any 1 _ (effI_in HG.out i1) B1 m1 cb1 HLa.out ⟨HRa.out.1, HRa.out.2.1⟩ w5 HRa.out.2.2
        go_wp2_with fail
        (with_reducible refine cc.mono ?_)
        rintro e w6 ⟨⟨B2, m2, cb2, hl, rfl, hr⟩, k6⟩
        have K6 := Go.Lib.hid (K5.out.trans (k6.mono s5))
        have s6 := K6.out.size
        clear cc k6
        have HRb := Lib.hid (row_prat hr hl)
        have HLb := Lib.hid hl
        have HOb := Lib.hid hr
        clear hr hl
        have cc := EF.out i2 (H2.out.imp id hasB_some') w6 K6.out
        go_wp2_with fail
        (with_reducible refine cc.mono ?_)
        rintro e w7 ⟨⟨B3, m3, cb3, hl, rfl, hr⟩, k7⟩
        have K7 := Go.Lib.hid (K6.out.trans (k7.mono s6))
        have s7 := K7.out.size
        have HRb := Lib.hid (⟨HRb.out.1, HRb.out.2.1, HRb.out.2.2.below k7 (Nat.le_refl _)⟩ : _ ∧ _ ∧ _)
        clear cc k7
        have HRc := Lib.hid (row_prat hr hl)
        have HLc := Lib.hid hl
        have HOc := Lib.hid hr
        clear hr hl
        have cc := rmergeL_any _ _ (keepP_in (effI_in HG.out i1) 1) (effI_in HG.out i2) m2 m3 HLb.out HLc.out B2 B3 cb2 cb3 ⟨HRb.out.1, HRb.out.2.1⟩ ⟨HRc.out.1, HRc.out.2.1⟩ w7 HRb.out.2.2 HRc.out.2.2
        go_wp2_with fail
        (with_reducible refine cc.mono ?_)
        rintro e w8 ⟨⟨B4, m4, cb4, hl, rfl, hr⟩, k8⟩
        have K8 := Go.Lib.hid (K7.out.trans (k8.mono s7))
        have s8 := K8.out.size
        clear cc k8
        have HRd := Lib.hid (row_prat hr hl)
        have HLd := Lib.hid hl
        have HOd := Lib.hid hr
        clear hr hl
        have cc := rmergeL_any _ ol ((keepP_in (effI_in HG.out i1) 1).merge (effI_in HG.out i2)) HPI.out m4 n2 HLd.out HN2.out B4 D cb4 c2 ⟨HRd.out.1, HRd.out.2.1⟩ HC2.out w8 HRd.out.2.2 (HD.out.below K8.out (Nat.le_refl _))
        go_wp2_with fail
        (with_reducible refine cc.mono ?_)
        rintro e w9 ⟨⟨B5, m5, cb5, hl, rfl, hr⟩, k9⟩
        have K9 := Go.Lib.hid (K8.out.trans (k9.mono s8))
        have s9 := K9.out.size
        clear cc k9
        have HL3 := Lib.hid hl
        have HO3 := Lib.hid (own_lower hr s8)
        clear hl hr
        go_wp2
        go_ret2
        exact ⟨⟨B5, m5, cb5, HL3.out, rfl, HO3.out⟩, K9.out⟩
      · by_cases hz : i2 = 0
        case pos =>
          have eH2 : (i2 != 0) = false := by simpa using hz
          clear hz h0
          have cc := EF.out i1 (H1.out.imp id hasB_some') w4 K4.out
          go_wp2_with fail
          (with_reducible refine cc.mono ?_)
          rintro e w5 ⟨⟨B1, m1, cb1, hl, rfl, hr⟩, k5⟩
          have K5 := Go.Lib.hid (K4.out.trans (k5.mono s4))
          have s5 := K5.out.size
          clear cc k5
          have HRa := Lib.hid (row_prat hr hl)
          have HLa := Lib.hid hl
          have HOa := Lib.hid hr
          clear hr hl
          have cc := rgroupL_any 1 _ (effI_in HG.out i1) B1 m1 cb1 HLa.out ⟨HRa.out.1, HRa.out.2.1⟩ w5 HRa.out.2.2
          go_wp2_with fail
          (with_reducible refine cc.mono ?_)
          rintro e w6 ⟨⟨B2, m2, cb2, hl, rfl, hr⟩, k6⟩
          have K6 := Go.Lib.hid (K5.out.trans (k6.mono s5))
          have s6 := K6.out.size
          clear cc k6
          have HRb := Lib.hid (row_prat hr hl)
          have HLb := Lib.hid hl
          have HOb := Lib.hid hr
          clear hr hl
          have cc := EF.out i2 (H2.out.imp id hasB_some') w6 K6.out
          go_wp2_with fail
          (with_reducible refine cc.mono ?_)
          rintro e w7 ⟨⟨B3, m3, cb3, hl, rfl, hr⟩, k7⟩
          have K7 := Go.Lib.hid (K6.out.trans (k7.mono s6))
          have s7 := K7.out.size
          have HRb := Lib.hid (⟨HRb.out.1, HRb.out.2.1, HRb.out.2.2.below k7 (Nat.le_refl _)⟩ : _ ∧ _ ∧ _)
          clear cc k7
          have HRc := Lib.hid (row_prat hr hl)
          have HLc := Lib.hid hl
          have HOc := Lib.hid hr
          clear hr hl
          have cc := rmergeL_any _ _ (keepP_in (effI_in HG.out i1) 1) (effI_in HG.out i2) m2 m3 HLb.out HLc.out B2 B3 cb2 cb3 ⟨HRb.out.1, HRb.out.2.1⟩ ⟨HRc.out.1, HRc.out.2.1⟩ w7 HRb.out.2.2 HRc.out.2.2
          go_wp2_with fail
          (with_reducible refine cc.mono ?_)
          rintro e w8 ⟨⟨B4, m4, cb4, hl, rfl, hr⟩, k8⟩
          have K8 := Go.Lib.hid (K7.out.trans (k8.mono s7))
          have s8 := K8.out.size
          clear cc k8
          have HRd := Lib.hid (row_prat hr hl)
          have HLd := Lib.hid hl
          have HOd := Lib.hid hr
          clear hr hl
          have cc := rmergeL_any _ ol ((keepP_in (effI_in HG.out i1) 1).merge (effI_in HG.out i2)) HPI.out m4 n2 HLd.out HN2.out B4 D cb4 c2 ⟨HRd.out.1, HRd.out.2.1⟩ HC2.out w8 HRd.out.2.2 (HD.out.below K8.out (Nat.le_refl _))
          go_wp2_with fail
          (with_reducible refine cc.mono ?_)
          rintro e w9 ⟨⟨B5, m5, cb5, hl, rfl, hr⟩, k9⟩
          have K9 := Go.Lib.hid (K8.out.trans (k9.mono s8))
          have s9 := K9.out.size
          clear cc k9
          have HL3 := Lib.hid hl
          have HO3 := Lib.hid (own_lower hr s8)
          clear hl hr
          go_wp2
          go_ret2
          exact ⟨⟨B5, m5, cb5, HL3.out, rfl, HO3.out⟩, K9.out⟩
        have eH2 : (i2 != 0) = true := by simpa using hz
        clear hz
        have cq := IS.out 2 i2 w4 K4.out
        rw [h0] at cq
        clear h0
        have cc := cq
        go_wp2_with fail
        (with_reducible refine cc.mono ?_)
        rintro e w5 ⟨rfl, k5⟩
        have K5 := Go.Lib.hid (K4.out.trans (k5.mono s4))
        have s5 := K5.out.size
        clear cc k5
        clear cq
        have cc := EF.out i1 (H1.out.imp id hasB_some') w5 K5.out
        go_wp2_with fail
        (with_reducible refine cc.mono ?_)
        rintro e w6 ⟨⟨B1, m1, cb1, hl, rfl, hr⟩, k6⟩
        have K6 := Go.Lib.hid (K5.out.trans (k6.mono s5))
        have s6 := K6.out.size
        clear cc k6
        have HRa := Lib.hid (row_prat hr hl)
        have HLa := Lib.hid hl
        have HOa := Lib.hid hr
        clear hr hl
        have cc := rgroupL_any 1 _ (effI_in HG.out i1) B1 m1 cb1 HLa.out ⟨HRa.out.1, HRa.out.2.1⟩ w6 HRa.out.2.2
        go_wp2_with fail
        (with_reducible refine cc.mono ?_)
        rintro e w7 ⟨⟨B2, m2, cb2, hl, rfl, hr⟩, k7⟩
        have K7 := Go.Lib.hid (K6.out.trans (k7.mono s6))
        have s7 := K7.out.size
        clear cc k7
        have HRb := Lib.hid (row_prat hr hl)
        have HLb := Lib.hid hl
        have HOb := Lib.hid hr
        clear hr hl
        have cc := EF.out i2 (H2.out.imp id hasB_some') w7 K7.out
        go_wp2_with fail
        (with_reducible refine cc.mono ?_)
        rintro e w8 ⟨⟨B3, m3, cb3, hl, rfl, hr⟩, k8⟩
        have K8 := Go.Lib.hid (K7.out.trans (k8.mono s7))
        have s8 := K8.out.size
        have HRb := Lib.hid (⟨HRb.out.1, HRb.out.2.1, HRb.out.2.2.below k8 (Nat.le_refl _)⟩ : _ ∧ _ ∧ _)
        clear cc k8
        have HRc := Lib.hid (row_prat hr hl)
        have HLc := Lib.hid hl
        have HOc := Lib.hid hr
        clear hr hl
        have cc := rmergeL_any _ _ (keepP_in (effI_in HG.out i1) 1) (effI_in HG.out i2) m2 m3 HLb.out HLc.out B2 B3 cb2 cb3 ⟨HRb.out.1, HRb.out.2.1⟩ ⟨HRc.out.1, HRc.out.2.1⟩ w8 HRb.out.2.2 HRc.out.2.2
        go_wp2_with fail
        (with_reducible refine cc.mono ?_)
        rintro e w9 ⟨⟨B4, m4, cb4, hl, rfl, hr⟩, k9⟩
        have K9 := Go.Lib.hid (K8.out.trans (k9.mono s8))
        have s9 := K9.out.size
        clear cc k9
        have HRd := Lib.hid (row_prat hr hl)
        have HLd := Lib.hid hl
        have HOd := Lib.hid hr
        clear hr hl
        have cc := rmergeL_any _ ol ((keepP_in (effI_in HG.out i1) 1).merge (effI_in HG.out i2)) HPI.out m4 n2 HLd.out HN2.out B4 D cb4 c2 ⟨HRd.out.1, HRd.out.2.1⟩ HC2.out w9 HRd.out.2.2 (HD.out.below K9.out (Nat.le_refl _))
        go_wp2_with fail
        (with_reducible refine cc.mono ?_)
        rintro e w10 ⟨⟨B5, m5, cb5, hl, rfl, hr⟩, k10⟩
        have K10 := Go.Lib.hid (K9.out.trans (k10.mono s9))
        have s10 := K10.out.size
        clear cc k10
        have HL3 := Lib.hid hl
        have HO3 := Lib.hid (own_lower hr s9)
        clear hl hr
        go_wp2
        go_ret2
        exact ⟨⟨B5, m5, cb5, HL3.out, rfl, HO3.out⟩, K10.out⟩
    have eH1 : (i1 != 0) = true := by simpa using hz
    clear hz
    have cq := IS.out 1 i1 w4 K4.out
    rw [h0] at cq
    clear h0
    have cc := cq
    go_wp2_with fail
    (with_reducible refine cc.mono ?_)
    rintro e w5 ⟨rfl, k5⟩
    have K5 := Go.Lib.hid (K4.out.trans (k5.mono s4))
    have s5 := K5.out.size
    clear cc k5
    clear cq
    rcases H2.out with h0 | h0
    · have eH2 : (i2 != 0) = false := by simpa using h0
      clear h0
      have cc := EF.out i1 (H1.out.imp id hasB_some') w5 K5.out
      go_wp2_with fail
      (with_reducible refine cc.mono ?_)
      rintro e w6 ⟨⟨B1, m1, cb1, hl, rfl, hr⟩, k6⟩
      have K6 := Go.Lib.hid (K5.out.trans (k6.mono s5))
      have s6 := K6.out.size
      clear cc k6
      have HRa := Lib.hid (row_prat hr hl)
      have HLa := Lib.hid hl
      have HOa := Lib.hid hr
      clear hr hl
      have cc := rgroupL_any 1 _ (effI_in HG.out i1) B1 m1 cb1 HLa.out ⟨HRa.out.1, HRa.out.2.1⟩ w6 HRa.out.2.2
      go_wp2_with fail
      (with_reducible refine cc.mono ?_)
      rintro e w7 ⟨⟨B2, m2, cb2, hl, rfl, hr⟩, k7⟩
      have K7 := Go.Lib.hid (K6.out.trans (k7.mono s6))
      have s7 := K7.out.size
      clear cc k7
      have HRb := Lib.hid (row_prat hr hl)
      have HLb := Lib.hid hl
      have HOb := Lib.hid hr
      clear hr hl
      have cc := EF.out i2 (H2.out.imp id hasB_some') w7 K7.out
      go_wp2_with fail
      (with_reducible refine cc.mono ?_)
      rintro e w8 ⟨⟨B3, m3, cb3, hl, rfl, hr⟩, k8⟩
      have K8 := Go.Lib.hid (K7.out.trans (k8.mono s7))
      have s8 := K8.out.size
      have HRb := Lib.hid (⟨HRb.out.1, HRb.out.2.1, HRb.out.2.2.below k8 (Nat.le_refl _)⟩ : _ ∧ _ ∧ _)
      clear cc k8
      have HRc := Lib.hid (row_prat hr hl)
      have HLc := Lib.hid hl
      have HOc := Lib.hid hr
      clear hr hl
      have cc := rmergeL_any _ _ (keepP_in (effI_in HG.out i1) 1) (effI_in HG.out i2) m2 m3 HLb.out HLc.out B2 B3 cb2 cb3 ⟨HRb.out.1, HRb.out.2.1⟩ ⟨HRc.out.1, HRc.out.2.1⟩ w8 HRb.out.2.2 HRc.out.2.2
      go_wp2_with fail
      (with_reducible refine cc.mono ?_)
      rintro e w9 ⟨⟨B4, m4, cb4, hl, rfl, hr⟩, k9⟩
      have K9 := Go.Lib.hid (K8.out.trans (k9.mono s8))
      have s9 := K9.out.size
      clear cc k9
      have HRd := Lib.hid (row_prat hr hl)
      have HLd := Lib.hid hl
      have HOd := Lib.hid hr
      clear hr hl
      have cc := rmergeL_any _ ol ((keepP_in (effI_in HG.out i1) 1).merge (effI_in HG.out i2)) HPI.out m4 n2 HLd.out HN2.out B4 D cb4 c2 ⟨HRd.out.1, HRd.out.2.1⟩ HC2.out w9 HRd.out.2.2 (HD.out.below K9.out (Nat.le_refl _))
      go_wp2_with fail
      (with_reducible refine cc.mono ?_)
      rintro e w10 ⟨⟨B5, m5, cb5, hl, rfl, hr⟩, k10⟩
      have K10 := Go.Lib.hid (K9.out.trans (k10.mono s9))
      have s10 := K10.out.size
      clear cc k10
      have HL3 := Lib.hid hl
      have HO3 := Lib.hid (own_lower hr s9)
      clear hl hr
      go_wp2
      go_ret2
      exact ⟨⟨B5, m5, cb5, HL3.out, rfl, HO3.out⟩, K10.out⟩
    · by_cases hz : i2 = 0
      case pos =>
        have eH2 : (i2 != 0) = false := by simpa using hz
        clear hz h0
        have cc := EF.out i1 (H1.out.imp id hasB_some') w5 K5.out
        go_wp2_with fail
        (with_reducible refine cc.mono ?_)
        rintro e w6 ⟨⟨B1, m1, cb1, hl, rfl, hr⟩, k6⟩
        have K6 := Go.Lib.hid (K5.out.trans (k6.mono s5))
        have s6 := K6.out.size
        clear cc k6
        have HRa := Lib.hid (row_prat hr hl)
        have HLa := Lib.hid hl
        have HOa := Lib.hid hr
        clear hr hl
        have cc := rgroupL_any 1 _ (effI_in HG.out i1) B1 m1 cb1 HLa.out ⟨HRa.out.1, HRa.out.2.1⟩ w6 HRa.out.2.2
        go_wp2_with fail
        (with_reducible refine cc.mono ?_)
        rintro e w7 ⟨⟨B2, m2, cb2, hl, rfl, hr⟩, k7⟩
        have K7 := Go.Lib.hid (K6.out.trans (k7.mono s6))
        have s7 := K7.out.size
        clear cc k7
        have HRb := Lib.hid (row_prat hr hl)
        have HLb := Lib.hid hl
        have HOb := Lib.hid hr
        clear hr hl
        have cc := EF.out i2 (H2.out.imp id hasB_some') w7 K7.out
        go_wp2_with fail
        (with_reducible refine cc.mono ?_)
        rintro e w8 ⟨⟨B3, m3, cb3, hl, rfl, hr⟩, k8⟩
        have K8 := Go.Lib.hid (K7.out.trans (k8.mono s7))
        have s8 := K8.out.size
        have HRb := Lib.hid (⟨HRb.out.1, HRb.out.2.1, HRb.out.2.2.below k8 (Nat.le_refl _)⟩ : _ ∧ _ ∧ _)
        clear cc k8
        have HRc := Lib.hid (row_prat hr hl)
        have HLc := Lib.hid hl
        have HOc := Lib.hid hr
        clear hr hl
        have cc := rmergeL_any _ _ (keepP_in (effI_in HG.out i1) 1) (effI_in HG.out i2) m2 m3 HLb.out HLc.out B2 B3 cb2 cb3 ⟨HRb.out.1, HRb.out.2.1⟩ ⟨HRc.out.1, HRc.out.2.1⟩ w8 HRb.out.2.2 HRc.out.2.2
        go_wp2_with fail
        (with_reducible refine cc.mono ?_)
        rintro e w9 ⟨⟨B4, m4, cb4, hl, rfl, hr⟩, k9⟩
        have K9 := Go.Lib.hid (K8.out.trans (k9.mono s8))
        have s9 := K9.out.size
        clear cc k9
        have HRd := Lib.hid (row_prat hr hl)
        have HLd := Lib.hid hl
        have HOd := Lib.hid hr
        clear hr hl
        have cc := rmergeL_any _ ol ((keepP_in (effI_in HG.out i1) 1).merge (effI_in HG.out i2)) HPI.out m4 n2 HLd.out HN2.out B4 D cb4 c2 ⟨HRd.out.1, HRd.out.2.1⟩ HC2.out w9 HRd.out.2.2 (HD.out.below K9.out (Nat.le_refl _))
        go_wp2_with fail
        (with_reducible refine cc.mono ?_)
        rintro e w10 ⟨⟨B5, m5, cb5, hl, rfl, hr⟩, k10⟩
        have K10 := Go.Lib.hid (K9.out.trans (k10.mono s9))
        have s10 := K10.out.size
        clear cc k10
        have HL3 := Lib.hid hl
        have HO3 := Lib.hid (own_lower hr s9)
        clear hl hr
        go_wp2
        go_ret2
        exact ⟨⟨B5, m5, cb5, HL3.out, rfl, HO3.out⟩, K10.out⟩
      have eH2 : (i2 != 0) = true := by simpa using hz
      clear hz
      have cq := IS.out 2 i2 w5 K5.out
      rw [h0] at cq
      clear h0
      have cc := cq
      go_wp2_with fail
      (with_reducible refine cc.mono ?_)
      rintro e w6 ⟨rfl, k6⟩
      have K6 := Go.Lib.hid (K5.out.trans (k6.mono s5))
      have s6 := K6.out.size
      clear cc k6
      clear cq
      have cc := EF.out i1 (H1.out.imp id hasB_some') w6 K6.out
      go_wp2_with fail
      (with_reducible refine cc.mono ?_)
      rintro e w7 ⟨⟨B1, m1, cb1, hl, rfl, hr⟩, k7⟩
      have K7 := Go.Lib.hid (K6.out.trans (k7.mono s6))
      have s7 := K7.out.size
      clear cc k7
      have HRa := Lib.hid (row_prat hr hl)
      have HLa := Lib.hid hl
      have HOa := Lib.hid hr
      clear hr hl
      have cc := rgroupL_any 1 _ (effI_in HG.out i1) B1 m1 cb1 HLa.out ⟨HRa.out.1, HRa.out.2.1⟩ w7 HRa.out.2.2
      go_wp2_with fail
      (with_reducible refine cc.mono ?_)
      rintro e w8 ⟨⟨B2, m2, cb2, hl, rfl, hr⟩, k8⟩
      have K8 := Go.Lib.hid (K7.out.trans (k8.mono s7))
      have s8 := K8.out.size
      clear cc k8
      have HRb := Lib.hid (row_prat hr hl)
      have HLb := Lib.hid hl
      have HOb := Lib.hid hr
      clear hr hl
      have cc := EF.out i2 (H2.out.imp id hasB_some') w8 K8.out
      go_wp2_with fail
      (with_reducible refine cc.mono ?_)
      rintro e w9 ⟨⟨B3, m3, cb3, hl, rfl, hr⟩, k9⟩
      have K9 := Go.Lib.hid (K8.out.trans (k9.mono s8))
      have s9 := K9.out.size
      have HRb := Lib.hid (⟨HRb.out.1, HRb.out.2.1, HRb.out.2.2.below k9 (Nat.le_refl _)⟩ : _ ∧ _ ∧ _)
      clear cc k9
      have HRc := Lib.hid (row_prat hr hl)
      have HLc := Lib.hid hl
      have HOc := Lib.hid hr
      clear hr hl
      have cc := rmergeL_any _ _ (keepP_in (effI_in HG.out i1) 1) (effI_in HG.out i2) m2 m3 HLb.out HLc.out B2 B3 cb2 cb3 ⟨HRb.out.1, HRb.out.2.1⟩ ⟨HRc.out.1, HRc.out.2.1⟩ w9 HRb.out.2.2 HRc.out.2.2
      go_wp2_with fail
      (with_reducible refine cc.mono ?_)
      rintro e w10 ⟨⟨B4, m4, cb4, hl, rfl, hr⟩, k10⟩
      have K10 := Go.Lib.hid (K9.out.trans (k10.mono s9))
      have s10 := K10.out.size
      clear cc k10
      have HRd := Lib.hid (row_prat hr hl)
      have HLd := Lib.hid hl
      have HOd := Lib.hid hr
      clear hr hl
      have cc := rmergeL_any _ ol ((keepP_in (effI_in HG.out i1) 1).merge (effI_in HG.out i2)) HPI.out m4 n2 HLd.out HN2.out B4 D cb4 c2 ⟨HRd.out.1, HRd.out.2.1⟩ HC2.out w10 HRd.out.2.2 (HD.out.below K10.out (Nat.le_refl _))
      go_wp2_with fail
      (with_reducible refine cc.mono ?_)
      rintro e w11 ⟨⟨B5, m5, cb5, hl, rfl, hr⟩, k11⟩
      have K11 := Go.Lib.hid (K10.out.trans (k11.mono s10))
      have s11 := K11.out.size
      clear cc k11
      have HL3 := Lib.hid hl
      have HO3 := Lib.hid (own_lower hr s10)
      clear hl hr
      go_wp2
      go_ret2
      exact ⟨⟨B5, m5, cb5, HL3.out, rfl, HO3.out⟩, K11.out⟩
set_option maxRecDepth 100000 in
set_option maxHeartbeats 16000000 in
theorem rPara_any (l : List St) (hG : Good l) (A : Option Addr) (m d : Nat) (hm : l.length = m) (pl : List Pr) (C : Option Addr) (n1 c1 : Nat) (hn1 : pl.length = n1) (hc1 : n1 ≤ c1 ∧ c1 ≤ maxLen) 
    (w : World) (hA : LsAt w A l) (hC : PrAt w C pl) :
    Calls Try.prog 32 #[.slice A m d, .slice C n1 c1] w (OutE (parL l pl) (parE l pl) w) := by
  by_cases a1 : chkP 2 pl = 0
  case neg =>
    have e1 : parE l pl = chkP 2 pl := by unfold parE; rw [if_pos a1]
    have e2 : parL l pl = [] := by unfold parL; rw [if_pos (by rw [e1]; exact a1)]
    rw [e1, e2]
    exact (rpara_e1 l hG A m d hm pl C n1 c1 hn1 hc1 a1 w hA hC).mono fun _ _ h => OutE.none h
  by_cases a2 : idOf 1 pl ≠ 0 ∧ hasB l 1 (idOf 1 pl) = false
  · have e1 : parE l pl = 25 := by unfold parE; rw [if_neg (by simp [a1]), if_pos a2]
    have e2 : parL l pl = [] := by unfold parL; rw [if_pos (by rw [e1]; decide)]
    rw [e1, e2]
    exact (rpara_e2 l hG A m d hm pl C n1 c1 hn1 hc1 a1 a2 w hA hC).mono fun _ _ h => OutE.none h
  · have e1 : parE l pl = 0 := by unfold parE; rw [if_neg (by simp [a1]), if_neg a2]
    have e2 : parL l pl = keepP 2 (mergeL (effI l (getV pl 20)) pl) := by unfold parL; rw [if_neg (by simp [e1]), idOf_one]
    rw [e1, e2]
    exact rpara_g l hG A m d hm pl C n1 c1 hn1 hc1 a1 a2 w hA hC
theorem chn_ex {l : List St} (h : Good l) (i : Int) : ∃ xs, ChP l (plc l i) xs ∧ nxt l (plc l i) xs = none := by
  have key : ∀ d pre, ChP l (plc l i) pre → l.length + 1 - pre.length ≤ d → ∃ xs, ChP l (plc l i) xs ∧ nxt l (plc l i) xs = none := by
    intro d
    induction d with
    | zero => intro pre hc hd; have := h.bound hc; omega
    | succ d ih =>
      intro pre hc hd
      cases hn : nxt l (plc l i) pre with
      | none => exact ⟨pre, hc, hn⟩
      | some k =>
        refine ih (pre ++ [k]) (hc.snoc hn) ?_
        rw [List.length_append, List.length_singleton]
        omega
  exact key _ [] (ChP.nil _ _) (Nat.le_refl _)
theorem chn_spec {l : List St} (h : Good l) (i : Int) : ChP l (plc l i) (chn l i) ∧ nxt l (plc l i) (chn l i) = none := by
  obtain ⟨xs, h1, h2⟩ := chn_ex h i
  rw [chn_eq h1 h2]
  exact ⟨h1, h2⟩
set_option maxRecDepth 100000 in
set_option maxHeartbeats 16000000 in
theorem rText_any (l : List St) (hG : Good l) (A : Option Addr) (m d : Nat) (hm : l.length = m) (pl ol : List Pr) (C D : Option Addr) (n1 c1 n2 c2 : Nat) (hn1 : pl.length = n1) (hn2 : ol.length = n2) (hc1 : n1 ≤ c1 ∧ c1 ≤ maxLen) (hc2 : n2 ≤ c2 ∧ c2 ≤ maxLen) 
    (w : World) (hA : LsAt w A l) (hC : PrAt w C pl) (hD : PrAt w D ol) :
    Calls Try.prog 33 #[.slice A m d, .slice C n1 c1, .slice D n2 c2] w (OutE (txtL l pl ol) (txtE l pl ol) w) := by
  by_cases a1 : chkP 2 pl = 0
  case neg =>
    have e1 : txtE l pl ol = chkP 2 pl := by unfold txtE; rw [if_pos a1]
    have e2 : txtL l pl ol = [] := by unfold txtL; rw [if_pos (by rw [e1]; exact a1)]
    rw [e1, e2]
    exact (rtext_e1 l hG A m d hm pl ol C D n1 c1 n2 c2 hn1 hn2 hc1 hc2 a1 w hA hC hD).mono fun _ _ h => OutE.none h
  by_cases a3 : chkP 1 ol = 0
  case neg =>
    have e1 : txtE l pl ol = chkP 1 ol := by unfold txtE; rw [if_neg (by simp [a1]), if_pos a3]
    have e2 : txtL l pl ol = [] := by unfold txtL; rw [if_pos (by rw [e1]; exact a3)]
    rw [e1, e2]
    exact (rtext_e2 l hG A m d hm pl ol C D n1 c1 n2 c2 hn1 hn2 hc1 hc2 a1 a3 w hA hC hD).mono fun _ _ h => OutE.none h
  by_cases a2 : idOf 1 pl ≠ 0 ∧ hasB l 1 (idOf 1 pl) = false
  · have e1 : txtE l pl ol = 25 := by unfold txtE; rw [if_neg (by simp [a1]), if_neg (by simp [a3]), if_pos a2]
    have e2 : txtL l pl ol = [] := by unfold txtL; rw [if_pos (by rw [e1]; decide)]
    rw [e1, e2]
    exact (rtext_e3 l hG A m d hm pl ol C D n1 c1 n2 c2 hn1 hn2 hc1 hc2 a1 a3 a2 w hA hC hD).mono fun _ _ h => OutE.none h
  by_cases a4 : idOf 2 ol ≠ 0 ∧ hasB l 2 (idOf 2 ol) = false
  · have e1 : txtE l pl ol = 25 := by unfold txtE; rw [if_neg (by simp [a1]), if_neg (by simp [a3]), if_neg a2, if_pos a4]
    have e2 : txtL l pl ol = [] := by unfold txtL; rw [if_pos (by rw [e1]; decide)]
    rw [e1, e2]
    exact (rtext_e4 l hG A m d hm pl ol C D n1 c1 n2 c2 hn1 hn2 hc1 hc2 a1 a3 a2 a4 w hA hC hD).mono fun _ _ h => OutE.none h
  · have e1 : txtE l pl ol = 0 := by unfold txtE; rw [if_neg (by simp [a1]), if_neg (by simp [a3]), if_neg a2, if_neg a4]
    have hb2 : getV ol 1 = 0 ∨ hasB l 2 (getV ol 1) = true := by
      rw [idOf_two] at a4
      by_cases h : getV ol 1 = 0
      · exact .inl h
      · right
        cases hb : hasB l 2 (getV ol 1) with
        | true => rfl
        | false => exact absurd ⟨h, hb⟩ a4
    have e2 : txtL l pl ol = mergeL (mergeL (keepP 1 (effI l (getV pl 20))) (effI l (getV ol 1))) ol := by
      unfold txtL
      rw [if_neg (by simp [e1]), idOf_one, idOf_two]
      exact text_eq hG a3 hb2 (chn_spec hG _).1
    rw [e1, e2]
    exact rtext_g l hG A m d hm pl ol C D n1 c1 n2 c2 hn1 hn2 hc1 hc2 a1 a3 a2 a4 w hA hC hD
end Go.Proofs.Ytbkpokipibgdfaa
