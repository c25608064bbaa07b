/- Layer 7: the law of Merge. -/
import Derived.Test.YtjdjfokfilnnoaaJD
namespace Go.Proofs.Ytjdjfokfilnnoaa
open Go.RowKit Go.Lib

theorem requal_same (A B : Option Addr) (n m c d : Nat) (l l' : List Pr) (hl : l.length = n) (hl' : l'.length = m) (hc : n ≤ c ∧ c ≤ maxLen) (hd : m ≤ d ∧ d ≤ maxLen) (he : l = l') (w : World) (hA : PrAt w A l) (hB : PrAt w B l') :
    Calls Try.prog 35 #[.slice A n c, .slice B m d] w fun e w' => e = .returned (.bool true) ∧ Below w.heap.size w w' :=
  (requal_any A B n m c d l l' hl hl' hc hd w hA hB).mono fun _ _ ⟨h1, h2⟩ => ⟨by rw [h1, decide_eq_true he], h2⟩
theorem ordered_outN (A : Option Addr) (len c : Nat) (l : List Pr) (hl : l.length = len) (hc : len ≤ c ∧ c ≤ maxLen) (w : World) (hA : PrAt w A l) : Calls Try.prog 29 #[.slice A len c] w (OutN (ordP l) w) :=
  (ordered_any A len c l hl hc w hA).mono fun _ _ h => h.outN
set_option maxRecDepth 100000 in
set_option maxHeartbeats 16000000 in
theorem merges_in (Aa Ab Ac : Option Addr) (ma mb mc ka kb kc : Nat) (za zb zc oa ob oc : List Pr) (sa : Srt oa) (sb : Srt ob) (sc : Srt oc) (qa : oa.length ≤ 60) (qb : ob.length ≤ 60) (qc : oc.length ≤ 60)
    (cOa : ∀ w, PrAt w Aa za → Calls Try.prog 29 #[.slice Aa ma ka] w (OutN oa w)) (cOb : ∀ w, PrAt w Ab zb → Calls Try.prog 29 #[.slice Ab mb kb] w (OutN ob w)) (cOc : ∀ w, PrAt w Ac zc → Calls Try.prog 29 #[.slice Ac mc kc] w (OutN oc w))
    (w : World) (ha : PrAt w Aa za) (hb : PrAt w Ab zb) (hc : PrAt w Ac zc) :
    Calls Try.prog 10 #[.slice Aa ma ka, .slice Ab mb kb, .slice Ac mc kc] w fun e w' => e = .returned (.bool true) ∧ Below w.heap.size w w' := by
  have cK := fun w' => known_any w'
  go_enter Try.func10, Try.ntmps10
  go_wp2_with fail
  refine (cOa _ ha).mono ?_
  rintro e w1 ⟨B1, n1, c1, rfl, l1, x1, y1, Q1, hb1⟩
  have Prb_1 := hb.below hb1 (Nat.le_refl _)
  have Prc_1 := hc.below hb1 (Nat.le_refl _)
  have HBB1 := hb1
  have HL1 := Go.Lib.hid l1
  clear hb hc hb1 l1
  have La : n1 ≤ 60 := by have := qa; rw [HL1.out] at this; exact this
  go_wp2_with fail
  refine (cOb _ Prb_1).mono ?_
  rintro e w2 ⟨B2, n2, c2, rfl, l2, x2, y2, Q2, hb2⟩
  have Prc_2 := Prc_1.below hb2 (Nat.le_refl _)
  have Poa_2 := Q1.below hb2 (Nat.le_refl _)
  have HBB2 := HBB1.trans (hb2.mono HBB1.size)
  have HL2 := Go.Lib.hid l2
  clear Prc_1 Q1 HBB1 hb2 l2
  have Lb : n2 ≤ 60 := by have := qb; rw [HL2.out] at this; exact this
  go_wp2_with fail
  refine (cOc _ Prc_2).mono ?_
  rintro e w3 ⟨B3, n3, c3, rfl, l3, x3, y3, Q3, hb3⟩
  have Poa_3 := Poa_2.below hb3 (Nat.le_refl _)
  have Pob_3 := Q2.below hb3 (Nat.le_refl _)
  have HBB3 := HBB2.trans (hb3.mono HBB2.size)
  have HL3 := Go.Lib.hid l3
  clear Poa_2 Q2 HBB2 hb3 l3
  have Lc : n3 ≤ 60 := by have := qc; rw [HL3.out] at this; exact this
  go_wp2_with fail
  refine (merge_out _ _ _ _ _ _ oa ob HL1.out HL2.out ⟨x1, y1⟩ ⟨x2, y2⟩ (by omega) (by omega) _ Poa_3 Pob_3).mono ?_
  rintro e w4 ⟨B4, n4, c4, rfl, l4, x4, y4, Q4, hb4⟩
  have Poa_4 := Poa_3.below hb4 (Nat.le_refl _)
  have Pob_4 := Pob_3.below hb4 (Nat.le_refl _)
  have Poc_4 := Q3.below hb4 (Nat.le_refl _)
  have HBB4 := HBB3.trans (hb4.mono HBB3.size)
  have HL4 := Go.Lib.hid l4
  clear Poa_3 Pob_3 Q3 HBB3 hb4 l4
  have Lm1 : n4 ≤ 120 := by have h3 := HL4.out; have h0 := merge_len oa ob; have h1 := HL1.out; have h2 := HL2.out; omega
  go_wp2_with fail
  refine (cK _).mono ?_
  rintro e w5 ⟨rfl, hb5⟩
  have Poa_5 := Poa_4.below hb5 (Nat.le_refl _)
  have Pob_5 := Pob_4.below hb5 (Nat.le_refl _)
  have Poc_5 := Poc_4.below hb5 (Nat.le_refl _)
  have Pm1_5 := Q4.below hb5 (Nat.le_refl _)
  have HBB5 := HBB4.trans (hb5.mono HBB4.size)
  clear Poa_4 Pob_4 Poc_4 Q4 HBB4 hb5
  go_wp2_with fail
  refine (rmerge_any _ _ _ _ _ _ oa ob HL1.out HL2.out ⟨x1, y1⟩ ⟨x2, y2⟩ (by omega) (by omega) _ Poa_5 Pob_5).mono ?_
  rintro e w6 ⟨B6, n6, c6, rfl, l6, x6, y6, Q6, hb6⟩
  have Poa_6 := Poa_5.below hb6 (Nat.le_refl _)
  have Pob_6 := Pob_5.below hb6 (Nat.le_refl _)
  have Poc_6 := Poc_5.below hb6 (Nat.le_refl _)
  have Pm1_6 := Pm1_5.below hb6 (Nat.le_refl _)
  have HBB6 := HBB5.trans (hb6.mono HBB5.size)
  have HL6 := Go.Lib.hid l6
  clear Poa_5 Pob_5 Poc_5 Pm1_5 HBB5 hb6 l6
  go_wp2_with fail
  refine (requal_same _ _ _ _ _ _ (mergeP oa ob) (rmergeP oa ob) HL4.out HL6.out ⟨x4, y4⟩ ⟨x6, y6⟩ (rmerge_eq sa sb).symm _ Pm1_6 Q6).mono ?_
  rintro e w7 ⟨rfl, hb7⟩
  have Poa_7 := Poa_6.below hb7 (Nat.le_refl _)
  have Pob_7 := Pob_6.below hb7 (Nat.le_refl _)
  have Poc_7 := Poc_6.below hb7 (Nat.le_refl _)
  have Pm1_7 := Pm1_6.below hb7 (Nat.le_refl _)
  have Pr1_7 := Q6.below hb7 (Nat.le_refl _)
  have HBB7 := HBB6.trans (hb7.mono HBB6.size)
  clear Poa_6 Pob_6 Poc_6 Pm1_6 Q6 HBB6 hb7
  go_wp2_with fail
  refine (merge_out _ _ _ _ _ _ (mergeP oa ob) oc HL4.out HL3.out ⟨x4, y4⟩ ⟨x3, y3⟩ (by omega) (by omega) _ Pm1_7 Poc_7).mono ?_
  rintro e w8 ⟨B8, n8, c8, rfl, l8, x8, y8, Q8, hb8⟩
  have Poa_8 := Poa_7.below hb8 (Nat.le_refl _)
  have Pob_8 := Pob_7.below hb8 (Nat.le_refl _)
  have Poc_8 := Poc_7.below hb8 (Nat.le_refl _)
  have Pm1_8 := Pm1_7.below hb8 (Nat.le_refl _)
  have Pr1_8 := Pr1_7.below hb8 (Nat.le_refl _)
  have HBB8 := HBB7.trans (hb8.mono HBB7.size)
  have HL8 := Go.Lib.hid l8
  clear Poa_7 Pob_7 Poc_7 Pm1_7 Pr1_7 HBB7 hb8 l8
  have Lm2 : n8 ≤ 180 := by have h3 := HL8.out; have h0 := merge_len (mergeP oa ob) oc; have h1 := HL4.out; have h2 := HL3.out; omega
  go_wp2_with fail
  refine (merge_out _ _ _ _ _ _ ob oc HL2.out HL3.out ⟨x2, y2⟩ ⟨x3, y3⟩ (by omega) (by omega) _ Pob_8 Poc_8).mono ?_
  rintro e w9 ⟨B9, n9, c9, rfl, l9, x9, y9, Q9, hb9⟩
  have Poa_9 := Poa_8.below hb9 (Nat.le_refl _)
  have Pob_9 := Pob_8.below hb9 (Nat.le_refl _)
  have Poc_9 := Poc_8.below hb9 (Nat.le_refl _)
  have Pm1_9 := Pm1_8.below hb9 (Nat.le_refl _)
  have Pr1_9 := Pr1_8.below hb9 (Nat.le_refl _)
  have Pm2_9 := Q8.below hb9 (Nat.le_refl _)
  have HBB9 := HBB8.trans (hb9.mono HBB8.size)
  have HL9 := Go.Lib.hid l9
  clear Poa_8 Pob_8 Poc_8 Pm1_8 Pr1_8 Q8 HBB8 hb9 l9
  have Lm3 : n9 ≤ 120 := by have h3 := HL9.out; have h0 := merge_len ob oc; have h1 := HL2.out; have h2 := HL3.out; omega
  go_wp2_with fail
  refine (merge_out _ _ _ _ _ _ oa (mergeP ob oc) HL1.out HL9.out ⟨x1, y1⟩ ⟨x9, y9⟩ (by omega) (by omega) _ Poa_9 Q9).mono ?_
  rintro e w10 ⟨B10, n10, c10, rfl, l10, x10, y10, Q10, hb10⟩
  have Poa_10 := Poa_9.below hb10 (Nat.le_refl _)
  have Pob_10 := Pob_9.below hb10 (Nat.le_refl _)
  have Poc_10 := Poc_9.below hb10 (Nat.le_refl _)
  have Pm1_10 := Pm1_9.below hb10 (Nat.le_refl _)
  have Pr1_10 := Pr1_9.below hb10 (Nat.le_refl _)
  have Pm2_10 := Pm2_9.below hb10 (Nat.le_refl _)
  have Pm3_10 := Q9.below hb10 (Nat.le_refl _)
  have HBB10 := HBB9.trans (hb10.mono HBB9.size)
  have HL10 := Go.Lib.hid l10
  clear Poa_9 Pob_9 Poc_9 Pm1_9 Pr1_9 Pm2_9 Q9 HBB9 hb10 l10
  have Lm4 : n10 ≤ 180 := by have h3 := HL10.out; have h0 := merge_len oa (mergeP ob oc); have h1 := HL1.out; have h2 := HL9.out; omega
  go_wp2_with fail
  refine (requal_same _ _ _ _ _ _ (mergeP (mergeP oa ob) oc) (mergeP oa (mergeP ob oc)) HL8.out HL10.out ⟨x8, y8⟩ ⟨x10, y10⟩ (merge_assoc sa sb sc) _ Pm2_10 Q10).mono ?_
  rintro e w11 ⟨rfl, hb11⟩
  have Poa_11 := Poa_10.below hb11 (Nat.le_refl _)
  have Pob_11 := Pob_10.below hb11 (Nat.le_refl _)
  have Poc_11 := Poc_10.below hb11 (Nat.le_refl _)
  have Pm1_11 := Pm1_10.below hb11 (Nat.le_refl _)
  have Pr1_11 := Pr1_10.below hb11 (Nat.le_refl _)
  have Pm2_11 := Pm2_10.below hb11 (Nat.le_refl _)
  have Pm3_11 := Pm3_10.below hb11 (Nat.le_refl _)
  have Pm4_11 := Q10.below hb11 (Nat.le_refl _)
  have HBB11 := HBB10.trans (hb11.mono HBB10.size)
  clear Poa_10 Pob_10 Poc_10 Pm1_10 Pr1_10 Pm2_10 Pm3_10 Q10 HBB10 hb11
  go_wp2_with fail
  refine (merge_out _ _ _ _ _ _ oa oa HL1.out HL1.out ⟨x1, y1⟩ ⟨x1, y1⟩ (by omega) (by omega) _ Poa_11 Poa_11).mono ?_
  rintro e w12 ⟨B12, n12, c12, rfl, l12, x12, y12, Q12, hb12⟩
  have Poa_12 := Poa_11.below hb12 (Nat.le_refl _)
  have Pob_12 := Pob_11.below hb12 (Nat.le_refl _)
  have Poc_12 := Poc_11.below hb12 (Nat.le_refl _)
  have Pm1_12 := Pm1_11.below hb12 (Nat.le_refl _)
  have Pr1_12 := Pr1_11.below hb12 (Nat.le_refl _)
  have Pm2_12 := Pm2_11.below hb12 (Nat.le_refl _)
  have Pm3_12 := Pm3_11.below hb12 (Nat.le_refl _)
  have Pm4_12 := Pm4_11.below hb12 (Nat.le_refl _)
  have HBB12 := HBB11.trans (hb12.mono HBB11.size)
  have HL12 := Go.Lib.hid l12
  clear Poa_11 Pob_11 Poc_11 Pm1_11 Pr1_11 Pm2_11 Pm3_11 Pm4_11 HBB11 hb12 l12
  have Lm5 : n12 ≤ 120 := by have h3 := HL12.out; have h0 := merge_len oa oa; have h1 := HL1.out; have h2 := HL1.out; omega
  go_wp2_with fail
  refine (requal_same _ _ _ _ _ _ (mergeP oa oa) oa HL12.out HL1.out ⟨x12, y12⟩ ⟨x1, y1⟩ (merge_self sa) _ Q12 Poa_12).mono ?_
  rintro e w13 ⟨rfl, hb13⟩
  have Poa_13 := Poa_12.below hb13 (Nat.le_refl _)
  have Pob_13 := Pob_12.below hb13 (Nat.le_refl _)
  have Poc_13 := Poc_12.below hb13 (Nat.le_refl _)
  have Pm1_13 := Pm1_12.below hb13 (Nat.le_refl _)
  have Pr1_13 := Pr1_12.below hb13 (Nat.le_refl _)
  have Pm2_13 := Pm2_12.below hb13 (Nat.le_refl _)
  have Pm3_13 := Pm3_12.below hb13 (Nat.le_refl _)
  have Pm4_13 := Pm4_12.below hb13 (Nat.le_refl _)
  have Pm5_13 := Q12.below hb13 (Nat.le_refl _)
  have HBB13 := HBB12.trans (hb13.mono HBB12.size)
  clear Poa_12 Pob_12 Poc_12 Pm1_12 Pr1_12 Pm2_12 Pm3_12 Pm4_12 Q12 HBB12 hb13
  go_wp2
  go_ret
  exact ⟨rfl, HBB13⟩
theorem law_merges (A : Option Addr) (len c : Nat) (l : List Pr) (B : Option Addr) (len' c' : Nat) (l' : List Pr) (C : Option Addr) (len'' c'' : Nat) (l'' : List Pr) (w : World) (hA : PropsIn w A len c l) (hB : PropsIn w B len' c' l') (hC : PropsIn w C len'' c'' l'') :
    Calls Try.prog 10 #[.slice A len c, .slice B len' c', .slice C len'' c''] w fun e w' => e = .returned (.bool true) ∧ Below w.heap.size w w' :=
  merges_in A B C len len' len'' c c' c'' l l' l'' _ _ _ (srt_iff.1 (ordP_sort l)) (srt_iff.1 (ordP_sort l')) (srt_iff.1 (ordP_sort l'')) (ordP_len l) (ordP_len l') (ordP_len l'')
    (fun w h => ordered_outN A len c l hA.1 ⟨hA.2.1, hA.2.2.1⟩ w h) (fun w h => ordered_outN B len' c' l' hB.1 ⟨hB.2.1, hB.2.2.1⟩ w h) (fun w h => ordered_outN C len'' c'' l'' hC.1 ⟨hC.2.1, hC.2.2.1⟩ w h) w hA.2.2.2.1 hB.2.2.2.1 hC.2.2.2.1
end Go.Proofs.Ytjdjfokfilnnoaa
