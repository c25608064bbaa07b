/- Layer 7: the law of Diff. -/
import Derived.Test.YtjdjfokfilnnoaaQ3
import Derived.Test.YtjdjfokfilnnoaaKs
namespace Go.Proofs.Ytjdjfokfilnnoaa
open Go.RowKit Go.Lib

set_option maxRecDepth 100000 in
set_option maxHeartbeats 40000000 in
theorem diffs_in (A B : Option Addr) (mA cA mB cB : Nat) (za zb a b : List Pr) (hsa : SortP a) (hsb : SortP b) (ha : a.length ≤ 60) (hb : b.length ≤ 60) (cOa : ∀ w, PrAt w A za → Calls Try.prog 29 #[.slice A mA cA] w (OutN a w)) (cOb : ∀ w, PrAt w B zb → Calls Try.prog 29 #[.slice B mB cB] w (OutN b w)) (w : World) (hA : PrAt w A za) (hB : PrAt w B zb) :
    Calls Try.prog 11 #[.slice A mA cA, .slice B mB cB] w fun e w' => e = .returned (.bool true) ∧ Below w.heap.size w w' := by
  have cK := fun w' => known_any w'
  have SA := Go.Lib.hid hsa
  have SB := Go.Lib.hid hsb
  have HLA := Go.Lib.hid ha
  have HLB := Go.Lib.hid hb
  clear hsa hsb ha hb
  go_enter Try.func11, Try.ntmps11
  go_wp2_with fail
  refine (cOa _ hA).mono ?_
  rintro e w1 ⟨Aa, na, ca, rfl, la, xa, ya, Qa, hb1⟩
  have Hna := Go.Lib.hid la
  have hB1 := hB.below hb1 (Nat.le_refl _)
  clear hA hB cOa la
  go_wp2_with fail
  refine (cOb _ hB1).mono ?_
  rintro e w2 ⟨Ab, nb, cb, rfl, lb, xb, yb, Qb, hb2⟩
  have Hnb := Go.Lib.hid lb
  have Pa2 := Qa.below hb2 (Nat.le_refl _)
  have HB2 : Below w.heap.size w w2 := hb1.trans (hb2.mono hb1.size)
  clear hB1 cOb lb Qa hb1 hb2
  go_wp2_with fail
  refine (cK _).mono ?_
  rintro e w3 ⟨rfl, hb3⟩
  have Pa3 := Pa2.below hb3 (Nat.le_refl _)
  have Pb3 := Qb.below hb3 (Nat.le_refl _)
  have HB3 : Below w.heap.size w w3 := HB2.trans (hb3.mono HB2.size)
  have hna : na ≤ 60 := by have := Hna.out; have := HLA.out; omega
  have hnb : nb ≤ 60 := by have := Hnb.out; have := HLB.out; omega
  clear Pa2 Qb HB2 hb3 cK
  have cD := fun w' hP hQ => diff_out Aa Ab na nb ca cb a b Hna.out Hnb.out ⟨xa, ya⟩ ⟨xb, yb⟩ (by omega) (by omega) w' hP hQ
  go_wp2_with fail
  refine (cD _ Pa3 Pb3).mono ?_
  rintro e w4 ⟨Ad, nd, cd, rfl, ld, xd, yd, Qd, hb4⟩
  have Hnd := Go.Lib.hid ld
  have hnd : nd ≤ 120 := by have h := diff_len a b; have := Hna.out; have := Hnb.out; omega
  have PA := Go.Lib.hid (Pa3.below hb4 (Nat.le_refl _))
  have PB := Go.Lib.hid (Pb3.below hb4 (Nat.le_refl _))
  have PD := Go.Lib.hid Qd
  have HW := Go.Lib.hid (HB3.trans (hb4.mono HB3.size))
  clear Pa3 Pb3 Qd HB3 hb4 cD ld
  obtain ⟨l, hl⟩ : ∃ l, diffP a b = l := ⟨_, rfl⟩
  have HDL := Go.Lib.hid hl
  have PD2 : Hid (ChAt w4 Ad l) := by rw [← hl]; exact PD
  have Hnd2 : Hid (l.length = nd) := by rw [← hl]; exact Hnd
  clear hl PD Hnd
  go_wp2
  go_loopw [6, 8] (fun lv i wr => ∃ (k : Nat) (last : Int), lv = .int .i64 last ∧ i = .int .i64 k ∧ k ≤ nd ∧ Hid (∀ h : k < l.length, 0 < k → last < l[k].1) ∧ Hid (Below w4.heap.size w4 wr)) (fun _ i _ => nd - (RowKit.intOf i).toNat)
  case atStart => exact ⟨0, 0, rfl, rfl, Nat.zero_le _, Go.Lib.hid (fun _ h => absurd h (Nat.lt_irrefl _)), Go.Lib.hid (Below.refl _ _)⟩
  case round =>
    obtain ⟨k, last, rfl, rfl, hk, HLS, HBW⟩ := hrel
    by_cases hlt : k < nd
    · have hkl : k < l.length := by rw [Hnd2.out]; exact hlt
      rcases PD2.out with h0 | ⟨g, o, rfl, hg, hcl⟩
      · rw [h0] at hkl; exact absurd hkl (Nat.not_lt_zero _)
      obtain ⟨h0, h1, h2, h3, h4⟩ := hcl k hkl
      obtain ⟨p, hp⟩ : ∃ p, l[k].1 = p := ⟨_, rfl⟩
      have hkd : k < (diffP a b).length := by rw [HDL.out]; exact hkl
      have hpd : (diffP a b)[k].1 = p := by simp only [HDL.out]; exact hp
      have hat := diff_at (srt_iff.1 SA.out) (srt_iff.1 SB.out) hkd hpd
      have his := diff_is (srt_iff.1 SA.out) (srt_iff.1 SB.out) hkd hpd
      have hup := diff_lt (srt_iff.1 SA.out) (srt_iff.1 SB.out) hkd hpd
      simp only [HDL.out] at hat hup
      have HNX := Go.Lib.hid hup
      rw [hat] at h0 h1 h2 h3 h4
      dsimp only at h0 h1 h2 h3 h4
      have hlow : 0 < k → last < p := fun h => by have := HLS.out hkl h; rw [hp] at this; exact this
      have c0 := (HBW.out.cell (p := ⟨g, o + k * 5, none⟩) hg).trans h0
      have c1 := (HBW.out.cell (p := ⟨g, o + k * 5 + 1, none⟩) hg).trans h1
      have c2 := (HBW.out.cell (p := ⟨g, o + k * 5 + 2, none⟩) hg).trans h2
      have c3 := (HBW.out.cell (p := ⟨g, o + k * 5 + 3, none⟩) hg).trans h3
      have c4 := (HBW.out.cell (p := ⟨g, o + k * 5 + 4, none⟩) hg).trans h4
      clear h0 h1 h2 h3 h4 hcl hp hkd hpd hat hup hkl HLS
      have cGa := fun w' hD => rget_any Aa na ca a Hna.out ⟨xa, ya⟩ p w' hD
      have cGb := fun w' hD => rget_any Ab nb cb b Hnb.out ⟨xb, yb⟩ p w' hD
      unfold difK at his
      generalize getV a p = va at cGa his c1
      generalize getV b p = vb at cGb his c2
      generalize getB a p = ba at cGa his c3
      generalize getB b p = bb at cGb his c4
      have Pa := PA.out.below HBW.out (Nat.le_refl _)
      have Pb := PB.out.below HBW.out (Nat.le_refl _)
      have q0 : (0 : Int) ≤ (k : Int) := by omega
      have q1 : (k : Int) < (nd : Int) := by omega
      go_wp2_with fail
      refine (cGa _ Pa).mono ?_
      rintro e w5 ⟨rfl, rfl⟩
      go_wp2_with fail
      refine (cGb _ Pb).mono ?_
      rintro e w6 ⟨rfl, rfl⟩
      clear cGa cGb Pa Pb
      by_cases hk0 : 0 < k
      · have hlp := hlow hk0
        have hle : ¬ p ≤ last := by omega
        have hki : (0 : Int) < (k : Int) := by omega
        clear hlow hlp
        cases ba <;> cases bb
        all_goals
          first
            | (have hv : (va == vb) = false := by simpa using his
               clear his)
            | clear his
          go_wp2
          go_quiet (fail)
          go_wp2
          go_roundw
          case rel => exact ⟨k + 1, p, rfl, by go_num, by omega, HNX, Go.Lib.hid (bdrew HBW.out _)⟩
          case measure => simp [RowKit.intOf]; omega
      · have hki : ¬ (0 : Int) < (k : Int) := by omega
        clear hlow
        cases ba <;> cases bb
        all_goals
          first
            | (have hv : (va == vb) = false := by simpa using his
               clear his)
            | clear his
          go_wp2
          go_quiet (fail)
          go_wp2
          go_roundw
          case rel => exact ⟨k + 1, p, rfl, by go_num, by omega, HNX, Go.Lib.hid (bdrew HBW.out _)⟩
          case measure => simp [RowKit.intOf]; omega
    · obtain rfl : nd = k := by omega
      have PA5 := PA.out.below HBW.out (Nat.le_refl _)
      have PB5 := PB.out.below HBW.out (Nat.le_refl _)
      have PD5 := PD2.out.below HBW.out
      have HW5 := HW.out.trans (HBW.out.mono HW.out.size)
      clear HLS HBW PA PB PD2 HW
      have cM := fun w' hP hQ => rmerge_any Aa Ab na nb ca cb a b Hna.out Hnb.out ⟨xa, ya⟩ ⟨xb, yb⟩ (by omega) (by omega) w' hP hQ
      rw [rmerge_eq (srt_iff.1 SA.out) (srt_iff.1 SB.out)] at cM
      go_wp2_with fail
      refine (cM _ PA5 PB5).mono ?_
      rintro e w7 ⟨Am, nm, cm, rfl, lm, xm, ym, Qm, hb7⟩
      have hnm : nm ≤ 120 := by have h := merge_len a b; have := Hna.out; have := Hnb.out; omega
      have Hnm := Go.Lib.hid lm
      have HCA := Go.Lib.hid (cnt_all (srt_iff.1 SA.out) (srt_iff.1 SB.out))
      have PA := Go.Lib.hid (PA5.below hb7 (Nat.le_refl _))
      have PB := Go.Lib.hid (PB5.below hb7 (Nat.le_refl _))
      have PD := Go.Lib.hid (PD5.below hb7)
      have PM := Go.Lib.hid Qm
      have HW := Go.Lib.hid (HW5.trans (hb7.mono HW5.size))
      clear PA5 PB5 PD5 HW5 hb7 Qm cM lm
      obtain ⟨M, hM⟩ : ∃ M, mergeP a b = M := ⟨_, rfl⟩
      rw [hM] at Hnm PM HCA
      clear hM
      go_wp2
      go_loopw [7, 14] (fun c i wr => ∃ (k ct : Nat), c = .int .i64 ct ∧ i = .int .i64 k ∧ k ≤ nm ∧ ct ≤ k ∧ Hid (ct = cntP a b M k) ∧ Hid (Below w7.heap.size w7 wr)) (fun _ i _ => nm - (RowKit.intOf i).toNat)
      case atStart => exact ⟨0, 0, rfl, rfl, Nat.zero_le _, Nat.le_refl _, Go.Lib.hid rfl, Go.Lib.hid (Below.refl _ _)⟩
      case round =>
        obtain ⟨k, ct, rfl, rfl, hk, hct, HCT, HBW⟩ := hrel
        by_cases hlt : k < nm
        · have hkl : k < M.length := by rw [Hnm.out]; exact hlt
          rcases PM.out with h0 | ⟨g, o, rfl, hg, hcl⟩
          · rw [h0] at hkl; exact absurd hkl (Nat.not_lt_zero _)
          obtain ⟨h0, h00⟩ := hcl k hkl
          obtain ⟨p, hp⟩ : ∃ p, M[k].1 = p := ⟨_, rfl⟩
          rw [hp] at h0
          have HNX := Go.Lib.hid (cnt_next (a := a) (b := b) hkl hp)
          have c0 := (HBW.out.cell (p := ⟨g, o + k * 2, none⟩) hg).trans h0
          clear h0 h00 hcl hp hkl
          have cGa := fun w' hD => rget_any Aa na ca a Hna.out ⟨xa, ya⟩ p w' hD
          have cGb := fun w' hD => rget_any Ab nb cb b Hnb.out ⟨xb, yb⟩ p w' hD
          have hdk : difK a b p = ((getB a p != getB b p) || (getV a p != getV b p)) := rfl
          generalize getV a p = va at cGa hdk
          generalize getV b p = vb at cGb hdk
          generalize getB a p = ba at cGa hdk
          generalize getB b p = bb at cGb hdk
          have HDK := Go.Lib.hid hdk
          clear hdk
          have Pa := PA.out.below HBW.out (Nat.le_refl _)
          have Pb := PB.out.below HBW.out (Nat.le_refl _)
          have q0 : (0 : Int) ≤ (k : Int) := by omega
          have q1 : (k : Int) < (nm : Int) := by omega
          go_wp2_with fail
          refine (cGa _ Pa).mono ?_
          rintro e w8 ⟨rfl, rfl⟩
          go_wp2_with fail
          refine (cGb _ Pb).mono ?_
          rintro e w9 ⟨rfl, rfl⟩
          clear cGa cGb Pa Pb
          cases he : (va == vb) <;> cases ba <;> cases bb
          all_goals
            first
              | (have HN2 : Hid (cntP a b M (k + 1) = ct + 1) := Go.Lib.hid (by have h := HNX.out; rw [HDK.out, ← HCT.out] at h; simpa [bne, he] using h)
                 have hv : (va != vb) = true := by simpa [bne] using he
                 go_wp2
                 go_roundw
                 case rel => exact ⟨k + 1, ct + 1, by go_num, by go_num, by omega, by omega, Go.Lib.hid HN2.out.symm, HBW⟩
                 case measure => simp [RowKit.intOf]; omega)
              | (have HN2 : Hid (cntP a b M (k + 1) = ct + 1) := Go.Lib.hid (by have h := HNX.out; rw [HDK.out, ← HCT.out] at h; simpa [bne, he] using h)
                 go_wp2
                 go_roundw
                 case rel => exact ⟨k + 1, ct + 1, by go_num, by go_num, by omega, by omega, Go.Lib.hid HN2.out.symm, HBW⟩
                 case measure => simp [RowKit.intOf]; omega)
              | (have HN2 : Hid (cntP a b M (k + 1) = ct) := Go.Lib.hid (by have h := HNX.out; rw [HDK.out, ← HCT.out] at h; simpa [bne, he] using h)
                 have hv : (va != vb) = false := by simpa [bne] using he
                 go_wp2
                 go_roundw
                 case rel => exact ⟨k + 1, ct, by go_num, by go_num, by omega, by omega, Go.Lib.hid HN2.out.symm, HBW⟩
                 case measure => simp [RowKit.intOf]; omega)
        · obtain rfl : nm = k := by omega
          have hcn : ct = nd := by
            have h1 := HCT.out
            have h2 := HCA.out
            rw [Hnm.out, HDL.out, Hnd2.out] at h2
            exact h1.trans h2
          subst hcn
          have Pa := PA.out.below HBW.out (Nat.le_refl _)
          have Pb := PB.out.below HBW.out (Nat.le_refl _)
          have Pd := PD.out.below HBW.out
          have hbw := HW.out.trans (HBW.out.mono HW.out.size)
          clear HCT HBW PA PB PD PM HW HCA
          have cX := fun w' hP hQ => apply_any Aa Ad na ct ca cd a l SA.out Hna.out Hnd2.out ⟨xa, ya⟩ ⟨xd, yd⟩ (by omega) (by omega) w' hP hQ
          have hap : applyP a l = some b := by rw [← HDL.out]; exact apply_diff (srt_iff.1 SA.out) (srt_iff.1 SB.out)
          have haq : applyP b (inverseP l) = some a := by rw [← HDL.out]; exact apply_inverse (srt_iff.1 SA.out) (srt_iff.1 SB.out)
          rw [hap] at cX
          have HAQ := Go.Lib.hid haq
          clear hap haq
          go_wp2_with fail
          refine (cX _ Pa Pd).mono ?_
          rintro e w8 ⟨Ax, nx, cx, rfl, lx, xx, yx, Qx, hb8⟩
          have Hnx := Go.Lib.hid lx
          have Pa8 := Pa.below hb8 (Nat.le_refl _)
          have Pb8 := Pb.below hb8 (Nat.le_refl _)
          have Pd8 := Pd.below hb8
          have hw8 := hbw.trans (hb8.mono hbw.size)
          clear Pa Pb Pd hbw hb8 lx cX
          go_wp2_with fail
          refine (inverse_out Ad ct cd l Hnd2.out (by omega) _ Pd8).mono ?_
          rintro e w9 ⟨Ai, ni, ci, rfl, li, xi, yi, Qi, hb9⟩
          have Hni := Go.Lib.hid li
          have hni : ni ≤ 120 := by have h := li; unfold inverseP at h; rw [List.length_map, List.length_reverse, Hnd2.out] at h; omega
          have Pa9 := Pa8.below hb9 (Nat.le_refl _)
          have Pb9 := Pb8.below hb9 (Nat.le_refl _)
          have Px9 := Qx.below hb9 (Nat.le_refl _)
          have hw9 := hw8.trans (hb9.mono hw8.size)
          clear Pa8 Pb8 Pd8 Qx hw8 hb9 li
          have cY := fun w' hP hQ => apply_any Ab Ai nb ni cb ci b (inverseP l) SB.out Hnb.out Hni.out ⟨xb, yb⟩ ⟨xi, yi⟩ (by omega) (by omega) w' hP hQ
          rw [HAQ.out] at cY
          go_wp2_with fail
          refine (cY _ Pb9 Qi).mono ?_
          rintro e w10 ⟨Ay, ny, cy, rfl, ly, xy, yy, Qy, hb10⟩
          have Hny := Go.Lib.hid ly
          have Pa10 := Pa9.below hb10 (Nat.le_refl _)
          have Pb10 := Pb9.below hb10 (Nat.le_refl _)
          have Px10 := Px9.below hb10 (Nat.le_refl _)
          have hw10 := hw9.trans (hb10.mono hw9.size)
          clear Pa9 Pb9 Px9 Qi hw9 hb10 ly cY
          go_wp2_with fail
          refine (requal_same _ _ _ _ _ _ b b Hnx.out Hnb.out ⟨xx, yx⟩ ⟨xb, yb⟩ rfl _ Px10 Pb10).mono ?_
          rintro e w11 ⟨rfl, hb11⟩
          have Pa11 := Pa10.below hb11 (Nat.le_refl _)
          have Py11 := Qy.below hb11 (Nat.le_refl _)
          have hw11 := hw10.trans (hb11.mono hw10.size)
          go_wp2_with fail
          refine (requal_same _ _ _ _ _ _ a a Hny.out Hna.out ⟨xy, yy⟩ ⟨xa, ya⟩ rfl _ Py11 Pa11).mono ?_
          rintro e w12 ⟨rfl, hb12⟩
          go_wp2
          go_ret
          exact ⟨rfl, hw11.trans (hb12.mono hw11.size)⟩
end Go.Proofs.Ytjdjfokfilnnoaa
