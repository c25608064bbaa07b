/- Layer 7: the law of Apply. -/
import Derived.Test.YtjdjfokfilnnoaaJQ
import Derived.Test.YtjdjfokfilnnoaaKs
import Derived.Deep.RegionHeld3
namespace Go.Proofs.Ytjdjfokfilnnoaa
open Go.RowKit Go.Lib

set_option maxRecDepth 100000 in
set_option maxHeartbeats 40000000 in
theorem applies_none (A : Option Addr) (mA cA : Nat) (z o : List Pr) (hs : SortP o) (hq : o.length ≤ 60) (cO : ∀ w, PrAt w A z → Calls Try.prog 29 #[.slice A mA cA] w (OutN o w)) (Bc : Option Addr) (m m1 d : Nat) (cs : List Ch) (hcs : cs.length = m1) (hmd : m ≤ d) (hm1 : m1 ≤ m) (hm20 : m1 ≤ 20) (hd : d ≤ maxLen)
    (e1 : (m1 = m ∧ m ≤ 20) ∨ (m1 = 20 ∧ 20 < m)) (hap : applyP o cs = none) (w : World) (hA : PrAt w A z) (hBC : ChAt w Bc cs) :
    Calls Try.prog 12 #[.slice A mA cA, .slice Bc m d] w fun e w' => e = .returned (.bool true) ∧ Below w.heap.size w w' := by
  have cK := fun w' => known_any w'
  have HM := Go.Lib.hid hcs
  have HBC := Go.Lib.hid hBC
  have HSO := Go.Lib.hid (srt_iff.1 hs)
  have cAp := fun (B1 : Option Addr) n1 c1 (h1 : o.length = n1) (h2 : n1 ≤ c1 ∧ c1 ≤ maxLen) (h3 : n1 ≤ 400) (w' : World) (hP : PrAt w' B1 o) (hC : ChAt w' Bc cs) => apply_any B1 Bc n1 m1 c1 d o cs hs h1 hcs h2 ⟨by omega, hd⟩ h3 (by omega) w' hP hC
  have hd' := hd
  unfold maxLen at hd'
  have hAd := hA.below (bdrew1 (Below.refl w.heap.size w)) (Nat.le_refl _)
  have hCd := hBC.below (bdrew1 (Below.refl w.heap.size w))
  have hBd : Below w.heap.size w w.drew := bdrew1 (Below.refl w.heap.size w)
  rw [hap] at cAp
  have HAPN := Go.Lib.hid hap
  clear hap
  clear hs hBC hA hcs
  rcases e1 with ⟨rfl, h1⟩ | ⟨rfl, h1⟩
  · have g1 : min (m1 : Int) 20 = (m1 : Int) := by omega
    go_enter Try.func12, Try.ntmps12
    go_wp2_with fail
    go_region_held3 (fun _ => True)
      (first
        | trivial
        | go_keep)
      (first
        | (go_at_call 29; (with_reducible refine (cO _ hAd).mono ?_); rintro e w1 ⟨B1, n1, c1, rfl, l1, hx1, hy1, Q1, hb1⟩; have HL1 := Go.Lib.hid l1; clear l1))
    all_goals
      have HC1 := hCd.below hb1
      have HB1 := Go.Lib.hid (hBd.trans (hb1.mono hBd.size))
      have hn1 : n1 ≤ 60 := by have := HL1.out; omega
      clear hb1 hCd hBd hAd cO
      have cA1 := fun w' hP hC => cAp B1 n1 c1 HL1.out ⟨hx1, hy1⟩ (by omega) w' hP hC
      clear cAp
      go_wp2_with fail
      refine (cA1 _ Q1 HC1).mono ?_
      rintro e w2 ⟨rfl, hb2⟩
      have HQ1 := Go.Lib.hid (Q1.below hb2 (Nat.le_refl _))
      have HB1 := Go.Lib.hid (HB1.out.trans (hb2.mono HB1.out.size))
      clear Q1 hb2 cA1 HC1
      go_wp2_with fail
      go_loopw [7, 8, 9] (fun v b i wr => ∃ (k n : Nat) (D : Option Addr) (cd : Nat) (x : List Pr) (fl : Bool), k ≤ m1 ∧ i = .int .i64 k ∧ v = .slice D n cd ∧ b = .bool fl ∧ n ≤ 60 + k ∧ n ≤ cd ∧ cd ≤ maxLen ∧ Hid (PrAt wr D x) ∧ Hid (Below w.heap.size w wr) ∧ Hid (x.length = n) ∧ Hid (Srt x) ∧ Hid (fl = true → applyP o (cs.take k) = some x) ∧ Hid (fl = false → applyP o cs = none)) (fun _ _ i _ => m1 - (RowKit.intOf i).toNat)
      case atStart => exact ⟨0, n1, B1, c1, o, true, Nat.zero_le _, rfl, rfl, rfl, by omega, hx1, hy1, HQ1, HB1, HL1, HSO, Go.Lib.hid (fun _ => rfl), Go.Lib.hid (fun h => by cases h)⟩
      case round =>
        obtain ⟨k, n, D, cd, x, fl, hk, rfl, rfl, rfl, hnk, hcd1, hcd2, HP, HBW, HN, HSX, HAP, HNO⟩ := hrel
        cases fl with
        | false =>
          by_cases hlt : k < m1
          · have := hlt
            go_wp2_with fail
            refine (cK _).mono ?_
            rintro e w9 ⟨rfl, hb9⟩
            go_wp2
            go_ret
            exact ⟨rfl, HBW.out.trans (hb9.mono HBW.out.size)⟩
          · obtain rfl : k = m1 := by omega
            go_wp2_with fail
            refine (cK _).mono ?_
            rintro e w9 ⟨rfl, hb9⟩
            go_wp2
            go_ret
            exact ⟨rfl, HBW.out.trans (hb9.mono HBW.out.size)⟩
        | true =>
          by_cases hlt : k < m1
          · have hkc : k < cs.length := by rw [HM.out]; exact hlt
            rcases HBC.out with hB0 | ⟨g, o', rfl, hg, hcl⟩
            · rw [hB0] at hkc; exact absurd hkc (Nat.not_lt_zero _)
            obtain ⟨h0, h1, h2, h3, h4⟩ := hcl k hkc
            have c0 := (HBW.out.cell (p := ⟨g, o' + k * 5, none⟩) hg).trans h0
            have c1' := (HBW.out.cell (p := ⟨g, o' + k * 5 + 1, none⟩) hg).trans h1
            have c2 := (HBW.out.cell (p := ⟨g, o' + k * 5 + 2, none⟩) hg).trans h2
            have c3 := (HBW.out.cell (p := ⟨g, o' + k * 5 + 3, none⟩) hg).trans h3
            have c4 := (HBW.out.cell (p := ⟨g, o' + k * 5 + 4, none⟩) hg).trans h4
            have HNX := Go.Lib.hid (fun hf => applyP_next hkc (HAP.out rfl) hf)
            have HST := Go.Lib.hid (fun hf => applyP_stop hkc (HAP.out rfl) hf)
            clear h0 h1 h2 h3 h4 hcl
            generalize cs[k] = y at c0 c1' c2 c3 c4 HNX HST
            obtain ⟨yk, yo, yn, yh, ys⟩ := y
            dsimp only at c0 c1' c2 c3 c4
            have cG := fun w' hD => rget_any D n cd x HN.out ⟨hcd1, hcd2⟩ yk w' hD
            obtain ⟨gb, hgb⟩ : ∃ gb, getB x yk = gb := ⟨_, rfl⟩
            obtain ⟨gv, hgv⟩ : ∃ gv, getV x yk = gv := ⟨_, rfl⟩
            rw [hgb, hgv] at cG
            have HGB := Go.Lib.hid hgb
            have HGV := Go.Lib.hid hgv
            clear hgb hgv
            have Ba : Below wr.heap.size wr (wr.alloc (.cells #[.int .i64 yk, .int .i64 yo, .int .i64 yn, .bool yh, .bool ys] 64)) := (Below.refl _ wr).alloc (Nat.le_refl _) _
            have oa := ObjAt.new wr #[.int .i64 yk, .int .i64 yo, .int .i64 yn, .bool yh, .bool ys] 64
            have HPb := Go.Lib.hid (HP.out.below Ba (Nat.le_refl _))
            have HBb := Go.Lib.hid (HBW.out.trans (Ba.mono HBW.out.size))
            have e0 := oa.e0
            have e1 := oa.e1
            have e2 := oa.e2
            have e3 := oa.e3
            have e4 := oa.e4
            go_wp2_with fail
            refine (cG _ HPb.out).mono ?_
            rintro e w5 ⟨rfl, rfl⟩
            clear cG oa Ba c0 c1' c2 c3 c4
            cases gb with
            | false =>
              cases yh with
              | false =>
                have HFT := Go.Lib.hid (show fitsC x (yk, yo, yn, false, ys) = true from by rw [fitsC_def, HGB.out, HGV.out]; simp)
                cases ys with
                | true =>
                  have cR := fun w' hD => rset_out D n cd x HN.out ⟨hcd1, hcd2⟩ (by omega) yk yn w' hD
                  have hlen := set_len x yk yn
                  have hstep : stepC x (yk, yo, yn, false, true) = setP x yk yn := rfl
                  have HSTP := Go.Lib.hid hstep
                  have hsrt := Go.Lib.hid (srt_set HSX.out yk yn)
                  clear hstep
                  generalize setP x yk yn = x2 at cR hlen HSTP hsrt
                  go_wp2_with fail
                  refine (cR _ HPb.out).mono ?_
                  rintro e w6 ⟨D6, n6, cd6, rfl, l6, x6, y6, Q6, hb6⟩
                  have hn6 : n6 ≤ n + 1 := by have := HN.out; omega
                  have HL6 := Go.Lib.hid l6
                  have HQ6 := Go.Lib.hid Q6
                  have HB6 := Go.Lib.hid (HBb.out.trans (hb6.mono HBb.out.size))
                  clear l6 Q6 hb6 cR hlen
                  go_wp2
                  go_roundw
                  case rel => exact ⟨k + 1, n6, D6, cd6, x2, true, by omega, by go_num, rfl, rfl, by omega, x6, y6, HQ6, HB6, HL6, hsrt, Go.Lib.hid (fun _ => by rw [HNX.out HFT.out, HSTP.out]), Go.Lib.hid (fun h => by cases h)⟩
                  case measure => simp [RowKit.intOf]; omega
                | false =>
                  have cR := fun w' hD => rclear_out D n cd x HN.out ⟨hcd1, hcd2⟩ (by omega) yk w' hD
                  have hlen := clear_len x yk
                  have hstep : stepC x (yk, yo, yn, false, false) = clearP x yk := rfl
                  have HSTP := Go.Lib.hid hstep
                  have hsrt := Go.Lib.hid (srt_clear HSX.out yk)
                  clear hstep
                  generalize clearP x yk = x2 at cR hlen HSTP hsrt
                  go_wp2_with fail
                  refine (cR _ HPb.out).mono ?_
                  rintro e w6 ⟨D6, n6, cd6, rfl, l6, x6, y6, Q6, hb6⟩
                  have hn6 : n6 ≤ n := by have := HN.out; omega
                  have HL6 := Go.Lib.hid l6
                  have HQ6 := Go.Lib.hid Q6
                  have HB6 := Go.Lib.hid (HBb.out.trans (hb6.mono HBb.out.size))
                  clear l6 Q6 hb6 cR hlen
                  go_wp2
                  go_roundw
                  case rel => exact ⟨k + 1, n6, D6, cd6, x2, true, by omega, by go_num, rfl, rfl, by omega, x6, y6, HQ6, HB6, HL6, hsrt, Go.Lib.hid (fun _ => by rw [HNX.out HFT.out, HSTP.out]), Go.Lib.hid (fun h => by cases h)⟩
                  case measure => simp [RowKit.intOf]; omega
              | true =>
                have HFF := Go.Lib.hid (show fitsC x (yk, yo, yn, true, ys) = false from by rw [fitsC_def, HGB.out, HGV.out]; simp)
                go_wp2
                go_roundw
                case rel => exact ⟨k + 1, n, D, cd, x, false, by omega, by go_num, rfl, rfl, by omega, hcd1, hcd2, HPb, HBb, HN, HSX, Go.Lib.hid (fun h => by cases h), Go.Lib.hid (fun _ => HST.out HFF.out)⟩
                case measure => simp [RowKit.intOf]; omega
            | true =>
              cases yh with
              | false =>
                have HFF := Go.Lib.hid (show fitsC x (yk, yo, yn, false, ys) = false from by rw [fitsC_def, HGB.out, HGV.out]; simp)
                go_wp2
                go_roundw
                case rel => exact ⟨k + 1, n, D, cd, x, false, by omega, by go_num, rfl, rfl, by omega, hcd1, hcd2, HPb, HBb, HN, HSX, Go.Lib.hid (fun h => by cases h), Go.Lib.hid (fun _ => HST.out HFF.out)⟩
                case measure => simp [RowKit.intOf]; omega
              | true =>
                cases he : (gv == yo) with
                | true =>
                  have he' : (gv != yo) = false := by simpa using he
                  have HFT := Go.Lib.hid (show fitsC x (yk, yo, yn, true, ys) = true from by rw [fitsC_def, HGB.out, HGV.out]; simp [he])
                  clear he
                  cases ys with
                  | true =>
                    have cR := fun w' hD => rset_out D n cd x HN.out ⟨hcd1, hcd2⟩ (by omega) yk yn w' hD
                    have hlen := set_len x yk yn
                    have hstep : stepC x (yk, yo, yn, true, true) = setP x yk yn := rfl
                    have HSTP := Go.Lib.hid hstep
                    have hsrt := Go.Lib.hid (srt_set HSX.out yk yn)
                    clear hstep
                    generalize setP x yk yn = x2 at cR hlen HSTP hsrt
                    go_wp2_with fail
                    refine (cR _ HPb.out).mono ?_
                    rintro e w6 ⟨D6, n6, cd6, rfl, l6, x6, y6, Q6, hb6⟩
                    have hn6 : n6 ≤ n + 1 := by have := HN.out; omega
                    have HL6 := Go.Lib.hid l6
                    have HQ6 := Go.Lib.hid Q6
                    have HB6 := Go.Lib.hid (HBb.out.trans (hb6.mono HBb.out.size))
                    clear l6 Q6 hb6 cR hlen
                    go_wp2
                    go_roundw
                    case rel => exact ⟨k + 1, n6, D6, cd6, x2, true, by omega, by go_num, rfl, rfl, by omega, x6, y6, HQ6, HB6, HL6, hsrt, Go.Lib.hid (fun _ => by rw [HNX.out HFT.out, HSTP.out]), Go.Lib.hid (fun h => by cases h)⟩
                    case measure => simp [RowKit.intOf]; omega
                  | false =>
                    have cR := fun w' hD => rclear_out D n cd x HN.out ⟨hcd1, hcd2⟩ (by omega) yk w' hD
                    have hlen := clear_len x yk
                    have hstep : stepC x (yk, yo, yn, true, false) = clearP x yk := rfl
                    have HSTP := Go.Lib.hid hstep
                    have hsrt := Go.Lib.hid (srt_clear HSX.out yk)
                    clear hstep
                    generalize clearP x yk = x2 at cR hlen HSTP hsrt
                    go_wp2_with fail
                    refine (cR _ HPb.out).mono ?_
                    rintro e w6 ⟨D6, n6, cd6, rfl, l6, x6, y6, Q6, hb6⟩
                    have hn6 : n6 ≤ n := by have := HN.out; omega
                    have HL6 := Go.Lib.hid l6
                    have HQ6 := Go.Lib.hid Q6
                    have HB6 := Go.Lib.hid (HBb.out.trans (hb6.mono HBb.out.size))
                    clear l6 Q6 hb6 cR hlen
                    go_wp2
                    go_roundw
                    case rel => exact ⟨k + 1, n6, D6, cd6, x2, true, by omega, by go_num, rfl, rfl, by omega, x6, y6, HQ6, HB6, HL6, hsrt, Go.Lib.hid (fun _ => by rw [HNX.out HFT.out, HSTP.out]), Go.Lib.hid (fun h => by cases h)⟩
                    case measure => simp [RowKit.intOf]; omega
                | false =>
                  have he' : (gv != yo) = true := by simpa using he
                  have HFF := Go.Lib.hid (show fitsC x (yk, yo, yn, true, ys) = false from by rw [fitsC_def, HGB.out, HGV.out]; simp [he])
                  clear he
                  go_wp2
                  go_roundw
                  case rel => exact ⟨k + 1, n, D, cd, x, false, by omega, by go_num, rfl, rfl, by omega, hcd1, hcd2, HPb, HBb, HN, HSX, Go.Lib.hid (fun h => by cases h), Go.Lib.hid (fun _ => HST.out HFF.out)⟩
                  case measure => simp [RowKit.intOf]; omega
          · obtain rfl : k = m1 := by omega
            have h9 := HAP.out rfl
            rw [List.take_of_length_le (by rw [HM.out]; exact Nat.le_refl _), HAPN.out] at h9
            cases h9

  · have g1 : min (m : Int) 20 = 20 := by omega
    have g2 : (20 : Int) ≤ (d : Int) := by omega
    go_enter Try.func12, Try.ntmps12
    go_wp2_with fail
    go_region_held3 (fun _ => True)
      (first
        | trivial
        | go_keep)
      (first
        | (go_at_call 29; (with_reducible refine (cO _ hAd).mono ?_); rintro e w1 ⟨B1, n1, c1, rfl, l1, hx1, hy1, Q1, hb1⟩; have HL1 := Go.Lib.hid l1; clear l1))
    all_goals
      have HC1 := hCd.below hb1
      have HB1 := Go.Lib.hid (hBd.trans (hb1.mono hBd.size))
      have hn1 : n1 ≤ 60 := by have := HL1.out; omega
      clear hb1 hCd hBd hAd cO
      have cA1 := fun w' hP hC => cAp B1 n1 c1 HL1.out ⟨hx1, hy1⟩ (by omega) w' hP hC
      clear cAp
      go_wp2_with fail
      refine (cA1 _ Q1 HC1).mono ?_
      rintro e w2 ⟨rfl, hb2⟩
      have HQ1 := Go.Lib.hid (Q1.below hb2 (Nat.le_refl _))
      have HB1 := Go.Lib.hid (HB1.out.trans (hb2.mono HB1.out.size))
      clear Q1 hb2 cA1 HC1
      go_wp2_with fail
      go_loopw [7, 8, 9] (fun v b i wr => ∃ (k n : Nat) (D : Option Addr) (cd : Nat) (x : List Pr) (fl : Bool), k ≤ 20 ∧ i = .int .i64 k ∧ v = .slice D n cd ∧ b = .bool fl ∧ n ≤ 60 + k ∧ n ≤ cd ∧ cd ≤ maxLen ∧ Hid (PrAt wr D x) ∧ Hid (Below w.heap.size w wr) ∧ Hid (x.length = n) ∧ Hid (Srt x) ∧ Hid (fl = true → applyP o (cs.take k) = some x) ∧ Hid (fl = false → applyP o cs = none)) (fun _ _ i _ => 20 - (RowKit.intOf i).toNat)
      case atStart => exact ⟨0, n1, B1, c1, o, true, Nat.zero_le _, rfl, rfl, rfl, by omega, hx1, hy1, HQ1, HB1, HL1, HSO, Go.Lib.hid (fun _ => rfl), Go.Lib.hid (fun h => by cases h)⟩
      case round =>
        obtain ⟨k, n, D, cd, x, fl, hk, rfl, rfl, rfl, hnk, hcd1, hcd2, HP, HBW, HN, HSX, HAP, HNO⟩ := hrel
        cases fl with
        | false =>
          by_cases hlt : k < 20
          · have := hlt
            go_wp2_with fail
            refine (cK _).mono ?_
            rintro e w9 ⟨rfl, hb9⟩
            go_wp2
            go_ret
            exact ⟨rfl, HBW.out.trans (hb9.mono HBW.out.size)⟩
          · obtain rfl : k = 20 := by omega
            go_wp2_with fail
            refine (cK _).mono ?_
            rintro e w9 ⟨rfl, hb9⟩
            go_wp2
            go_ret
            exact ⟨rfl, HBW.out.trans (hb9.mono HBW.out.size)⟩
        | true =>
          by_cases hlt : k < 20
          · have hkc : k < cs.length := by rw [HM.out]; exact hlt
            rcases HBC.out with hB0 | ⟨g, o', rfl, hg, hcl⟩
            · rw [hB0] at hkc; exact absurd hkc (Nat.not_lt_zero _)
            obtain ⟨h0, h1, h2, h3, h4⟩ := hcl k hkc
            have c0 := (HBW.out.cell (p := ⟨g, o' + k * 5, none⟩) hg).trans h0
            have c1' := (HBW.out.cell (p := ⟨g, o' + k * 5 + 1, none⟩) hg).trans h1
            have c2 := (HBW.out.cell (p := ⟨g, o' + k * 5 + 2, none⟩) hg).trans h2
            have c3 := (HBW.out.cell (p := ⟨g, o' + k * 5 + 3, none⟩) hg).trans h3
            have c4 := (HBW.out.cell (p := ⟨g, o' + k * 5 + 4, none⟩) hg).trans h4
            have HNX := Go.Lib.hid (fun hf => applyP_next hkc (HAP.out rfl) hf)
            have HST := Go.Lib.hid (fun hf => applyP_stop hkc (HAP.out rfl) hf)
            clear h0 h1 h2 h3 h4 hcl
            generalize cs[k] = y at c0 c1' c2 c3 c4 HNX HST
            obtain ⟨yk, yo, yn, yh, ys⟩ := y
            dsimp only at c0 c1' c2 c3 c4
            have cG := fun w' hD => rget_any D n cd x HN.out ⟨hcd1, hcd2⟩ yk w' hD
            obtain ⟨gb, hgb⟩ : ∃ gb, getB x yk = gb := ⟨_, rfl⟩
            obtain ⟨gv, hgv⟩ : ∃ gv, getV x yk = gv := ⟨_, rfl⟩
            rw [hgb, hgv] at cG
            have HGB := Go.Lib.hid hgb
            have HGV := Go.Lib.hid hgv
            clear hgb hgv
            have Ba : Below wr.heap.size wr (wr.alloc (.cells #[.int .i64 yk, .int .i64 yo, .int .i64 yn, .bool yh, .bool ys] 64)) := (Below.refl _ wr).alloc (Nat.le_refl _) _
            have oa := ObjAt.new wr #[.int .i64 yk, .int .i64 yo, .int .i64 yn, .bool yh, .bool ys] 64
            have HPb := Go.Lib.hid (HP.out.below Ba (Nat.le_refl _))
            have HBb := Go.Lib.hid (HBW.out.trans (Ba.mono HBW.out.size))
            have e0 := oa.e0
            have e1 := oa.e1
            have e2 := oa.e2
            have e3 := oa.e3
            have e4 := oa.e4
            go_wp2_with fail
            refine (cG _ HPb.out).mono ?_
            rintro e w5 ⟨rfl, rfl⟩
            clear cG oa Ba c0 c1' c2 c3 c4
            cases gb with
            | false =>
              cases yh with
              | false =>
                have HFT := Go.Lib.hid (show fitsC x (yk, yo, yn, false, ys) = true from by rw [fitsC_def, HGB.out, HGV.out]; simp)
                cases ys with
                | true =>
                  have cR := fun w' hD => rset_out D n cd x HN.out ⟨hcd1, hcd2⟩ (by omega) yk yn w' hD
                  have hlen := set_len x yk yn
                  have hstep : stepC x (yk, yo, yn, false, true) = setP x yk yn := rfl
                  have HSTP := Go.Lib.hid hstep
                  have hsrt := Go.Lib.hid (srt_set HSX.out yk yn)
                  clear hstep
                  generalize setP x yk yn = x2 at cR hlen HSTP hsrt
                  go_wp2_with fail
                  refine (cR _ HPb.out).mono ?_
                  rintro e w6 ⟨D6, n6, cd6, rfl, l6, x6, y6, Q6, hb6⟩
                  have hn6 : n6 ≤ n + 1 := by have := HN.out; omega
                  have HL6 := Go.Lib.hid l6
                  have HQ6 := Go.Lib.hid Q6
                  have HB6 := Go.Lib.hid (HBb.out.trans (hb6.mono HBb.out.size))
                  clear l6 Q6 hb6 cR hlen
                  go_wp2
                  go_roundw
                  case rel => exact ⟨k + 1, n6, D6, cd6, x2, true, by omega, by go_num, rfl, rfl, by omega, x6, y6, HQ6, HB6, HL6, hsrt, Go.Lib.hid (fun _ => by rw [HNX.out HFT.out, HSTP.out]), Go.Lib.hid (fun h => by cases h)⟩
                  case measure => simp [RowKit.intOf]; omega
                | false =>
                  have cR := fun w' hD => rclear_out D n cd x HN.out ⟨hcd1, hcd2⟩ (by omega) yk w' hD
                  have hlen := clear_len x yk
                  have hstep : stepC x (yk, yo, yn, false, false) = clearP x yk := rfl
                  have HSTP := Go.Lib.hid hstep
                  have hsrt := Go.Lib.hid (srt_clear HSX.out yk)
                  clear hstep
                  generalize clearP x yk = x2 at cR hlen HSTP hsrt
                  go_wp2_with fail
                  refine (cR _ HPb.out).mono ?_
                  rintro e w6 ⟨D6, n6, cd6, rfl, l6, x6, y6, Q6, hb6⟩
                  have hn6 : n6 ≤ n := by have := HN.out; omega
                  have HL6 := Go.Lib.hid l6
                  have HQ6 := Go.Lib.hid Q6
                  have HB6 := Go.Lib.hid (HBb.out.trans (hb6.mono HBb.out.size))
                  clear l6 Q6 hb6 cR hlen
                  go_wp2
                  go_roundw
                  case rel => exact ⟨k + 1, n6, D6, cd6, x2, true, by omega, by go_num, rfl, rfl, by omega, x6, y6, HQ6, HB6, HL6, hsrt, Go.Lib.hid (fun _ => by rw [HNX.out HFT.out, HSTP.out]), Go.Lib.hid (fun h => by cases h)⟩
                  case measure => simp [RowKit.intOf]; omega
              | true =>
                have HFF := Go.Lib.hid (show fitsC x (yk, yo, yn, true, ys) = false from by rw [fitsC_def, HGB.out, HGV.out]; simp)
                go_wp2
                go_roundw
                case rel => exact ⟨k + 1, n, D, cd, x, false, by omega, by go_num, rfl, rfl, by omega, hcd1, hcd2, HPb, HBb, HN, HSX, Go.Lib.hid (fun h => by cases h), Go.Lib.hid (fun _ => HST.out HFF.out)⟩
                case measure => simp [RowKit.intOf]; omega
            | true =>
              cases yh with
              | false =>
                have HFF := Go.Lib.hid (show fitsC x (yk, yo, yn, false, ys) = false from by rw [fitsC_def, HGB.out, HGV.out]; simp)
                go_wp2
                go_roundw
                case rel => exact ⟨k + 1, n, D, cd, x, false, by omega, by go_num, rfl, rfl, by omega, hcd1, hcd2, HPb, HBb, HN, HSX, Go.Lib.hid (fun h => by cases h), Go.Lib.hid (fun _ => HST.out HFF.out)⟩
                case measure => simp [RowKit.intOf]; omega
              | true =>
                cases he : (gv == yo) with
                | true =>
                  have he' : (gv != yo) = false := by simpa using he
                  have HFT := Go.Lib.hid (show fitsC x (yk, yo, yn, true, ys) = true from by rw [fitsC_def, HGB.out, HGV.out]; simp [he])
                  clear he
                  cases ys with
                  | true =>
                    have cR := fun w' hD => rset_out D n cd x HN.out ⟨hcd1, hcd2⟩ (by omega) yk yn w' hD
                    have hlen := set_len x yk yn
                    have hstep : stepC x (yk, yo, yn, true, true) = setP x yk yn := rfl
                    have HSTP := Go.Lib.hid hstep
                    have hsrt := Go.Lib.hid (srt_set HSX.out yk yn)
                    clear hstep
                    generalize setP x yk yn = x2 at cR hlen HSTP hsrt
                    go_wp2_with fail
                    refine (cR _ HPb.out).mono ?_
                    rintro e w6 ⟨D6, n6, cd6, rfl, l6, x6, y6, Q6, hb6⟩
                    have hn6 : n6 ≤ n + 1 := by have := HN.out; omega
                    have HL6 := Go.Lib.hid l6
                    have HQ6 := Go.Lib.hid Q6
                    have HB6 := Go.Lib.hid (HBb.out.trans (hb6.mono HBb.out.size))
                    clear l6 Q6 hb6 cR hlen
                    go_wp2
                    go_roundw
                    case rel => exact ⟨k + 1, n6, D6, cd6, x2, true, by omega, by go_num, rfl, rfl, by omega, x6, y6, HQ6, HB6, HL6, hsrt, Go.Lib.hid (fun _ => by rw [HNX.out HFT.out, HSTP.out]), Go.Lib.hid (fun h => by cases h)⟩
                    case measure => simp [RowKit.intOf]; omega
                  | false =>
                    have cR := fun w' hD => rclear_out D n cd x HN.out ⟨hcd1, hcd2⟩ (by omega) yk w' hD
                    have hlen := clear_len x yk
                    have hstep : stepC x (yk, yo, yn, true, false) = clearP x yk := rfl
                    have HSTP := Go.Lib.hid hstep
                    have hsrt := Go.Lib.hid (srt_clear HSX.out yk)
                    clear hstep
                    generalize clearP x yk = x2 at cR hlen HSTP hsrt
                    go_wp2_with fail
                    refine (cR _ HPb.out).mono ?_
                    rintro e w6 ⟨D6, n6, cd6, rfl, l6, x6, y6, Q6, hb6⟩
                    have hn6 : n6 ≤ n := by have := HN.out; omega
                    have HL6 := Go.Lib.hid l6
                    have HQ6 := Go.Lib.hid Q6
                    have HB6 := Go.Lib.hid (HBb.out.trans (hb6.mono HBb.out.size))
                    clear l6 Q6 hb6 cR hlen
                    go_wp2
                    go_roundw
                    case rel => exact ⟨k + 1, n6, D6, cd6, x2, true, by omega, by go_num, rfl, rfl, by omega, x6, y6, HQ6, HB6, HL6, hsrt, Go.Lib.hid (fun _ => by rw [HNX.out HFT.out, HSTP.out]), Go.Lib.hid (fun h => by cases h)⟩
                    case measure => simp [RowKit.intOf]; omega
                | false =>
                  have he' : (gv != yo) = true := by simpa using he
                  have HFF := Go.Lib.hid (show fitsC x (yk, yo, yn, true, ys) = false from by rw [fitsC_def, HGB.out, HGV.out]; simp [he])
                  clear he
                  go_wp2
                  go_roundw
                  case rel => exact ⟨k + 1, n, D, cd, x, false, by omega, by go_num, rfl, rfl, by omega, hcd1, hcd2, HPb, HBb, HN, HSX, Go.Lib.hid (fun h => by cases h), Go.Lib.hid (fun _ => HST.out HFF.out)⟩
                  case measure => simp [RowKit.intOf]; omega
          · obtain rfl : k = 20 := by omega
            have h9 := HAP.out rfl
            rw [List.take_of_length_le (by rw [HM.out]; exact Nat.le_refl _), HAPN.out] at h9
            cases h9

set_option maxRecDepth 100000 in
set_option maxHeartbeats 40000000 in
theorem applies_some (A : Option Addr) (mA cA : Nat) (z o : List Pr) (hs : SortP o) (hq : o.length ≤ 60) (cO : ∀ w, PrAt w A z → Calls Try.prog 29 #[.slice A mA cA] w (OutN o w)) (Bc : Option Addr) (m m1 d : Nat) (cs : List Ch) (hcs : cs.length = m1) (hmd : m ≤ d) (hm1 : m1 ≤ m) (hm20 : m1 ≤ 20) (hd : d ≤ maxLen)
    (e1 : (m1 = m ∧ m ≤ 20) ∨ (m1 = 20 ∧ 20 < m)) (yy : List Pr) (hap : applyP o cs = some yy) (w : World) (hA : PrAt w A z) (hBC : ChAt w Bc cs) :
    Calls Try.prog 12 #[.slice A mA cA, .slice Bc m d] w fun e w' => e = .returned (.bool true) ∧ Below w.heap.size w w' := by
  have cK := fun w' => known_any w'
  have HM := Go.Lib.hid hcs
  have HBC := Go.Lib.hid hBC
  have HSO := Go.Lib.hid (srt_iff.1 hs)
  have cAp := fun (B1 : Option Addr) n1 c1 (h1 : o.length = n1) (h2 : n1 ≤ c1 ∧ c1 ≤ maxLen) (h3 : n1 ≤ 400) (w' : World) (hP : PrAt w' B1 o) (hC : ChAt w' Bc cs) => apply_any B1 Bc n1 m1 c1 d o cs hs h1 hcs h2 ⟨by omega, hd⟩ h3 (by omega) w' hP hC
  have hd' := hd
  unfold maxLen at hd'
  have hAd := hA.below (bdrew1 (Below.refl w.heap.size w)) (Nat.le_refl _)
  have hCd := hBC.below (bdrew1 (Below.refl w.heap.size w))
  have hBd : Below w.heap.size w w.drew := bdrew1 (Below.refl w.heap.size w)
  rw [hap] at cAp
  have HAPN := Go.Lib.hid hap
  clear hap
  clear hs hBC hA hcs
  rcases e1 with ⟨rfl, h1⟩ | ⟨rfl, h1⟩
  · have g1 : min (m1 : Int) 20 = (m1 : Int) := by omega
    go_enter Try.func12, Try.ntmps12
    go_wp2_with fail
    go_region_held3 (fun _ => True)
      (first
        | trivial
        | go_keep)
      (first
        | (go_at_call 29; (with_reducible refine (cO _ hAd).mono ?_); rintro e w1 ⟨B1, n1, c1, rfl, l1, hx1, hy1, Q1, hb1⟩; have HL1 := Go.Lib.hid l1; clear l1))
    all_goals
      have HC1 := hCd.below hb1
      have HB1 := Go.Lib.hid (hBd.trans (hb1.mono hBd.size))
      have hn1 : n1 ≤ 60 := by have := HL1.out; omega
      clear hb1 hCd hBd hAd cO
      have cA1 := fun w' hP hC => cAp B1 n1 c1 HL1.out ⟨hx1, hy1⟩ (by omega) w' hP hC
      clear cAp
      go_wp2_with fail
      refine (cA1 _ Q1 HC1).mono ?_
      rintro e w2 ⟨B2, n2, c2, rfl, l2, hx2, hy2, Q2, hb2⟩
      have HQ1 := Go.Lib.hid (Q1.below hb2 (Nat.le_refl _))
      have HB1 := Go.Lib.hid (HB1.out.trans (hb2.mono HB1.out.size))
      have HQ2 := Go.Lib.hid Q2
      have HL2 := Go.Lib.hid l2
      clear Q1 hb2 cA1 HC1 Q2 l2
      go_wp2_with fail
      go_loopw [7, 8, 9] (fun v b i wr => ∃ (k n : Nat) (D : Option Addr) (cd : Nat) (x : List Pr) (fl : Bool), k ≤ m1 ∧ i = .int .i64 k ∧ v = .slice D n cd ∧ b = .bool fl ∧ n ≤ 60 + k ∧ n ≤ cd ∧ cd ≤ maxLen ∧ Hid (PrAt wr D x) ∧ Hid (Below w.heap.size w wr) ∧ Hid (x.length = n) ∧ Hid (Srt x) ∧ Hid (fl = true → applyP o (cs.take k) = some x) ∧ Hid (fl = false → applyP o cs = none) ∧ Hid (PrAt wr B2 yy)) (fun _ _ i _ => m1 - (RowKit.intOf i).toNat)
      case atStart => exact ⟨0, n1, B1, c1, o, true, Nat.zero_le _, rfl, rfl, rfl, by omega, hx1, hy1, HQ1, HB1, HL1, HSO, Go.Lib.hid (fun _ => rfl), Go.Lib.hid (fun h => by cases h), HQ2⟩
      case round =>
        obtain ⟨k, n, D, cd, x, fl, hk, rfl, rfl, rfl, hnk, hcd1, hcd2, HP, HBW, HN, HSX, HAP, HNO, HQ2⟩ := hrel
        cases fl with
        | false =>
          by_cases hlt : k < m1
          · have := hlt
            have h9 := HNO.out rfl
            rw [HAPN.out] at h9
            cases h9
          · obtain rfl : k = m1 := by omega
            have h9 := HNO.out rfl
            rw [HAPN.out] at h9
            cases h9
        | true =>
          by_cases hlt : k < m1
          · have hkc : k < cs.length := by rw [HM.out]; exact hlt
            rcases HBC.out with hB0 | ⟨g, o', rfl, hg, hcl⟩
            · rw [hB0] at hkc; exact absurd hkc (Nat.not_lt_zero _)
            obtain ⟨h0, h1, h2, h3, h4⟩ := hcl k hkc
            have c0 := (HBW.out.cell (p := ⟨g, o' + k * 5, none⟩) hg).trans h0
            have c1' := (HBW.out.cell (p := ⟨g, o' + k * 5 + 1, none⟩) hg).trans h1
            have c2 := (HBW.out.cell (p := ⟨g, o' + k * 5 + 2, none⟩) hg).trans h2
            have c3 := (HBW.out.cell (p := ⟨g, o' + k * 5 + 3, none⟩) hg).trans h3
            have c4 := (HBW.out.cell (p := ⟨g, o' + k * 5 + 4, none⟩) hg).trans h4
            have HNX := Go.Lib.hid (fun hf => applyP_next hkc (HAP.out rfl) hf)
            have HST := Go.Lib.hid (fun hf => applyP_stop hkc (HAP.out rfl) hf)
            clear h0 h1 h2 h3 h4 hcl
            generalize cs[k] = y at c0 c1' c2 c3 c4 HNX HST
            obtain ⟨yk, yo, yn, yh, ys⟩ := y
            dsimp only at c0 c1' c2 c3 c4
            have cG := fun w' hD => rget_any D n cd x HN.out ⟨hcd1, hcd2⟩ yk w' hD
            obtain ⟨gb, hgb⟩ : ∃ gb, getB x yk = gb := ⟨_, rfl⟩
            obtain ⟨gv, hgv⟩ : ∃ gv, getV x yk = gv := ⟨_, rfl⟩
            rw [hgb, hgv] at cG
            have HGB := Go.Lib.hid hgb
            have HGV := Go.Lib.hid hgv
            clear hgb hgv
            have Ba : Below wr.heap.size wr (wr.alloc (.cells #[.int .i64 yk, .int .i64 yo, .int .i64 yn, .bool yh, .bool ys] 64)) := (Below.refl _ wr).alloc (Nat.le_refl _) _
            have oa := ObjAt.new wr #[.int .i64 yk, .int .i64 yo, .int .i64 yn, .bool yh, .bool ys] 64
            have HPb := Go.Lib.hid (HP.out.below Ba (Nat.le_refl _))
            have HQ2 := Go.Lib.hid (HQ2.out.below Ba (Nat.le_refl _))
            have HBb := Go.Lib.hid (HBW.out.trans (Ba.mono HBW.out.size))
            have e0 := oa.e0
            have e1 := oa.e1
            have e2 := oa.e2
            have e3 := oa.e3
            have e4 := oa.e4
            go_wp2_with fail
            refine (cG _ HPb.out).mono ?_
            rintro e w5 ⟨rfl, rfl⟩
            clear cG oa Ba c0 c1' c2 c3 c4
            cases gb with
            | false =>
              cases yh with
              | false =>
                have HFT := Go.Lib.hid (show fitsC x (yk, yo, yn, false, ys) = true from by rw [fitsC_def, HGB.out, HGV.out]; simp)
                cases ys with
                | true =>
                  have cR := fun w' hD => rset_out D n cd x HN.out ⟨hcd1, hcd2⟩ (by omega) yk yn w' hD
                  have hlen := set_len x yk yn
                  have hstep : stepC x (yk, yo, yn, false, true) = setP x yk yn := rfl
                  have HSTP := Go.Lib.hid hstep
                  have hsrt := Go.Lib.hid (srt_set HSX.out yk yn)
                  clear hstep
                  generalize setP x yk yn = x2 at cR hlen HSTP hsrt
                  go_wp2_with fail
                  refine (cR _ HPb.out).mono ?_
                  rintro e w6 ⟨D6, n6, cd6, rfl, l6, x6, y6, Q6, hb6⟩
                  have hn6 : n6 ≤ n + 1 := by have := HN.out; omega
                  have HL6 := Go.Lib.hid l6
                  have HQ6 := Go.Lib.hid Q6
                  have HQ2 := Go.Lib.hid (HQ2.out.below hb6 (Nat.le_refl _))
                  have HB6 := Go.Lib.hid (HBb.out.trans (hb6.mono HBb.out.size))
                  clear l6 Q6 hb6 cR hlen
                  go_wp2
                  go_roundw
                  case rel => exact ⟨k + 1, n6, D6, cd6, x2, true, by omega, by go_num, rfl, rfl, by omega, x6, y6, HQ6, HB6, HL6, hsrt, Go.Lib.hid (fun _ => by rw [HNX.out HFT.out, HSTP.out]), Go.Lib.hid (fun h => by cases h), HQ2⟩
                  case measure => simp [RowKit.intOf]; omega
                | false =>
                  have cR := fun w' hD => rclear_out D n cd x HN.out ⟨hcd1, hcd2⟩ (by omega) yk w' hD
                  have hlen := clear_len x yk
                  have hstep : stepC x (yk, yo, yn, false, false) = clearP x yk := rfl
                  have HSTP := Go.Lib.hid hstep
                  have hsrt := Go.Lib.hid (srt_clear HSX.out yk)
                  clear hstep
                  generalize clearP x yk = x2 at cR hlen HSTP hsrt
                  go_wp2_with fail
                  refine (cR _ HPb.out).mono ?_
                  rintro e w6 ⟨D6, n6, cd6, rfl, l6, x6, y6, Q6, hb6⟩
                  have hn6 : n6 ≤ n := by have := HN.out; omega
                  have HL6 := Go.Lib.hid l6
                  have HQ6 := Go.Lib.hid Q6
                  have HQ2 := Go.Lib.hid (HQ2.out.below hb6 (Nat.le_refl _))
                  have HB6 := Go.Lib.hid (HBb.out.trans (hb6.mono HBb.out.size))
                  clear l6 Q6 hb6 cR hlen
                  go_wp2
                  go_roundw
                  case rel => exact ⟨k + 1, n6, D6, cd6, x2, true, by omega, by go_num, rfl, rfl, by omega, x6, y6, HQ6, HB6, HL6, hsrt, Go.Lib.hid (fun _ => by rw [HNX.out HFT.out, HSTP.out]), Go.Lib.hid (fun h => by cases h), HQ2⟩
                  case measure => simp [RowKit.intOf]; omega
              | true =>
                have HFF := Go.Lib.hid (show fitsC x (yk, yo, yn, true, ys) = false from by rw [fitsC_def, HGB.out, HGV.out]; simp)
                go_wp2
                go_roundw
                case rel => exact ⟨k + 1, n, D, cd, x, false, by omega, by go_num, rfl, rfl, by omega, hcd1, hcd2, HPb, HBb, HN, HSX, Go.Lib.hid (fun h => by cases h), Go.Lib.hid (fun _ => HST.out HFF.out), HQ2⟩
                case measure => simp [RowKit.intOf]; omega
            | true =>
              cases yh with
              | false =>
                have HFF := Go.Lib.hid (show fitsC x (yk, yo, yn, false, ys) = false from by rw [fitsC_def, HGB.out, HGV.out]; simp)
                go_wp2
                go_roundw
                case rel => exact ⟨k + 1, n, D, cd, x, false, by omega, by go_num, rfl, rfl, by omega, hcd1, hcd2, HPb, HBb, HN, HSX, Go.Lib.hid (fun h => by cases h), Go.Lib.hid (fun _ => HST.out HFF.out), HQ2⟩
                case measure => simp [RowKit.intOf]; omega
              | true =>
                cases he : (gv == yo) with
                | true =>
                  have he' : (gv != yo) = false := by simpa using he
                  have HFT := Go.Lib.hid (show fitsC x (yk, yo, yn, true, ys) = true from by rw [fitsC_def, HGB.out, HGV.out]; simp [he])
                  clear he
                  cases ys with
                  | true =>
                    have cR := fun w' hD => rset_out D n cd x HN.out ⟨hcd1, hcd2⟩ (by omega) yk yn w' hD
                    have hlen := set_len x yk yn
                    have hstep : stepC x (yk, yo, yn, true, true) = setP x yk yn := rfl
                    have HSTP := Go.Lib.hid hstep
                    have hsrt := Go.Lib.hid (srt_set HSX.out yk yn)
                    clear hstep
                    generalize setP x yk yn = x2 at cR hlen HSTP hsrt
                    go_wp2_with fail
                    refine (cR _ HPb.out).mono ?_
                    rintro e w6 ⟨D6, n6, cd6, rfl, l6, x6, y6, Q6, hb6⟩
                    have hn6 : n6 ≤ n + 1 := by have := HN.out; omega
                    have HL6 := Go.Lib.hid l6
                    have HQ6 := Go.Lib.hid Q6
                    have HQ2 := Go.Lib.hid (HQ2.out.below hb6 (Nat.le_refl _))
                    have HB6 := Go.Lib.hid (HBb.out.trans (hb6.mono HBb.out.size))
                    clear l6 Q6 hb6 cR hlen
                    go_wp2
                    go_roundw
                    case rel => exact ⟨k + 1, n6, D6, cd6, x2, true, by omega, by go_num, rfl, rfl, by omega, x6, y6, HQ6, HB6, HL6, hsrt, Go.Lib.hid (fun _ => by rw [HNX.out HFT.out, HSTP.out]), Go.Lib.hid (fun h => by cases h), HQ2⟩
                    case measure => simp [RowKit.intOf]; omega
                  | false =>
                    have cR := fun w' hD => rclear_out D n cd x HN.out ⟨hcd1, hcd2⟩ (by omega) yk w' hD
                    have hlen := clear_len x yk
                    have hstep : stepC x (yk, yo, yn, true, false) = clearP x yk := rfl
                    have HSTP := Go.Lib.hid hstep
                    have hsrt := Go.Lib.hid (srt_clear HSX.out yk)
                    clear hstep
                    generalize clearP x yk = x2 at cR hlen HSTP hsrt
                    go_wp2_with fail
                    refine (cR _ HPb.out).mono ?_
                    rintro e w6 ⟨D6, n6, cd6, rfl, l6, x6, y6, Q6, hb6⟩
                    have hn6 : n6 ≤ n := by have := HN.out; omega
                    have HL6 := Go.Lib.hid l6
                    have HQ6 := Go.Lib.hid Q6
                    have HQ2 := Go.Lib.hid (HQ2.out.below hb6 (Nat.le_refl _))
                    have HB6 := Go.Lib.hid (HBb.out.trans (hb6.mono HBb.out.size))
                    clear l6 Q6 hb6 cR hlen
                    go_wp2
                    go_roundw
                    case rel => exact ⟨k + 1, n6, D6, cd6, x2, true, by omega, by go_num, rfl, rfl, by omega, x6, y6, HQ6, HB6, HL6, hsrt, Go.Lib.hid (fun _ => by rw [HNX.out HFT.out, HSTP.out]), Go.Lib.hid (fun h => by cases h), HQ2⟩
                    case measure => simp [RowKit.intOf]; omega
                | false =>
                  have he' : (gv != yo) = true := by simpa using he
                  have HFF := Go.Lib.hid (show fitsC x (yk, yo, yn, true, ys) = false from by rw [fitsC_def, HGB.out, HGV.out]; simp [he])
                  clear he
                  go_wp2
                  go_roundw
                  case rel => exact ⟨k + 1, n, D, cd, x, false, by omega, by go_num, rfl, rfl, by omega, hcd1, hcd2, HPb, HBb, HN, HSX, Go.Lib.hid (fun h => by cases h), Go.Lib.hid (fun _ => HST.out HFF.out), HQ2⟩
                  case measure => simp [RowKit.intOf]; omega
          · obtain rfl : k = m1 := by omega
            have h9 := HAP.out rfl
            rw [List.take_of_length_le (by rw [HM.out]; exact Nat.le_refl _), HAPN.out] at h9
            injection h9 with h9
            subst h9
            go_wp2_with fail
            refine (cK _).mono ?_
            rintro e w9 ⟨rfl, hb9⟩
            go_wp2_with fail
            refine (requal_same _ _ _ _ _ _ yy yy HL2.out HN.out ⟨hx2, hy2⟩ ⟨hcd1, hcd2⟩ rfl _ (HQ2.out.below hb9 (Nat.le_refl _)) (HP.out.below hb9 (Nat.le_refl _))).mono ?_
            rintro e w10 ⟨rfl, hb10⟩
            go_wp2
            go_ret
            exact ⟨rfl, (HBW.out.trans (hb9.mono HBW.out.size)).trans (hb10.mono (Nat.le_trans HBW.out.size hb9.size))⟩

  · have g1 : min (m : Int) 20 = 20 := by omega
    have g2 : (20 : Int) ≤ (d : Int) := by omega
    go_enter Try.func12, Try.ntmps12
    go_wp2_with fail
    go_region_held3 (fun _ => True)
      (first
        | trivial
        | go_keep)
      (first
        | (go_at_call 29; (with_reducible refine (cO _ hAd).mono ?_); rintro e w1 ⟨B1, n1, c1, rfl, l1, hx1, hy1, Q1, hb1⟩; have HL1 := Go.Lib.hid l1; clear l1))
    all_goals
      have HC1 := hCd.below hb1
      have HB1 := Go.Lib.hid (hBd.trans (hb1.mono hBd.size))
      have hn1 : n1 ≤ 60 := by have := HL1.out; omega
      clear hb1 hCd hBd hAd cO
      have cA1 := fun w' hP hC => cAp B1 n1 c1 HL1.out ⟨hx1, hy1⟩ (by omega) w' hP hC
      clear cAp
      go_wp2_with fail
      refine (cA1 _ Q1 HC1).mono ?_
      rintro e w2 ⟨B2, n2, c2, rfl, l2, hx2, hy2, Q2, hb2⟩
      have HQ1 := Go.Lib.hid (Q1.below hb2 (Nat.le_refl _))
      have HB1 := Go.Lib.hid (HB1.out.trans (hb2.mono HB1.out.size))
      have HQ2 := Go.Lib.hid Q2
      have HL2 := Go.Lib.hid l2
      clear Q1 hb2 cA1 HC1 Q2 l2
      go_wp2_with fail
      go_loopw [7, 8, 9] (fun v b i wr => ∃ (k n : Nat) (D : Option Addr) (cd : Nat) (x : List Pr) (fl : Bool), k ≤ 20 ∧ i = .int .i64 k ∧ v = .slice D n cd ∧ b = .bool fl ∧ n ≤ 60 + k ∧ n ≤ cd ∧ cd ≤ maxLen ∧ Hid (PrAt wr D x) ∧ Hid (Below w.heap.size w wr) ∧ Hid (x.length = n) ∧ Hid (Srt x) ∧ Hid (fl = true → applyP o (cs.take k) = some x) ∧ Hid (fl = false → applyP o cs = none) ∧ Hid (PrAt wr B2 yy)) (fun _ _ i _ => 20 - (RowKit.intOf i).toNat)
      case atStart => exact ⟨0, n1, B1, c1, o, true, Nat.zero_le _, rfl, rfl, rfl, by omega, hx1, hy1, HQ1, HB1, HL1, HSO, Go.Lib.hid (fun _ => rfl), Go.Lib.hid (fun h => by cases h), HQ2⟩
      case round =>
        obtain ⟨k, n, D, cd, x, fl, hk, rfl, rfl, rfl, hnk, hcd1, hcd2, HP, HBW, HN, HSX, HAP, HNO, HQ2⟩ := hrel
        cases fl with
        | false =>
          by_cases hlt : k < 20
          · have := hlt
            have h9 := HNO.out rfl
            rw [HAPN.out] at h9
            cases h9
          · obtain rfl : k = 20 := by omega
            have h9 := HNO.out rfl
            rw [HAPN.out] at h9
            cases h9
        | true =>
          by_cases hlt : k < 20
          · have hkc : k < cs.length := by rw [HM.out]; exact hlt
            rcases HBC.out with hB0 | ⟨g, o', rfl, hg, hcl⟩
            · rw [hB0] at hkc; exact absurd hkc (Nat.not_lt_zero _)
            obtain ⟨h0, h1, h2, h3, h4⟩ := hcl k hkc
            have c0 := (HBW.out.cell (p := ⟨g, o' + k * 5, none⟩) hg).trans h0
            have c1' := (HBW.out.cell (p := ⟨g, o' + k * 5 + 1, none⟩) hg).trans h1
            have c2 := (HBW.out.cell (p := ⟨g, o' + k * 5 + 2, none⟩) hg).trans h2
            have c3 := (HBW.out.cell (p := ⟨g, o' + k * 5 + 3, none⟩) hg).trans h3
            have c4 := (HBW.out.cell (p := ⟨g, o' + k * 5 + 4, none⟩) hg).trans h4
            have HNX := Go.Lib.hid (fun hf => applyP_next hkc (HAP.out rfl) hf)
            have HST := Go.Lib.hid (fun hf => applyP_stop hkc (HAP.out rfl) hf)
            clear h0 h1 h2 h3 h4 hcl
            generalize cs[k] = y at c0 c1' c2 c3 c4 HNX HST
            obtain ⟨yk, yo, yn, yh, ys⟩ := y
            dsimp only at c0 c1' c2 c3 c4
            have cG := fun w' hD => rget_any D n cd x HN.out ⟨hcd1, hcd2⟩ yk w' hD
            obtain ⟨gb, hgb⟩ : ∃ gb, getB x yk = gb := ⟨_, rfl⟩
            obtain ⟨gv, hgv⟩ : ∃ gv, getV x yk = gv := ⟨_, rfl⟩
            rw [hgb, hgv] at cG
            have HGB := Go.Lib.hid hgb
            have HGV := Go.Lib.hid hgv
            clear hgb hgv
            have Ba : Below wr.heap.size wr (wr.alloc (.cells #[.int .i64 yk, .int .i64 yo, .int .i64 yn, .bool yh, .bool ys] 64)) := (Below.refl _ wr).alloc (Nat.le_refl _) _
            have oa := ObjAt.new wr #[.int .i64 yk, .int .i64 yo, .int .i64 yn, .bool yh, .bool ys] 64
            have HPb := Go.Lib.hid (HP.out.below Ba (Nat.le_refl _))
            have HQ2 := Go.Lib.hid (HQ2.out.below Ba (Nat.le_refl _))
            have HBb := Go.Lib.hid (HBW.out.trans (Ba.mono HBW.out.size))
            have e0 := oa.e0
            have e1 := oa.e1
            have e2 := oa.e2
            have e3 := oa.e3
            have e4 := oa.e4
            go_wp2_with fail
            refine (cG _ HPb.out).mono ?_
            rintro e w5 ⟨rfl, rfl⟩
            clear cG oa Ba c0 c1' c2 c3 c4
            cases gb with
            | false =>
              cases yh with
              | false =>
                have HFT := Go.Lib.hid (show fitsC x (yk, yo, yn, false, ys) = true from by rw [fitsC_def, HGB.out, HGV.out]; simp)
                cases ys with
                | true =>
                  have cR := fun w' hD => rset_out D n cd x HN.out ⟨hcd1, hcd2⟩ (by omega) yk yn w' hD
                  have hlen := set_len x yk yn
                  have hstep : stepC x (yk, yo, yn, false, true) = setP x yk yn := rfl
                  have HSTP := Go.Lib.hid hstep
                  have hsrt := Go.Lib.hid (srt_set HSX.out yk yn)
                  clear hstep
                  generalize setP x yk yn = x2 at cR hlen HSTP hsrt
                  go_wp2_with fail
                  refine (cR _ HPb.out).mono ?_
                  rintro e w6 ⟨D6, n6, cd6, rfl, l6, x6, y6, Q6, hb6⟩
                  have hn6 : n6 ≤ n + 1 := by have := HN.out; omega
                  have HL6 := Go.Lib.hid l6
                  have HQ6 := Go.Lib.hid Q6
                  have HQ2 := Go.Lib.hid (HQ2.out.below hb6 (Nat.le_refl _))
                  have HB6 := Go.Lib.hid (HBb.out.trans (hb6.mono HBb.out.size))
                  clear l6 Q6 hb6 cR hlen
                  go_wp2
                  go_roundw
                  case rel => exact ⟨k + 1, n6, D6, cd6, x2, true, by omega, by go_num, rfl, rfl, by omega, x6, y6, HQ6, HB6, HL6, hsrt, Go.Lib.hid (fun _ => by rw [HNX.out HFT.out, HSTP.out]), Go.Lib.hid (fun h => by cases h), HQ2⟩
                  case measure => simp [RowKit.intOf]; omega
                | false =>
                  have cR := fun w' hD => rclear_out D n cd x HN.out ⟨hcd1, hcd2⟩ (by omega) yk w' hD
                  have hlen := clear_len x yk
                  have hstep : stepC x (yk, yo, yn, false, false) = clearP x yk := rfl
                  have HSTP := Go.Lib.hid hstep
                  have hsrt := Go.Lib.hid (srt_clear HSX.out yk)
                  clear hstep
                  generalize clearP x yk = x2 at cR hlen HSTP hsrt
                  go_wp2_with fail
                  refine (cR _ HPb.out).mono ?_
                  rintro e w6 ⟨D6, n6, cd6, rfl, l6, x6, y6, Q6, hb6⟩
                  have hn6 : n6 ≤ n := by have := HN.out; omega
                  have HL6 := Go.Lib.hid l6
                  have HQ6 := Go.Lib.hid Q6
                  have HQ2 := Go.Lib.hid (HQ2.out.below hb6 (Nat.le_refl _))
                  have HB6 := Go.Lib.hid (HBb.out.trans (hb6.mono HBb.out.size))
                  clear l6 Q6 hb6 cR hlen
                  go_wp2
                  go_roundw
                  case rel => exact ⟨k + 1, n6, D6, cd6, x2, true, by omega, by go_num, rfl, rfl, by omega, x6, y6, HQ6, HB6, HL6, hsrt, Go.Lib.hid (fun _ => by rw [HNX.out HFT.out, HSTP.out]), Go.Lib.hid (fun h => by cases h), HQ2⟩
                  case measure => simp [RowKit.intOf]; omega
              | true =>
                have HFF := Go.Lib.hid (show fitsC x (yk, yo, yn, true, ys) = false from by rw [fitsC_def, HGB.out, HGV.out]; simp)
                go_wp2
                go_roundw
                case rel => exact ⟨k + 1, n, D, cd, x, false, by omega, by go_num, rfl, rfl, by omega, hcd1, hcd2, HPb, HBb, HN, HSX, Go.Lib.hid (fun h => by cases h), Go.Lib.hid (fun _ => HST.out HFF.out), HQ2⟩
                case measure => simp [RowKit.intOf]; omega
            | true =>
              cases yh with
              | false =>
                have HFF := Go.Lib.hid (show fitsC x (yk, yo, yn, false, ys) = false from by rw [fitsC_def, HGB.out, HGV.out]; simp)
                go_wp2
                go_roundw
                case rel => exact ⟨k + 1, n, D, cd, x, false, by omega, by go_num, rfl, rfl, by omega, hcd1, hcd2, HPb, HBb, HN, HSX, Go.Lib.hid (fun h => by cases h), Go.Lib.hid (fun _ => HST.out HFF.out), HQ2⟩
                case measure => simp [RowKit.intOf]; omega
              | true =>
                cases he : (gv == yo) with
                | true =>
                  have he' : (gv != yo) = false := by simpa using he
                  have HFT := Go.Lib.hid (show fitsC x (yk, yo, yn, true, ys) = true from by rw [fitsC_def, HGB.out, HGV.out]; simp [he])
                  clear he
                  cases ys with
                  | true =>
                    have cR := fun w' hD => rset_out D n cd x HN.out ⟨hcd1, hcd2⟩ (by omega) yk yn w' hD
                    have hlen := set_len x yk yn
                    have hstep : stepC x (yk, yo, yn, true, true) = setP x yk yn := rfl
                    have HSTP := Go.Lib.hid hstep
                    have hsrt := Go.Lib.hid (srt_set HSX.out yk yn)
                    clear hstep
                    generalize setP x yk yn = x2 at cR hlen HSTP hsrt
                    go_wp2_with fail
                    refine (cR _ HPb.out).mono ?_
                    rintro e w6 ⟨D6, n6, cd6, rfl, l6, x6, y6, Q6, hb6⟩
                    have hn6 : n6 ≤ n + 1 := by have := HN.out; omega
                    have HL6 := Go.Lib.hid l6
                    have HQ6 := Go.Lib.hid Q6
                    have HQ2 := Go.Lib.hid (HQ2.out.below hb6 (Nat.le_refl _))
                    have HB6 := Go.Lib.hid (HBb.out.trans (hb6.mono HBb.out.size))
                    clear l6 Q6 hb6 cR hlen
                    go_wp2
                    go_roundw
                    case rel => exact ⟨k + 1, n6, D6, cd6, x2, true, by omega, by go_num, rfl, rfl, by omega, x6, y6, HQ6, HB6, HL6, hsrt, Go.Lib.hid (fun _ => by rw [HNX.out HFT.out, HSTP.out]), Go.Lib.hid (fun h => by cases h), HQ2⟩
                    case measure => simp [RowKit.intOf]; omega
                  | false =>
                    have cR := fun w' hD => rclear_out D n cd x HN.out ⟨hcd1, hcd2⟩ (by omega) yk w' hD
                    have hlen := clear_len x yk
                    have hstep : stepC x (yk, yo, yn, true, false) = clearP x yk := rfl
                    have HSTP := Go.Lib.hid hstep
                    have hsrt := Go.Lib.hid (srt_clear HSX.out yk)
                    clear hstep
                    generalize clearP x yk = x2 at cR hlen HSTP hsrt
                    go_wp2_with fail
                    refine (cR _ HPb.out).mono ?_
                    rintro e w6 ⟨D6, n6, cd6, rfl, l6, x6, y6, Q6, hb6⟩
                    have hn6 : n6 ≤ n := by have := HN.out; omega
                    have HL6 := Go.Lib.hid l6
                    have HQ6 := Go.Lib.hid Q6
                    have HQ2 := Go.Lib.hid (HQ2.out.below hb6 (Nat.le_refl _))
                    have HB6 := Go.Lib.hid (HBb.out.trans (hb6.mono HBb.out.size))
                    clear l6 Q6 hb6 cR hlen
                    go_wp2
                    go_roundw
                    case rel => exact ⟨k + 1, n6, D6, cd6, x2, true, by omega, by go_num, rfl, rfl, by omega, x6, y6, HQ6, HB6, HL6, hsrt, Go.Lib.hid (fun _ => by rw [HNX.out HFT.out, HSTP.out]), Go.Lib.hid (fun h => by cases h), HQ2⟩
                    case measure => simp [RowKit.intOf]; omega
                | false =>
                  have he' : (gv != yo) = true := by simpa using he
                  have HFF := Go.Lib.hid (show fitsC x (yk, yo, yn, true, ys) = false from by rw [fitsC_def, HGB.out, HGV.out]; simp [he])
                  clear he
                  go_wp2
                  go_roundw
                  case rel => exact ⟨k + 1, n, D, cd, x, false, by omega, by go_num, rfl, rfl, by omega, hcd1, hcd2, HPb, HBb, HN, HSX, Go.Lib.hid (fun h => by cases h), Go.Lib.hid (fun _ => HST.out HFF.out), HQ2⟩
                  case measure => simp [RowKit.intOf]; omega
          · obtain rfl : k = 20 := by omega
            have h9 := HAP.out rfl
            rw [List.take_of_length_le (by rw [HM.out]; exact Nat.le_refl _), HAPN.out] at h9
            injection h9 with h9
            subst h9
            go_wp2_with fail
            refine (cK _).mono ?_
            rintro e w9 ⟨rfl, hb9⟩
            go_wp2_with fail
            refine (requal_same _ _ _ _ _ _ yy yy HL2.out HN.out ⟨hx2, hy2⟩ ⟨hcd1, hcd2⟩ rfl _ (HQ2.out.below hb9 (Nat.le_refl _)) (HP.out.below hb9 (Nat.le_refl _))).mono ?_
            rintro e w10 ⟨rfl, hb10⟩
            go_wp2
            go_ret
            exact ⟨rfl, (HBW.out.trans (hb9.mono HBW.out.size)).trans (hb10.mono (Nat.le_trans HBW.out.size hb9.size))⟩

end Go.Proofs.Ytjdjfokfilnnoaa
