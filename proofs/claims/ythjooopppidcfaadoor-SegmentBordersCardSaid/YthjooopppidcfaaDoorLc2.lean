/- Layer 3: the law Borders. -/
import Derived.Test.YthjooopppidcfaaDoorPb1
import Derived.Test.YthjooopppidcfaaDoorLb1
import Derived.StillTailTactics
namespace Go.Proofs.YthjooopppidcfaaDoor
open Go.RowKit Go.Shelf
open Gc

attribute [local irreducible] wpStill in
set_option maxRecDepth 100000 in
set_option maxHeartbeats 16000000 in
theorem law_borders (s : ByteArray) (hs : s.size ≤ maxLen) (w : World) (hT : Tabs w) : Calls Tryd.prog 10 #[.string s] w (BoolPost true w) := by
  obtain ⟨P, bad, h⟩ := str_cut3 s
  have hl := str_len3 h
  have HT := Go.Lib.hid hT
  clear hT
  have cC := fun w => short_any s hs w
  generalize cut3 s = c at h cC
  by_cases hb : bad = []
  · subst hb
    have cA := fun w' hT' => tokens_ok h (by omega) w' hT'
    have cB := fun w' hT' => breaks_ok h (by omega) w' hT'
    have cP := fun w' => points_ok h w'
    have cCl := fun q w' => sclass_any q w'
    unfold IntPost at cCl
    have hul := utok_len P
    have BN := Go.Lib.hid (fun k h => brk_num P k h)
    have hbl : (ubrk P).length ≤ 240 := by
      have h1 := brkTo_len P (segC P).length
      rw [brkTo_all] at h1
      have h2 := clu_le P
      rw [clu_len, ← segC_len] at h2
      omega
    unfold TokensRet at cA
    unfold BreaksRet at cB
    generalize hL : utok P = L at cA hul
    have TL := Go.Lib.hid hL
    clear hL
    generalize hBB : ubrk P = B at cB hbl
    have BL := Go.Lib.hid hBB
    clear hBB
    obtain ⟨n, hn⟩ : ∃ n, L.length = n := ⟨_, rfl⟩
    obtain ⟨m, hm⟩ : ∃ m, B.length = m := ⟨_, rfl⟩
    have NN := Go.Lib.hid hn
    have MM := Go.Lib.hid hm
    rw [hn] at hul
    rw [hm] at hbl
    simp only [hn] at cA
    simp only [hm] at cB
    clear h hn hm
    go_enter Tryd.func10, Tryd.ntmps10
    go_wp2_with (first
      | (go_at_call 15; (with_reducible refine (cC _).mono ?_); rintro e w' ⟨rfl, rfl⟩)
      | (go_at_call 16; (with_reducible refine (cA _ HT.out).mono ?_); rintro e w1 ⟨A1, p1, rfl, T1, b1⟩; have K1 := Go.Lib.hid T1; have B1 := Go.Lib.hid b1; clear T1 b1)
      | (go_at_call 27; (with_reducible refine (cB _ (HT.out.below B1.out)).mono ?_); rintro e w2 ⟨A2, p2, rfl, T2, b2⟩; have D2 := Go.Lib.hid T2; have K2 := Go.Lib.hid (K1.out.below b2 (Nat.le_refl _)); have B2 := Go.Lib.hid (B1.out.trans (b2.mono B1.out.size)); clear T2 b2)
      | (go_at_call 18; (with_reducible refine (cP _).mono ?_); rintro e w3 ⟨v1, v2, rfl, i1, i2, b3⟩; obtain ⟨A3, p3, rfl, hPA⟩ := pat_ints i1; have PA := Go.Lib.hid hPA; have K3 := Go.Lib.hid (K2.out.below b3 (Nat.le_refl _)); have D3 := Go.Lib.hid (D2.out.below b3 (Nat.le_refl _)); have B3 := Go.Lib.hid (B2.out.trans (b3.mono B2.out.size)); clear i1 i2 b3 hPA)
      | (go_at_call 12; (with_reducible refine (known_any _ (HT.out.below B3.out)).mono ?_); rintro e w4 ⟨rfl, b4⟩; have PA4 := Go.Lib.hid (PA.out.below b4 (Nat.le_refl _)); have K4 := Go.Lib.hid (K3.out.below b4 (Nat.le_refl _)); have D4 := Go.Lib.hid (D3.out.below b4 (Nat.le_refl _)); have B4 := Go.Lib.hid (B3.out.trans (b4.mono B3.out.size)); clear b4))
    clear cA cB cP cC
    go_loopw [10] (fun s10 wr => ∃ k : Nat, k ≤ m ∧ s10 = .int .i64 (k : Nat) ∧ Hid (Below w4.heap.size w4 wr)) (fun i _ => m - (RowKit.intOf i).toNat)
    case atStart => exact ⟨0, Nat.zero_le _, rfl, Go.Lib.hid (Below.refl _ _)⟩
    case round =>
      obtain ⟨k, hk, rfl, HB⟩ := hrel
      by_cases hlt : k < m
      · have hkl : k < B.length := by rw [MM.out]; exact hlt
        have hne : B ≠ [] := by intro h0; rw [h0] at hkl; exact absurd hkl (Nat.not_lt_zero _)
        rcases D4.out with h0 | ⟨gB, rfl, hgB, hcB⟩
        · exact absurd h0 hne
        have bn := BN.out k (by rw [BL.out]; exact hkl)
        obtain ⟨t1, t2, t3, t4, t5⟩ := bn
        rw [BL.out] at t1 t2 t3 t4 t5
        rcases PA4.out with hP0 | ⟨gp, rfl, hgp, hpc⟩
        · rw [hP0] at t2; exact absurd t2 (Nat.not_lt_zero _)
        obtain ⟨y0, y1⟩ := hcB k hkl
        rw [bk_get B k hkl] at y0 y1
        have z0 := hpc _ t2
        have HCB := Go.Lib.hid hcB
        rw [List.getD_eq_getElem?_getD, List.getElem?_eq_getElem t2, Option.getD_some] at t4
        generalize (P[(bk B k).1] : Nat) = pq at z0 t4
        generalize bk B k = x at y0 y1 t1 t2 t3 t4 t5 z0
        obtain ⟨f, kd⟩ := x
        dsimp only at y0 y1 t1 t2 t3 t4 t5 z0
        have BOR := Go.Lib.hid t5
        have T3 := Go.Lib.hid t3
        have T4 := Go.Lib.hid t4
        have u0 := (HB.out.cell (p := ⟨gB, k * 2, none⟩) hgB).trans y0
        have u1 := (HB.out.cell (p := ⟨gB, k * 2 + 1, none⟩) hgB).trans y1
        have up := (HB.out.cell (p := ⟨gp, f, none⟩) hgp).trans z0
        have q1 : decide ((f : Int) < 1) = false := by simp; omega
        have q2 : decide (P.length ≤ f) = false := by simp; omega
        clear y1 hcB hpc hne hkl t3 t4 t5 z0
        by_cases hk0 : 0 < k
        · obtain ⟨k', rfl⟩ : ∃ k', k = k' + 1 := ⟨k - 1, by omega⟩
          have t3 := T3.out hk0
          rw [Nat.add_sub_cancel] at t3
          have hk' : k' < B.length := by rw [MM.out]; omega
          have x0 := (HCB.out k' hk').1
          rw [bk_get B k' hk'] at x0
          have uv := (HB.out.cell (p := ⟨gB, k' * 2, none⟩) hgB).trans x0
          generalize (bk B k').1 = fp at uv t3
          have hw1 : IntKind.i64.wrap (k' : Int) = (k' : Int) := IntWalk.i64_in _ (by omega)
          have hkn' : k' < m := by omega
          have q3 : decide (f ≤ fp) = false := by simp; omega
          clear x0 hk' t3
          by_cases h2 : kd = 2
          · subst h2
            go_wp2
            go_quiet (fail)
            have HBD := Go.Lib.hid (bdrew HB.out nq)
            have HRD := Go.Lib.hid (bdrew (Below.refl wr.heap.size wr) nq)
            clear u0 u1
            generalize wr.drewN nq = wd at HBD HRD ⊢
            go_wp2
            go_loopw [11, 12] (fun s11 s12 wx => ∃ (j : Nat) (b : Bool), j ≤ n ∧ s12 = .int .i64 (j : Nat) ∧ s11 = .bool b ∧ Hid (b = amongT L f j) ∧ Hid (Below w4.heap.size w4 wx) ∧ Hid (Below wr.heap.size wr wx)) (fun _ s12 _ => n - (RowKit.intOf s12).toNat)
            case atStart => exact ⟨0, false, Nat.zero_le _, rfl, rfl, Go.Lib.hid rfl, HBD, HRD⟩
            case round =>
              obtain ⟨j, b, hj, rfl, rfl, J, HX, HRX⟩ := hrel
              by_cases hjn : j < n
              · have hjl : j < L.length := by rw [NN.out]; exact hjn
                have hne2 : L ≠ [] := by intro h0; rw [h0] at hjl; exact absurd hjl (Nat.not_lt_zero _)
                rcases K4.out with h0 | ⟨gt, rfl, hgt, hct⟩
                · exact absurd h0 hne2
                have x1 := (hct j hjl).2.1
                rw [tk_get L j hjl] at x1
                have cj := (HX.out.cell (p := ⟨gt, j * 3 + 1, none⟩) hgt).trans x1
                have cb := (HX.out.cell (p := ⟨gB, (k' + 1) * 2, none⟩) hgB).trans y0
                have HA := Go.Lib.hid (amongT_succ L f j hjl)
                generalize (tk L j).2.1 = y at cj HA
                clear hjl hne2 hct x1
                cases b with
                | true =>
                  go_wp2
                  go_quiet (fail)
                  clear cj cb
                  go_wp2
                  go_roundw
                  case rel => exact ⟨j + 1, true, by omega, by go_num, rfl, Go.Lib.hid (by rw [HA.out, ← J.out]; rfl), Go.Lib.hid (bdrew HX.out _), Go.Lib.hid (bdrew HRX.out _)⟩
                  case measure => simp [RowKit.intOf]; omega
                | false =>
                  by_cases hy : y = f
                  · subst hy
                    go_wp2
                    go_quiet (fail)
                    clear cj cb
                    go_wp2
                    go_roundw
                    case rel => exact ⟨j + 1, true, by omega, by go_num, by simp, Go.Lib.hid (by rw [HA.out]; simp), Go.Lib.hid (bdrew HX.out _), Go.Lib.hid (bdrew HRX.out _)⟩
                    case measure => simp [RowKit.intOf]; omega
                  · have ky : ((y : Int) == (f : Int)) = false := neB (by omega)
                    have KY := Go.Lib.hid (show (y == f) = false by simpa using hy)
                    clear hy
                    go_wp2
                    go_quiet (fail)
                    clear cj cb
                    go_wp2
                    go_roundw
                    case rel => exact ⟨j + 1, false, by omega, by go_num, by first | (simp; done) | simpa using ky, Go.Lib.hid (by rw [HA.out, ← J.out, KY.out]; rfl), Go.Lib.hid (bdrew HX.out _), Go.Lib.hid (bdrew HRX.out _)⟩
                    case measure => simp [RowKit.intOf]; omega
              · have hbt : b = true := by rw [J.out]; exact amongT_all _ _ _ (by rw [NN.out]; omega) (by rw [TL.out] at BOR; exact BOR.out)
                subst hbt
                go_wp2
                go_roundw
                case rel => exact ⟨(k' + 1) + 1, by omega, by go_num, HX⟩
                case measure => simp [RowKit.intOf]; omega
          · have r1 : (kd != 2) = true := by simpa using h2
            have r2 : (Sg.classOf ((pq : Nat) : Int) == 2) = false := neB (T4.out h2)
            clear h2
            have p0 : (0 : Int) ≤ (k' : Int) + 1 := by omega
            have p1 : (k' : Int) + 1 < (m : Int) := by omega
            have p2 : (0 : Int) < (k' : Int) + 1 := by omega
            have ccl := fun w' => cCl ((pq : Nat) : Int) w'
            generalize Sg.classOf ((pq : Nat) : Int) = cq at ccl r2
            clear cCl
            go_wp2
            refine wp_region_still_tail 50 (by kernel_rfl) (by kernel_rfl) ?_
            simp only [List.take_succ_cons, List.take_zero, List.drop_succ_cons, List.drop_zero]
            change wpStill _ _ (World.drew _) _ _ _
            repeat still_step
            refine wpStill_nil ?_
            change wpList _ _ _ _ _ (World.drew _)
            clear u0 u1 up uv
            go_wp2_with (go_at_call 13; (with_reducible refine (ccl _).mono ?_); rintro en wd ⟨rfl, hb6⟩; have HRD := Go.Lib.hid ((bdrew1 (Below.refl wr.heap.size wr)).trans hb6); have HBD := Go.Lib.hid (HB.out.trans (HRD.out.mono HB.out.size)); clear hb6)
            go_loopw [11, 12] (fun s11 s12 wx => ∃ (j : Nat) (b : Bool), j ≤ n ∧ s12 = .int .i64 (j : Nat) ∧ s11 = .bool b ∧ Hid (b = amongT L f j) ∧ Hid (Below w4.heap.size w4 wx) ∧ Hid (Below wr.heap.size wr wx)) (fun _ s12 _ => n - (RowKit.intOf s12).toNat)
            case atStart => exact ⟨0, false, Nat.zero_le _, rfl, rfl, Go.Lib.hid rfl, HBD, HRD⟩
            case round =>
              obtain ⟨j, b, hj, rfl, rfl, J, HX, HRX⟩ := hrel
              by_cases hjn : j < n
              · have hjl : j < L.length := by rw [NN.out]; exact hjn
                have hne2 : L ≠ [] := by intro h0; rw [h0] at hjl; exact absurd hjl (Nat.not_lt_zero _)
                rcases K4.out with h0 | ⟨gt, rfl, hgt, hct⟩
                · exact absurd h0 hne2
                have x1 := (hct j hjl).2.1
                rw [tk_get L j hjl] at x1
                have cj := (HX.out.cell (p := ⟨gt, j * 3 + 1, none⟩) hgt).trans x1
                have cb := (HX.out.cell (p := ⟨gB, (k' + 1) * 2, none⟩) hgB).trans y0
                have HA := Go.Lib.hid (amongT_succ L f j hjl)
                generalize (tk L j).2.1 = y at cj HA
                clear hjl hne2 hct x1
                cases b with
                | true =>
                  go_wp2
                  go_quiet (fail)
                  clear cj cb
                  go_wp2
                  go_roundw
                  case rel => exact ⟨j + 1, true, by omega, by go_num, rfl, Go.Lib.hid (by rw [HA.out, ← J.out]; rfl), Go.Lib.hid (bdrew HX.out _), Go.Lib.hid (bdrew HRX.out _)⟩
                  case measure => simp [RowKit.intOf]; omega
                | false =>
                  by_cases hy : y = f
                  · subst hy
                    go_wp2
                    go_quiet (fail)
                    clear cj cb
                    go_wp2
                    go_roundw
                    case rel => exact ⟨j + 1, true, by omega, by go_num, by simp, Go.Lib.hid (by rw [HA.out]; simp), Go.Lib.hid (bdrew HX.out _), Go.Lib.hid (bdrew HRX.out _)⟩
                    case measure => simp [RowKit.intOf]; omega
                  · have ky : ((y : Int) == (f : Int)) = false := neB (by omega)
                    have KY := Go.Lib.hid (show (y == f) = false by simpa using hy)
                    clear hy
                    go_wp2
                    go_quiet (fail)
                    clear cj cb
                    go_wp2
                    go_roundw
                    case rel => exact ⟨j + 1, false, by omega, by go_num, by first | (simp; done) | simpa using ky, Go.Lib.hid (by rw [HA.out, ← J.out, KY.out]; rfl), Go.Lib.hid (bdrew HX.out _), Go.Lib.hid (bdrew HRX.out _)⟩
                    case measure => simp [RowKit.intOf]; omega
              · have hbt : b = true := by rw [J.out]; exact amongT_all _ _ _ (by rw [NN.out]; omega) (by rw [TL.out] at BOR; exact BOR.out)
                subst hbt
                go_wp2
                go_roundw
                case rel => exact ⟨(k' + 1) + 1, by omega, by go_num, HX⟩
                case measure => simp [RowKit.intOf]; omega
        · obtain rfl : k = 0 := by omega
          rw [show ((0 : Nat) : Int) = 0 from rfl]
          clear hk0
          simp only [Nat.zero_mul, Nat.zero_add] at u0 u1
          by_cases h2 : kd = 2
          · subst h2
            go_wp2
            go_quiet (fail)
            have HBD := Go.Lib.hid (bdrew HB.out nq)
            have HRD := Go.Lib.hid (bdrew (Below.refl wr.heap.size wr) nq)
            clear u0 u1
            generalize wr.drewN nq = wd at HBD HRD ⊢
            go_wp2
            go_loopw [11, 12] (fun s11 s12 wx => ∃ (j : Nat) (b : Bool), j ≤ n ∧ s12 = .int .i64 (j : Nat) ∧ s11 = .bool b ∧ Hid (b = amongT L f j) ∧ Hid (Below w4.heap.size w4 wx) ∧ Hid (Below wr.heap.size wr wx)) (fun _ s12 _ => n - (RowKit.intOf s12).toNat)
            case atStart => exact ⟨0, false, Nat.zero_le _, rfl, rfl, Go.Lib.hid rfl, HBD, HRD⟩
            case round =>
              obtain ⟨j, b, hj, rfl, rfl, J, HX, HRX⟩ := hrel
              by_cases hjn : j < n
              · have hjl : j < L.length := by rw [NN.out]; exact hjn
                have hne2 : L ≠ [] := by intro h0; rw [h0] at hjl; exact absurd hjl (Nat.not_lt_zero _)
                rcases K4.out with h0 | ⟨gt, rfl, hgt, hct⟩
                · exact absurd h0 hne2
                have x1 := (hct j hjl).2.1
                rw [tk_get L j hjl] at x1
                have cj := (HX.out.cell (p := ⟨gt, j * 3 + 1, none⟩) hgt).trans x1
                have cb := (HX.out.cell (p := ⟨gB, 0 * 2, none⟩) hgB).trans y0
                have HA := Go.Lib.hid (amongT_succ L f j hjl)
                generalize (tk L j).2.1 = y at cj HA
                clear hjl hne2 hct x1
                cases b with
                | true =>
                  go_wp2
                  go_quiet (fail)
                  clear cj cb
                  go_wp2
                  go_roundw
                  case rel => exact ⟨j + 1, true, by omega, by go_num, rfl, Go.Lib.hid (by rw [HA.out, ← J.out]; rfl), Go.Lib.hid (bdrew HX.out _), Go.Lib.hid (bdrew HRX.out _)⟩
                  case measure => simp [RowKit.intOf]; omega
                | false =>
                  by_cases hy : y = f
                  · subst hy
                    go_wp2
                    go_quiet (fail)
                    clear cj cb
                    go_wp2
                    go_roundw
                    case rel => exact ⟨j + 1, true, by omega, by go_num, by simp, Go.Lib.hid (by rw [HA.out]; simp), Go.Lib.hid (bdrew HX.out _), Go.Lib.hid (bdrew HRX.out _)⟩
                    case measure => simp [RowKit.intOf]; omega
                  · have ky : ((y : Int) == (f : Int)) = false := neB (by omega)
                    have KY := Go.Lib.hid (show (y == f) = false by simpa using hy)
                    clear hy
                    go_wp2
                    go_quiet (fail)
                    clear cj cb
                    go_wp2
                    go_roundw
                    case rel => exact ⟨j + 1, false, by omega, by go_num, by first | (simp; done) | simpa using ky, Go.Lib.hid (by rw [HA.out, ← J.out, KY.out]; rfl), Go.Lib.hid (bdrew HX.out _), Go.Lib.hid (bdrew HRX.out _)⟩
                    case measure => simp [RowKit.intOf]; omega
              · have hbt : b = true := by rw [J.out]; exact amongT_all _ _ _ (by rw [NN.out]; omega) (by rw [TL.out] at BOR; exact BOR.out)
                subst hbt
                go_wp2
                go_roundw
                case rel => exact ⟨0 + 1, by omega, by go_num, HX⟩
                case measure => simp [RowKit.intOf]; omega
          · have r1 : (kd != 2) = true := by simpa using h2
            have r2 : (Sg.classOf ((pq : Nat) : Int) == 2) = false := neB (T4.out h2)
            clear h2
            have ccl := fun w' => cCl ((pq : Nat) : Int) w'
            generalize Sg.classOf ((pq : Nat) : Int) = cq at ccl r2
            clear cCl
            go_wp2
            refine wp_region_still_tail 50 (by kernel_rfl) (by kernel_rfl) ?_
            simp only [List.take_succ_cons, List.take_zero, List.drop_succ_cons, List.drop_zero]
            change wpStill _ _ (World.drew _) _ _ _
            repeat still_step
            refine wpStill_nil ?_
            change wpList _ _ _ _ _ (World.drew _)
            clear u0 u1 up
            go_wp2_with (go_at_call 13; (with_reducible refine (ccl _).mono ?_); rintro en wd ⟨rfl, hb6⟩; have HRD := Go.Lib.hid ((bdrew1 (Below.refl wr.heap.size wr)).trans hb6); have HBD := Go.Lib.hid (HB.out.trans (HRD.out.mono HB.out.size)); clear hb6)
            go_loopw [11, 12] (fun s11 s12 wx => ∃ (j : Nat) (b : Bool), j ≤ n ∧ s12 = .int .i64 (j : Nat) ∧ s11 = .bool b ∧ Hid (b = amongT L f j) ∧ Hid (Below w4.heap.size w4 wx) ∧ Hid (Below wr.heap.size wr wx)) (fun _ s12 _ => n - (RowKit.intOf s12).toNat)
            case atStart => exact ⟨0, false, Nat.zero_le _, rfl, rfl, Go.Lib.hid rfl, HBD, HRD⟩
            case round =>
              obtain ⟨j, b, hj, rfl, rfl, J, HX, HRX⟩ := hrel
              by_cases hjn : j < n
              · have hjl : j < L.length := by rw [NN.out]; exact hjn
                have hne2 : L ≠ [] := by intro h0; rw [h0] at hjl; exact absurd hjl (Nat.not_lt_zero _)
                rcases K4.out with h0 | ⟨gt, rfl, hgt, hct⟩
                · exact absurd h0 hne2
                have x1 := (hct j hjl).2.1
                rw [tk_get L j hjl] at x1
                have cj := (HX.out.cell (p := ⟨gt, j * 3 + 1, none⟩) hgt).trans x1
                have cb := (HX.out.cell (p := ⟨gB, 0 * 2, none⟩) hgB).trans y0
                have HA := Go.Lib.hid (amongT_succ L f j hjl)
                generalize (tk L j).2.1 = y at cj HA
                clear hjl hne2 hct x1
                cases b with
                | true =>
                  go_wp2
                  go_quiet (fail)
                  clear cj cb
                  go_wp2
                  go_roundw
                  case rel => exact ⟨j + 1, true, by omega, by go_num, rfl, Go.Lib.hid (by rw [HA.out, ← J.out]; rfl), Go.Lib.hid (bdrew HX.out _), Go.Lib.hid (bdrew HRX.out _)⟩
                  case measure => simp [RowKit.intOf]; omega
                | false =>
                  by_cases hy : y = f
                  · subst hy
                    go_wp2
                    go_quiet (fail)
                    clear cj cb
                    go_wp2
                    go_roundw
                    case rel => exact ⟨j + 1, true, by omega, by go_num, by simp, Go.Lib.hid (by rw [HA.out]; simp), Go.Lib.hid (bdrew HX.out _), Go.Lib.hid (bdrew HRX.out _)⟩
                    case measure => simp [RowKit.intOf]; omega
                  · have ky : ((y : Int) == (f : Int)) = false := neB (by omega)
                    have KY := Go.Lib.hid (show (y == f) = false by simpa using hy)
                    clear hy
                    go_wp2
                    go_quiet (fail)
                    clear cj cb
                    go_wp2
                    go_roundw
                    case rel => exact ⟨j + 1, false, by omega, by go_num, by first | (simp; done) | simpa using ky, Go.Lib.hid (by rw [HA.out, ← J.out, KY.out]; rfl), Go.Lib.hid (bdrew HX.out _), Go.Lib.hid (bdrew HRX.out _)⟩
                    case measure => simp [RowKit.intOf]; omega
              · have hbt : b = true := by rw [J.out]; exact amongT_all _ _ _ (by rw [NN.out]; omega) (by rw [TL.out] at BOR; exact BOR.out)
                subst hbt
                go_wp2
                go_roundw
                case rel => exact ⟨0 + 1, by omega, by go_num, HX⟩
                case measure => simp [RowKit.intOf]; omega
      · go_wp2
        go_ret
        exact ⟨rfl, B4.out.trans (HB.out.mono B4.out.size)⟩
  · have cA := fun w' => tokens_bad h hb w'
    have cB := fun w' => breaks_bad h hb w'
    have cP := fun w' => points_bad h hb w'
    clear h
    go_enter Tryd.func10, Tryd.ntmps10
    go_wp2_with (first
      | (go_at_call 15; (with_reducible refine (cC _).mono ?_); rintro e w' ⟨rfl, rfl⟩)
      | (go_at_call 16; (with_reducible refine (cA _).mono ?_); rintro e w1 ⟨rfl, b1⟩; have B1 := Go.Lib.hid b1; clear b1)
      | (go_at_call 27; (with_reducible refine (cB _).mono ?_); rintro e w2 ⟨rfl, b2⟩; have B2 := Go.Lib.hid (B1.out.trans (b2.mono B1.out.size)); clear b2)
      | (go_at_call 18; (with_reducible refine (cP _).mono ?_); rintro e w3 ⟨rfl, b3⟩; have B3 := Go.Lib.hid (B2.out.trans (b3.mono B2.out.size)); clear b3)
      | (go_at_call 12; (with_reducible refine (known_any w3 (HT.out.below B3.out)).mono ?_); rintro e w4 ⟨rfl, b4⟩; have B4 := Go.Lib.hid (B3.out.trans (b4.mono B3.out.size)); clear b4)
      | (go_at_call 12; (with_reducible refine (known_any w4 (HT.out.below B4.out)).mono ?_); rintro e w5 ⟨rfl, b5⟩; have B5 := Go.Lib.hid (B4.out.trans (b5.mono B4.out.size)); clear b5))
    go_ret
    exact ⟨rfl, B5.out⟩
end Go.Proofs.YthjooopppidcfaaDoor
