/- Layer 5: replace where there are no runs. -/
import Derived.Test.YtioehncdkdfcmaaC2
namespace Go.Proofs.Ytioehncdkdfcmaa
open Go.RowKit Go.Lib Im

theorem mp_fin0 {w wr w5 : World} {b g G n5 c5 : Nat} {R5 : List Rn} {B5 : Option Addr} {u : Value} (hfr : Fr b g w wr) (hbx : Boxed w5 b 84 u) (ho : w5.ownsRow 0 34 3 (.slice B5 n5 c5) n5 (rowR R5)) (hl : R5.length = n5)
    (hb : Below 0 wr w5) (hkp : Kp G wr w5) (hwr : Whr G wr (.returned (.slice B5 n5 c5))) (hG : wr.heap.size ≤ G) : MpR w b g R5 (w5.setCell ⟨b, 0, none⟩ (.slice B5 n5 c5)) := by
  have hkp' : Kp g wr w5 := ⟨hkp.1, fun k hk _ => hkp.2 k hk (by omega)⟩
  refine mp_fin hfr hbx ho hl hb hkp' (fun a n c e => ?_)
  rcases hwr a n c e with h | h
  · exact .inr (by omega)
  · exact .inr h
set_option maxRecDepth 100000 in
set_option maxHeartbeats 16000000 in
theorem replace_none (b g cA : Nat) (A : Option Addr) (N : List Rn) (d : Int) (NA : Option Addr) (nN cN : Nat) (w : World) (hbx : Boxed w b 84 (.slice A 0 cA)) (hown : w.ownsRow 0 34 3 (.slice A 0 cA) 0 (rowR [])) (hA : ∀ k, A = some ⟨k, 0, none⟩ → k = g)
    (hN : RnAt w NA N) (hNl : N.length = nN) (hNc : nN ≤ 400000) : 
    Calls Try.prog 45 #[.pointer (some ⟨b, 0, none⟩), .int .i64 0, .int .i64 0, .int .i64 d, .slice NA nN cN] w (fun e w' => e = .returned (.tuple #[]) ∧ MpR w b g (N.foldl app []) w') := by
  have hRA := own_rnat hown rfl
  have hCn : Ch 0 ([] : List Rn) 0 := rfl
  have cT := search_T [] (ch_sortT hCn) A cA 0 w (by simp) hRA
  have cF := fun w' h => search_F [] (ch_sortF hCn) A cA 1 w' (by simp) h
  rw [List.length_nil] at cT
  simp only [List.length_nil] at cF
  have HRA := Go.Lib.hid hRA
  have HOWN := Go.Lib.hid hown
  have HBX := Go.Lib.hid hbx
  have HN := Go.Lib.hid hN
  have HNL := Go.Lib.hid hNl
  have HA := Go.Lib.hid hA
  have hbc := hbx.cell
  obtain ⟨hcap, hcm⟩ := own_caps hown
  unfold maxLen at hcm
  have HSEP : Hid (∀ B, w.heap.size ≤ B → ∀ g' h, A = some ⟨g', 0, none⟩ → (some (⟨B, 0, none⟩ : Addr)) = some ⟨h, 0, none⟩ → h ≠ g') := Go.Lib.hid (fun B hB g' h e1 e2 => by
    have := (HOWN.out.lt g' (by rw [e1]; rfl)).2
    injection e2 with e2
    injection e2 with e2 _ _
    omega)
  clear hown hbx hN hNl hRA hA hCn
  have hcz : 0 ≤ cA := Nat.zero_le _
  rcases A with _ | a
  · obtain rfl : cA = 0 := by
      rcases HOWN.out.2 with ⟨h, _⟩ | ⟨_, _, _, h, _⟩
      · injection h
      · injection h with h; cases h
    go_enter Try.func45, Try.ntmps45
    go_wp2_with fail
    with_reducible refine cT.mono ?_
    rintro e w1 ⟨i, hT, hb1, rfl⟩
    obtain rfl : i = 0 := Nat.le_zero.1 hT.1
    have HRA1 := Go.Lib.hid (HRA.out.below hb1)
    have hbc1 := (hb1.cell (p := ⟨b, 0, none⟩) HBX.out.lt).trans hbc
    have HB1 := Go.Lib.hid hb1
    clear hT hb1 hbc cT
    go_wp2_with fail
    with_reducible refine (cF _ HRA1.out).mono ?_
    rintro e w2 ⟨j, hFj, hb2, rfl⟩
    obtain rfl : j = 0 := Nat.le_zero.1 hFj.1
    have HB2 := Go.Lib.hid (HB1.out.trans (hb2.mono HB1.out.size))
    have hbc2 := (HB2.out.cell (p := ⟨b, 0, none⟩) HBX.out.lt).trans HBX.out.cell
    clear hFj hb2 HRA1 HB1 hbc1 cF
    go_wp2_with fail
    go_loopw [15, 52] (fun v q wr => q = .int .i64 0 ∧ v = .slice none 0 0 ∧ Hid (Below w.heap.size w wr)) (fun _ q _ => 0)
    case atStart => exact ⟨rfl, rfl, HB2⟩
    case round =>
      obtain ⟨rfl, rfl, HBW1⟩ := hrel
      clear hbc2
      go_wp2_with fail
      go_loopw [15, 70] (fun v q wr => ∃ (k m : Nat) (D : Option Addr) (cd : Nat) (J : List Rn), k ≤ nN ∧ q = .int .i64 k ∧ v = .slice D m cd ∧ m ≤ k ∧ Hid (wr.ownsRow w.heap.size 34 3 (.slice D m cd) m (rowR J)) ∧ Hid (Below w.heap.size w wr) ∧ Hid (J.length = m) ∧ Hid (J = ((N.take k).map id).foldl app ([]))) (fun _ q _ => nN - (RowKit.intOf q).toNat)
      case atStart => exact ⟨0, 0, none, 0, [], Nat.zero_le _, rfl, rfl, Nat.zero_le _, Go.Lib.hid (World.ownsRow_nil _ _ _ _), HBW1, Go.Lib.hid rfl, Go.Lib.hid rfl⟩
      case round =>
        obtain ⟨k2, m2, D2, cd2, J2, hk2, rfl, rfl, hmk2, HOJ2, HBW2, HJL2, HJ2⟩ := hrel
        by_cases hlt : k2 < nN
        · have hkl : k2 < N.length := by rw [HNL.out]; exact hlt
          rcases HN.out with hA0 | ⟨gg, oo, hAA, hg, hcl⟩
          · rw [hA0] at hkl; exact absurd hkl (Nat.not_lt_zero _)
          subst hAA
          obtain ⟨h0', h1', h2'⟩ := hcl k2 hkl
          have c0 := (HBW2.out.cell (p := ⟨gg, oo + k2 * 3, none⟩) (Nat.lt_of_lt_of_le hg (Nat.le_refl _))).trans h0'
          have c1 := (HBW2.out.cell (p := ⟨gg, oo + k2 * 3 + 1, none⟩) hg).trans h1'
          have c2 := (HBW2.out.cell (p := ⟨gg, oo + k2 * 3 + 2, none⟩) hg).trans h2'
          have HFT := Go.Lib.hid (fold_take id ([]) hkl)
          have HYB : Hid True := Go.Lib.hid trivial
          clear h0' h1' h2' hcl
          generalize N[k2] = y at c0 c1 c2 HFT HYB
          obtain ⟨ya, yb, yv⟩ := y
          dsimp only at c0 c1 c2
          have Ba : Below wr.heap.size wr (wr.alloc (.cells #[.int .i64 ya, .int .i64 yb, .int .i64 yv] 34)) := (Below.refl _ wr).alloc (Nat.le_refl _) _
          have oa := ObjAt.new wr #[.int .i64 ya, .int .i64 yb, .int .i64 yv] 34
          have cP := append_any w.heap.size D2 m2 cd2 J2 (id (ya, yb, yv)) _ (HOJ2.out.alloc (.cells #[.int .i64 ya, .int .i64 yb, .int .i64 yv] 34)) HJL2.out (Nat.le_trans HBW2.out.size Ba.size) (by omega)
          have hal := app_len J2 (id (ya, yb, yv))
          rw [HJL2.out] at hal
          unfold rnV id at cP
          dsimp only at cP
          have e0 := oa.b0
          have e1 := oa.b1
          have e2 := oa.b2
          have BA := Go.Lib.hid Ba
          have HAL := Go.Lib.hid hal
          clear Ba oa hal
          go_wp2_with fail
          refine cP.mono ?_
          rintro e w4 ⟨B4, n4, c4, rfl, ho4, hl4, hb4⟩
          have hn4 : n4 ≤ m2 + 1 := by rw [← hl4]; exact HAL.out
          clear cP
          go_wp2
          go_roundw
          case rel => exact ⟨k2 + 1, n4, B4, c4, _, by omega, by go_num, rfl, by omega, Go.Lib.hid ho4, Go.Lib.hid (HBW2.out.trans ((BA.out.mono HBW2.out.size).trans hb4)), Go.Lib.hid hl4, Go.Lib.hid (by rw [HFT.out, ← HJ2.out]; rfl)⟩
          case measure => simp [RowKit.intOf]; omega
        · obtain rfl : nN = k2 := by omega
          have HJF2 : Hid (J2 = (N.map id).foldl app ([])) := Go.Lib.hid (by rw [HJ2.out, List.take_of_length_le (by rw [HNL.out]; exact Nat.le_refl _)])
          clear HJ2
          have hJ : J2 = N.foldl app [] := by rw [HJF2.out, List.map_id]
          have HJE := Go.Lib.hid hJ
          clear hJ HJF2 HBW1
          go_wp2_with fail
          go_loopw [15, 80] (fun v q wr => q = .int .i64 0 ∧ v = .slice D2 m2 cd2 ∧ Hid (Below w.heap.size w wr) ∧ Hid (wr.ownsRow w.heap.size 34 3 (.slice D2 m2 cd2) m2 (rowR J2))) (fun _ q _ => 0)
          case atStart => exact ⟨rfl, rfl, HBW2, HOJ2⟩
          case round =>
            obtain ⟨rfl, rfl, HBW3, HOJ3⟩ := hrel
            clear HBW2 HOJ2
            have hbc3 := (HBW3.out.cell (p := ⟨b, 0, none⟩) HBX.out.lt).trans HBX.out.cell
            go_wp2_with fail
            go_loopw [23, 108] (fun v q wr => q = .int .i64 0 ∧ Hid (Below w.heap.size w wr) ∧ Hid (wr.ownsRow w.heap.size 34 3 (.slice D2 m2 cd2) m2 (rowR J2))) (fun _ q _ => 0)
            case atStart => exact ⟨rfl, HBW3, HOJ3⟩
            case round =>
              obtain ⟨rfl, HBW4, HOJ4⟩ := hrel
              clear HBW3 HOJ3 hbc3
              have hbc4 := (HBW4.out.cell (p := ⟨b, 0, none⟩) HBX.out.lt).trans HBX.out.cell
              have hbx4 := boxed_below HBX.out HBW4.out
              have ho4 := row_below HOWN.out HBW4.out
              have cR := slreplace_any 0 w.heap.size wr.heap.size 0 0 0 m2 0 cd2 none D2 [] J2 rfl HJL2.out (by omega) (by omega) (Nat.le_refl _) (Nat.le_refl _) (fun _ => rfl) (fun _ => rfl) wr (Nat.zero_le _) (fun q e => by cases e) ho4 HOJ4.out (fun g' h e1 e2 => by
                have h1 := (HOJ4.out.lt h (by rw [e2]; rfl)).1
                exact HSEP.out h h1 g' h e1 rfl)
              simp only [List.take_nil, List.drop_nil, List.nil_append, List.append_nil, show ((0 : Nat) : Int) = 0 from rfl] at cR
              go_wp2_with fail
              with_reducible refine cR.mono ?_
              rintro e w5 ⟨⟨B5, n5, c5, rfl, ho5, hl5, hb5⟩, hkp5, hwr5⟩
              have hbg : b ≠ wr.heap.size := Nat.ne_of_lt hbx4.lt
              have hbx5 : Boxed w5 b 84 (.slice none 0 0) := (hkp5.2 b hbx4.lt hbg).trans hbx4
              have hbc5 := hbx5.cell
              have hbf5 := hbx5.frozen
              have HFIN := Go.Lib.hid (mp_fin0 (w := w) (b := b) (g := g) (fr_below HBW4.out) hbx5 ho5 hl5 hb5 hkp5 hwr5 (Nat.le_refl _))
              rw [HJE.out] at HFIN
              clear ho5 hl5 hb5 hkp5 hwr5 cR hbx5
              go_wp2
              (try simp only [Exit.inBlock, Exit.then])
              refine bodyPost_end (results_none rfl _ _ _) rfl ?_
              exact ⟨rfl, HFIN.out⟩

  · obtain rfl : a = ⟨g, 0, none⟩ := by
      rcases HOWN.out.2 with ⟨h, _⟩ | ⟨g', _, _, h, _⟩
      · injection h with h; cases h
      · injection h with h
        injection h with h
        rw [h, HA.out g' (by rw [h])]
    by_cases hc0 : cA = 0
    · subst hc0
      go_enter Try.func45, Try.ntmps45
      go_wp2_with fail
      with_reducible refine cT.mono ?_
      rintro e w1 ⟨i, hT, hb1, rfl⟩
      obtain rfl : i = 0 := Nat.le_zero.1 hT.1
      have HRA1 := Go.Lib.hid (HRA.out.below hb1)
      have hbc1 := (hb1.cell (p := ⟨b, 0, none⟩) HBX.out.lt).trans hbc
      have HB1 := Go.Lib.hid hb1
      clear hT hb1 hbc cT
      go_wp2_with fail
      with_reducible refine (cF _ HRA1.out).mono ?_
      rintro e w2 ⟨j, hFj, hb2, rfl⟩
      obtain rfl : j = 0 := Nat.le_zero.1 hFj.1
      have HB2 := Go.Lib.hid (HB1.out.trans (hb2.mono HB1.out.size))
      have hbc2 := (HB2.out.cell (p := ⟨b, 0, none⟩) HBX.out.lt).trans HBX.out.cell
      clear hFj hb2 HRA1 HB1 hbc1 cF
      go_wp2_with fail
      go_loopw [15, 52] (fun v q wr => q = .int .i64 0 ∧ v = .slice none 0 0 ∧ Hid (Below w.heap.size w wr)) (fun _ q _ => 0)
      case atStart => exact ⟨rfl, rfl, HB2⟩
      case round =>
        obtain ⟨rfl, rfl, HBW1⟩ := hrel
        clear hbc2
        go_wp2_with fail
        go_loopw [15, 70] (fun v q wr => ∃ (k m : Nat) (D : Option Addr) (cd : Nat) (J : List Rn), k ≤ nN ∧ q = .int .i64 k ∧ v = .slice D m cd ∧ m ≤ k ∧ Hid (wr.ownsRow w.heap.size 34 3 (.slice D m cd) m (rowR J)) ∧ Hid (Below w.heap.size w wr) ∧ Hid (J.length = m) ∧ Hid (J = ((N.take k).map id).foldl app ([]))) (fun _ q _ => nN - (RowKit.intOf q).toNat)
        case atStart => exact ⟨0, 0, none, 0, [], Nat.zero_le _, rfl, rfl, Nat.zero_le _, Go.Lib.hid (World.ownsRow_nil _ _ _ _), HBW1, Go.Lib.hid rfl, Go.Lib.hid rfl⟩
        case round =>
          obtain ⟨k2, m2, D2, cd2, J2, hk2, rfl, rfl, hmk2, HOJ2, HBW2, HJL2, HJ2⟩ := hrel
          by_cases hlt : k2 < nN
          · have hkl : k2 < N.length := by rw [HNL.out]; exact hlt
            rcases HN.out with hA0 | ⟨gg, oo, hAA, hg, hcl⟩
            · rw [hA0] at hkl; exact absurd hkl (Nat.not_lt_zero _)
            subst hAA
            obtain ⟨h0', h1', h2'⟩ := hcl k2 hkl
            have c0 := (HBW2.out.cell (p := ⟨gg, oo + k2 * 3, none⟩) (Nat.lt_of_lt_of_le hg (Nat.le_refl _))).trans h0'
            have c1 := (HBW2.out.cell (p := ⟨gg, oo + k2 * 3 + 1, none⟩) hg).trans h1'
            have c2 := (HBW2.out.cell (p := ⟨gg, oo + k2 * 3 + 2, none⟩) hg).trans h2'
            have HFT := Go.Lib.hid (fold_take id ([]) hkl)
            have HYB : Hid True := Go.Lib.hid trivial
            clear h0' h1' h2' hcl
            generalize N[k2] = y at c0 c1 c2 HFT HYB
            obtain ⟨ya, yb, yv⟩ := y
            dsimp only at c0 c1 c2
            have Ba : Below wr.heap.size wr (wr.alloc (.cells #[.int .i64 ya, .int .i64 yb, .int .i64 yv] 34)) := (Below.refl _ wr).alloc (Nat.le_refl _) _
            have oa := ObjAt.new wr #[.int .i64 ya, .int .i64 yb, .int .i64 yv] 34
            have cP := append_any w.heap.size D2 m2 cd2 J2 (id (ya, yb, yv)) _ (HOJ2.out.alloc (.cells #[.int .i64 ya, .int .i64 yb, .int .i64 yv] 34)) HJL2.out (Nat.le_trans HBW2.out.size Ba.size) (by omega)
            have hal := app_len J2 (id (ya, yb, yv))
            rw [HJL2.out] at hal
            unfold rnV id at cP
            dsimp only at cP
            have e0 := oa.b0
            have e1 := oa.b1
            have e2 := oa.b2
            have BA := Go.Lib.hid Ba
            have HAL := Go.Lib.hid hal
            clear Ba oa hal
            go_wp2_with fail
            refine cP.mono ?_
            rintro e w4 ⟨B4, n4, c4, rfl, ho4, hl4, hb4⟩
            have hn4 : n4 ≤ m2 + 1 := by rw [← hl4]; exact HAL.out
            clear cP
            go_wp2
            go_roundw
            case rel => exact ⟨k2 + 1, n4, B4, c4, _, by omega, by go_num, rfl, by omega, Go.Lib.hid ho4, Go.Lib.hid (HBW2.out.trans ((BA.out.mono HBW2.out.size).trans hb4)), Go.Lib.hid hl4, Go.Lib.hid (by rw [HFT.out, ← HJ2.out]; rfl)⟩
            case measure => simp [RowKit.intOf]; omega
          · obtain rfl : nN = k2 := by omega
            have HJF2 : Hid (J2 = (N.map id).foldl app ([])) := Go.Lib.hid (by rw [HJ2.out, List.take_of_length_le (by rw [HNL.out]; exact Nat.le_refl _)])
            clear HJ2
            have hJ : J2 = N.foldl app [] := by rw [HJF2.out, List.map_id]
            have HJE := Go.Lib.hid hJ
            clear hJ HJF2 HBW1
            go_wp2_with fail
            go_loopw [15, 80] (fun v q wr => q = .int .i64 0 ∧ v = .slice D2 m2 cd2 ∧ Hid (Below w.heap.size w wr) ∧ Hid (wr.ownsRow w.heap.size 34 3 (.slice D2 m2 cd2) m2 (rowR J2))) (fun _ q _ => 0)
            case atStart => exact ⟨rfl, rfl, HBW2, HOJ2⟩
            case round =>
              obtain ⟨rfl, rfl, HBW3, HOJ3⟩ := hrel
              clear HBW2 HOJ2
              have hbc3 := (HBW3.out.cell (p := ⟨b, 0, none⟩) HBX.out.lt).trans HBX.out.cell
              go_wp2_with fail
              go_loopw [23, 108] (fun v q wr => q = .int .i64 0 ∧ Hid (Below w.heap.size w wr) ∧ Hid (wr.ownsRow w.heap.size 34 3 (.slice D2 m2 cd2) m2 (rowR J2))) (fun _ q _ => 0)
              case atStart => exact ⟨rfl, HBW3, HOJ3⟩
              case round =>
                obtain ⟨rfl, HBW4, HOJ4⟩ := hrel
                clear HBW3 HOJ3 hbc3
                have hbc4 := (HBW4.out.cell (p := ⟨b, 0, none⟩) HBX.out.lt).trans HBX.out.cell
                have hbx4 := boxed_below HBX.out HBW4.out
                have ho4 := row_below HOWN.out HBW4.out
                have cR := slreplace_any 0 w.heap.size g 0 0 0 m2 0 cd2 (some ⟨g, 0, none⟩) D2 [] J2 rfl HJL2.out (by omega) (by omega) (Nat.le_refl _) (Nat.le_refl _) (fun _ => rfl) (fun _ => rfl) wr (Nat.zero_le _) (fun q e => HA.out q e) ho4 HOJ4.out (fun g' h e1 e2 => by
                  have h1 := (HOJ4.out.lt h (by rw [e2]; rfl)).1
                  exact HSEP.out h h1 g' h e1 rfl)
                simp only [List.take_nil, List.drop_nil, List.nil_append, List.append_nil, show ((0 : Nat) : Int) = 0 from rfl] at cR
                go_wp2_with fail
                with_reducible refine cR.mono ?_
                rintro e w5 ⟨⟨B5, n5, c5, rfl, ho5, hl5, hb5⟩, hkp5, hwr5⟩
                have hbg : b ≠ g := fun e => HBX.out.not_row (by decide) HOWN.out (by rw [e]; rfl)
                have hbx5 : Boxed w5 b 84 (.slice (some ⟨g, 0, none⟩) 0 0) := (hkp5.2 b hbx4.lt hbg).trans hbx4
                have hbc5 := hbx5.cell
                have hbf5 := hbx5.frozen
                have HFIN := Go.Lib.hid (mp_fin (w := w) (b := b) (g := g) (fr_below HBW4.out) hbx5 ho5 hl5 hb5 hkp5 hwr5)
                rw [HJE.out] at HFIN
                clear ho5 hl5 hb5 hkp5 hwr5 cR hbx5
                go_wp2
                (try simp only [Exit.inBlock, Exit.then])
                refine bodyPost_end (results_none rfl _ _ _) rfl ?_
                exact ⟨rfl, HFIN.out⟩

    · go_enter Try.func45, Try.ntmps45
      go_wp2_with fail
      with_reducible refine cT.mono ?_
      rintro e w1 ⟨i, hT, hb1, rfl⟩
      obtain rfl : i = 0 := Nat.le_zero.1 hT.1
      have HRA1 := Go.Lib.hid (HRA.out.below hb1)
      have hbc1 := (hb1.cell (p := ⟨b, 0, none⟩) HBX.out.lt).trans hbc
      have HB1 := Go.Lib.hid hb1
      clear hT hb1 hbc cT
      go_wp2_with fail
      with_reducible refine (cF _ HRA1.out).mono ?_
      rintro e w2 ⟨j, hFj, hb2, rfl⟩
      obtain rfl : j = 0 := Nat.le_zero.1 hFj.1
      have HB2 := Go.Lib.hid (HB1.out.trans (hb2.mono HB1.out.size))
      have hbc2 := (HB2.out.cell (p := ⟨b, 0, none⟩) HBX.out.lt).trans HBX.out.cell
      clear hFj hb2 HRA1 HB1 hbc1 cF
      go_wp2_with fail
      go_loopw [15, 52] (fun v q wr => q = .int .i64 0 ∧ v = .slice none 0 0 ∧ Hid (Below w.heap.size w wr)) (fun _ q _ => 0)
      case atStart => exact ⟨rfl, rfl, HB2⟩
      case round =>
        obtain ⟨rfl, rfl, HBW1⟩ := hrel
        clear hbc2
        go_wp2_with fail
        go_loopw [15, 70] (fun v q wr => ∃ (k m : Nat) (D : Option Addr) (cd : Nat) (J : List Rn), k ≤ nN ∧ q = .int .i64 k ∧ v = .slice D m cd ∧ m ≤ k ∧ Hid (wr.ownsRow w.heap.size 34 3 (.slice D m cd) m (rowR J)) ∧ Hid (Below w.heap.size w wr) ∧ Hid (J.length = m) ∧ Hid (J = ((N.take k).map id).foldl app ([]))) (fun _ q _ => nN - (RowKit.intOf q).toNat)
        case atStart => exact ⟨0, 0, none, 0, [], Nat.zero_le _, rfl, rfl, Nat.zero_le _, Go.Lib.hid (World.ownsRow_nil _ _ _ _), HBW1, Go.Lib.hid rfl, Go.Lib.hid rfl⟩
        case round =>
          obtain ⟨k2, m2, D2, cd2, J2, hk2, rfl, rfl, hmk2, HOJ2, HBW2, HJL2, HJ2⟩ := hrel
          by_cases hlt : k2 < nN
          · have hkl : k2 < N.length := by rw [HNL.out]; exact hlt
            rcases HN.out with hA0 | ⟨gg, oo, hAA, hg, hcl⟩
            · rw [hA0] at hkl; exact absurd hkl (Nat.not_lt_zero _)
            subst hAA
            obtain ⟨h0', h1', h2'⟩ := hcl k2 hkl
            have c0 := (HBW2.out.cell (p := ⟨gg, oo + k2 * 3, none⟩) (Nat.lt_of_lt_of_le hg (Nat.le_refl _))).trans h0'
            have c1 := (HBW2.out.cell (p := ⟨gg, oo + k2 * 3 + 1, none⟩) hg).trans h1'
            have c2 := (HBW2.out.cell (p := ⟨gg, oo + k2 * 3 + 2, none⟩) hg).trans h2'
            have HFT := Go.Lib.hid (fold_take id ([]) hkl)
            have HYB : Hid True := Go.Lib.hid trivial
            clear h0' h1' h2' hcl
            generalize N[k2] = y at c0 c1 c2 HFT HYB
            obtain ⟨ya, yb, yv⟩ := y
            dsimp only at c0 c1 c2
            have Ba : Below wr.heap.size wr (wr.alloc (.cells #[.int .i64 ya, .int .i64 yb, .int .i64 yv] 34)) := (Below.refl _ wr).alloc (Nat.le_refl _) _
            have oa := ObjAt.new wr #[.int .i64 ya, .int .i64 yb, .int .i64 yv] 34
            have cP := append_any w.heap.size D2 m2 cd2 J2 (id (ya, yb, yv)) _ (HOJ2.out.alloc (.cells #[.int .i64 ya, .int .i64 yb, .int .i64 yv] 34)) HJL2.out (Nat.le_trans HBW2.out.size Ba.size) (by omega)
            have hal := app_len J2 (id (ya, yb, yv))
            rw [HJL2.out] at hal
            unfold rnV id at cP
            dsimp only at cP
            have e0 := oa.b0
            have e1 := oa.b1
            have e2 := oa.b2
            have BA := Go.Lib.hid Ba
            have HAL := Go.Lib.hid hal
            clear Ba oa hal
            go_wp2_with fail
            refine cP.mono ?_
            rintro e w4 ⟨B4, n4, c4, rfl, ho4, hl4, hb4⟩
            have hn4 : n4 ≤ m2 + 1 := by rw [← hl4]; exact HAL.out
            clear cP
            go_wp2
            go_roundw
            case rel => exact ⟨k2 + 1, n4, B4, c4, _, by omega, by go_num, rfl, by omega, Go.Lib.hid ho4, Go.Lib.hid (HBW2.out.trans ((BA.out.mono HBW2.out.size).trans hb4)), Go.Lib.hid hl4, Go.Lib.hid (by rw [HFT.out, ← HJ2.out]; rfl)⟩
            case measure => simp [RowKit.intOf]; omega
          · obtain rfl : nN = k2 := by omega
            have HJF2 : Hid (J2 = (N.map id).foldl app ([])) := Go.Lib.hid (by rw [HJ2.out, List.take_of_length_le (by rw [HNL.out]; exact Nat.le_refl _)])
            clear HJ2
            have hJ : J2 = N.foldl app [] := by rw [HJF2.out, List.map_id]
            have HJE := Go.Lib.hid hJ
            clear hJ HJF2 HBW1
            go_wp2_with fail
            go_loopw [15, 80] (fun v q wr => q = .int .i64 0 ∧ v = .slice D2 m2 cd2 ∧ Hid (Below w.heap.size w wr) ∧ Hid (wr.ownsRow w.heap.size 34 3 (.slice D2 m2 cd2) m2 (rowR J2))) (fun _ q _ => 0)
            case atStart => exact ⟨rfl, rfl, HBW2, HOJ2⟩
            case round =>
              obtain ⟨rfl, rfl, HBW3, HOJ3⟩ := hrel
              clear HBW2 HOJ2
              have hbc3 := (HBW3.out.cell (p := ⟨b, 0, none⟩) HBX.out.lt).trans HBX.out.cell
              go_wp2_with fail
              go_loopw [23, 108] (fun v q wr => q = .int .i64 0 ∧ Hid (Below w.heap.size w wr) ∧ Hid (wr.ownsRow w.heap.size 34 3 (.slice D2 m2 cd2) m2 (rowR J2))) (fun _ q _ => 0)
              case atStart => exact ⟨rfl, HBW3, HOJ3⟩
              case round =>
                obtain ⟨rfl, HBW4, HOJ4⟩ := hrel
                clear HBW3 HOJ3 hbc3
                have hbc4 := (HBW4.out.cell (p := ⟨b, 0, none⟩) HBX.out.lt).trans HBX.out.cell
                have hbx4 := boxed_below HBX.out HBW4.out
                have ho4 := row_below HOWN.out HBW4.out
                have cR := slreplace_any 0 w.heap.size g 0 0 0 m2 cA cd2 (some ⟨g, 0, none⟩) D2 [] J2 rfl HJL2.out (by omega) (by omega) (Nat.le_refl _) (Nat.le_refl _) (fun _ => rfl) (fun _ => rfl) wr (Nat.zero_le _) (fun q e => HA.out q e) ho4 HOJ4.out (fun g' h e1 e2 => by
                  have h1 := (HOJ4.out.lt h (by rw [e2]; rfl)).1
                  exact HSEP.out h h1 g' h e1 rfl)
                simp only [List.take_nil, List.drop_nil, List.nil_append, List.append_nil, show ((0 : Nat) : Int) = 0 from rfl] at cR
                go_wp2_with fail
                with_reducible refine cR.mono ?_
                rintro e w5 ⟨⟨B5, n5, c5, rfl, ho5, hl5, hb5⟩, hkp5, hwr5⟩
                have hbg : b ≠ g := fun e => HBX.out.not_row (by decide) HOWN.out (by rw [e]; rfl)
                have hbx5 : Boxed w5 b 84 (.slice (some ⟨g, 0, none⟩) 0 cA) := (hkp5.2 b hbx4.lt hbg).trans hbx4
                have hbc5 := hbx5.cell
                have hbf5 := hbx5.frozen
                have HFIN := Go.Lib.hid (mp_fin (w := w) (b := b) (g := g) (fr_below HBW4.out) hbx5 ho5 hl5 hb5 hkp5 hwr5)
                rw [HJE.out] at HFIN
                clear ho5 hl5 hb5 hkp5 hwr5 cR hbx5
                go_wp2
                (try simp only [Exit.inBlock, Exit.then])
                refine bodyPost_end (results_none rfl _ _ _) rfl ?_
                exact ⟨rfl, HFIN.out⟩

end Go.Proofs.Ytioehncdkdfcmaa
