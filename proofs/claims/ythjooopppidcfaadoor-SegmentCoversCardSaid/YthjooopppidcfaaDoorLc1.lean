/- Layer 3: the law Covers. -/
import Derived.Test.YthjooopppidcfaaDoorPa
import Derived.Test.YthjooopppidcfaaDoorLb1
namespace Go.Proofs.YthjooopppidcfaaDoor
open Go.RowKit Go.Shelf
open Gc

/-- Whether a number is among the first of a list. -/
def among (l : List Int) (x : Int) (j : Nat) : Bool := (l.take j).any fun y => y == x
theorem among_zero (l : List Int) (x : Int) : among l x 0 = false := rfl
theorem among_succ (l : List Int) (x : Int) (j : Nat) (h : j < l.length) : among l x (j + 1) = (among l x j || l[j] == x) := by
  unfold among
  rw [List.take_succ_eq_append_getElem h, List.any_append]; simp
theorem among_all (l : List Int) (x : Int) (j : Nat) (h : l.length ≤ j) (hx : x ∈ l) : among l x j = true := by
  unfold among
  rw [List.take_of_length_le h, List.any_eq_true]
  exact ⟨x, hx, by simp⟩

set_option maxRecDepth 100000 in
set_option maxHeartbeats 8000000 in
theorem law_covers (s : ByteArray) (hs : s.size ≤ maxLen) (w : World) (hT : Tabs w) : Calls Tryd.prog 5 #[.string s] w (BoolPost true w) := by
  obtain ⟨P, bad, h⟩ := str_cut3 s
  have hl := str_len3 h
  have HT := Go.Lib.hid hT
  clear hT
  have cC := fun w => short_any s hs w
  generalize cut3 s = c at h cC
  by_cases hb : bad = []
  · subst hb
    have cA := fun w' hT' => tokens_ok h (by omega) w' hT'
    have cP := fun w' => points_ok h w'
    have cB := fun base v w' hv => ref_blk h base v w' hv
    have hul := utok_len P
    have TN := Go.Lib.hid (fun k h => tok_num P k h)
    have NE := Go.Lib.hid (now_end P)
    have hbl : (bl (cls (cp P))).length ≤ 1000 := by
      have h1 := clu_le P
      rw [bl_len, ← segC_len, segC_len, ← clu_len]
      omega
    unfold TokensRet at cA
    unfold RefBlk at cB
    generalize hL : utok P = L at cA hul NE
    have TL := Go.Lib.hid hL
    clear hL
    obtain ⟨n, hn⟩ : ∃ n, L.length = n := ⟨_, rfl⟩
    obtain ⟨m, hm⟩ : ∃ m, (bl (cls (cp P))).length = m := ⟨_, rfl⟩
    have NN := Go.Lib.hid hn
    have MM := Go.Lib.hid hm
    rw [hn] at hul
    rw [hm] at hbl
    simp only [hn] at cA
    simp only [hm] at cB
    clear h hn hm
    go_enter Tryd.func5, Tryd.ntmps5
    go_wp2_with (first
      | (go_at_call 15; (with_reducible refine (cC _).mono ?_); rintro e w' ⟨rfl, rfl⟩)
      | (go_at_call 16; (with_reducible refine (cA _ HT.out).mono ?_); rintro e w1 ⟨A1, p1, rfl, T1, b1⟩; have K1 := Go.Lib.hid T1; have B1 := Go.Lib.hid b1; clear T1 b1)
      | (go_at_call 18; (with_reducible refine (cP _).mono ?_); rintro e w2 ⟨v1, v2, rfl, i1, i2, b2⟩; obtain ⟨A2, p2, rfl, _⟩ := pat_ints i1; have I2 := Go.Lib.hid i1; have K2 := Go.Lib.hid (K1.out.below b2 (Nat.le_refl _)); have B2 := Go.Lib.hid (B1.out.trans (b2.mono B1.out.size)); clear i1 i2 b2)
      | (go_at_call 12; (with_reducible refine (known_any _ (HT.out.below B2.out)).mono ?_); rintro e w3 ⟨rfl, b3⟩; have I3 := Go.Lib.hid (I2.out.below b3); have K3 := Go.Lib.hid (K2.out.below b3 (Nat.le_refl _)); have B3 := Go.Lib.hid (B2.out.trans (b3.mono B2.out.size)); clear b3)
      | (go_at_call 19; (with_reducible refine (cB _ _ _ I3.out).mono ?_); rintro e w4 ⟨g4, p4, rfl, C4, b4⟩; have CS := Go.Lib.hid C4; have K4 := Go.Lib.hid (K3.out.below b4 (Nat.le_refl _)); have B4 := Go.Lib.hid (B3.out.trans (b4.mono B3.out.size)); clear C4 b4))
    clear cA cB cP cC
    go_loopw [9, 10] (fun s9 s10 wr => ∃ k : Nat, k ≤ n ∧ s10 = .int .i64 (k : Nat) ∧ s9 = .int .i64 (nowU L k : Nat) ∧ Hid (Below w4.heap.size w4 wr)) (fun _ i _ => n - (RowKit.intOf i).toNat)
    case atStart => exact ⟨0, Nat.zero_le _, rfl, rfl, Go.Lib.hid (Below.refl _ _)⟩
    case round =>
      obtain ⟨k, hk, rfl, rfl, HB⟩ := hrel
      by_cases hlt : k < n
      · have hkl : k < L.length := by rw [NN.out]; exact hlt
        have hne : L ≠ [] := by intro h0; rw [h0] at hkl; exact absurd hkl (Nat.not_lt_zero _)
        rcases K4.out with h0 | ⟨g1, rfl, hg1, hc1⟩
        · exact absurd h0 hne
        have hgb := CS.out.1
        obtain ⟨x0, x1, x2⟩ := hc1 k hkl
        rw [tk_get L k hkl] at x0 x1 x2
        have HC1 := Go.Lib.hid hc1
        have u0 := (HB.out.cell (p := ⟨g1, k * 3, none⟩) hg1).trans x0
        have u1 := (HB.out.cell (p := ⟨g1, k * 3 + 1, none⟩) hg1).trans x1
        have u2 := (HB.out.cell (p := ⟨g1, k * 3 + 2, none⟩) hg1).trans x2
        have tn := TN.out k (by rw [TL.out]; exact hkl)
        obtain ⟨t1, t2, t3, t4, t5⟩ := tn
        rw [TL.out] at t1 t2 t3 t4 t5
        rw [← t1]
        have hnx := nowU_succ L k
        clear x0 x1 x2 hc1 hne t1
        generalize htk : tk L k = x at u0 u1 u2 t2 t3 t4 t5 hnx ⊢
        have HTK := Go.Lib.hid htk
        clear htk
        obtain ⟨kd, f, t⟩ := x
        dsimp only at u0 u1 u2 t2 t3 t4 t5 hnx ⊢
        have HNX := Go.Lib.hid hnx
        have T4 := Go.Lib.hid t4
        have T5 := Go.Lib.hid t5
        obtain ⟨t3a, t3b⟩ := t3
        have q1 : decide (t ≤ f) = false := by simp; omega
        have q2 : decide (kd < 1) = false := by simp; omega
        have q3 : decide (6 < kd) = false := by simp; omega
        clear hnx t4 t5 hkl
        go_wp2
        go_quiet (fail)
        have HBD := Go.Lib.hid (bdrew HB.out nq)
        have hgw : g1 < wr.heap.size := Nat.lt_of_lt_of_le hg1 HB.out.size
        have d0 := ((bdrew (Below.refl wr.heap.size wr) nq).cell (p := ⟨g1, k * 3, none⟩) hgw).trans u0
        have d2 := ((bdrew (Below.refl wr.heap.size wr) nq).cell (p := ⟨g1, k * 3 + 2, none⟩) hgw).trans u2
        clear u0 u1 u2 q1 q2 q3
        have hsw := HBD.out.size
        generalize wr.drewN nq = wd at d0 d2 HBD hsw ⊢
        go_wp2
        go_loop [11, 12] (fun s11 s12 => ∃ (j : Nat) (b : Bool), j ≤ m ∧ s12 = .int .i64 (j : Nat) ∧ s11 = .bool b ∧ Hid (b = among (bl (cls (cp P))) (t : Int) j)) (fun _ s12 => m - (RowKit.intOf s12).toNat)
        case atStart => exact ⟨0, false, Nat.zero_le _, rfl, rfl, Go.Lib.hid rfl⟩
        case round =>
          obtain ⟨j, b, hj, rfl, rfl, J⟩ := hrel
          by_cases hjm : j < m
          · have hjl : j < (bl (cls (cp P))).length := by rw [MM.out]; exact hjm
            have cj := (HBD.out.cell (p := ⟨g4, j, none⟩) hgb).trans (CS.out.2 j hjl)
            have HA := Go.Lib.hid (among_succ _ (t : Int) j hjl)
            generalize (bl (cls (cp P)))[j] = y at cj HA
            clear hjl
            cases b with
            | true =>
              go_wp2
              go_round
              case rel => exact ⟨j + 1, true, by omega, by go_num, rfl, Go.Lib.hid (by rw [HA.out, ← J.out]; rfl)⟩
              case measure => simp [RowKit.intOf]; omega
            | false =>
              by_cases hy : y = (t : Int)
              · subst hy
                go_wp2
                go_round
                case rel => exact ⟨j + 1, true, by omega, by go_num, by simp, Go.Lib.hid (by rw [HA.out]; simp)⟩
                case measure => simp [RowKit.intOf]; omega
              · have ky := neB hy
                have KY := Go.Lib.hid ky
                clear hy
                go_wp2
                go_round
                case rel => exact ⟨j + 1, false, by omega, by go_num, rfl, Go.Lib.hid (by rw [HA.out, ← J.out, KY.out]; rfl)⟩
                case measure => simp [RowKit.intOf]; omega
          · have hbt : b = true := by rw [J.out]; exact among_all _ _ _ (by rw [MM.out]; omega) T4.out
            subst hbt
            by_cases hk0 : 0 < k
            · obtain ⟨k', rfl⟩ : ∃ k', k = k' + 1 := ⟨k - 1, by omega⟩
              have t5 := T5.out hk0
              rw [Nat.add_sub_cancel] at t5
              have hk' : k' < L.length := by rw [NN.out]; omega
              have x0 := (HC1.out k' hk').1
              rw [tk_get L k' hk'] at x0
              have e0 := (HBD.out.cell (p := ⟨g1, k' * 3, none⟩) hg1).trans x0
              generalize (tk L k').1 = kp at e0 t5
              have hw1 : IntKind.i64.wrap (k' : Int) = (k' : Int) := IntWalk.i64_in _ (by omega)
              have hkn' : k' < n := by omega
              clear x0 hk' d2
              by_cases h2 : kd ≤ 2
              · have hp2 : ¬ kp ≤ 2 := fun h' => t5.2 ⟨h', h2⟩
                have r1 : (kd == kp) = false := neB (by omega)
                have r2 : decide (kd ≤ 2) = true := by simpa using h2
                have r3 : decide (kp ≤ 2) = false := by simpa using hp2
                clear t5 h2 hp2
                go_wp2
                go_quiet (fail)
                go_wp2
                go_roundw
                case rel => exact ⟨(k' + 1) + 1, by omega, by go_num, by rw [HNX.out], Go.Lib.hid (bdrew HBD.out _)⟩
                case measure => simp [RowKit.intOf]; omega
              · have r2 : decide (kd ≤ 2) = false := by simpa using h2
                by_cases h3 : kd = kp
                · subst h3
                  have r4 : (kd == 3) = false := neB (fun h' => t5.1 ⟨h', h'⟩)
                  clear t5 h2
                  go_wp2
                  go_quiet (fail)
                  go_wp2
                  go_roundw
                  case rel => exact ⟨(k' + 1) + 1, by omega, by go_num, by rw [HNX.out], Go.Lib.hid (bdrew HBD.out _)⟩
                  case measure => simp [RowKit.intOf]; omega
                · have r1 := neB h3
                  clear t5 h2 h3
                  go_wp2
                  go_quiet (fail)
                  go_wp2
                  go_roundw
                  case rel => exact ⟨(k' + 1) + 1, by omega, by go_num, by rw [HNX.out], Go.Lib.hid (bdrew HBD.out _)⟩
                  case measure => simp [RowKit.intOf]; omega
            · have hk1 : k = 0 := by omega
              subst hk1
              go_wp2
              go_quiet (fail)
              go_wp2
              go_roundw
              case rel => exact ⟨0 + 1, by omega, by go_num, by rw [HNX.out], Go.Lib.hid (bdrew HBD.out _)⟩
              case measure => simp [RowKit.intOf]; omega
      · obtain rfl : k = n := by omega
        have e := NE.out
        rw [NN.out] at e
        rw [e]
        clear e
        go_wp2
        go_ret
        exact ⟨ret_bool' (by simp), B4.out.trans (HB.out.mono B4.out.size)⟩
  · have cA := fun w' => tokens_bad h hb w'
    have cP := fun w' => points_bad h hb w'
    clear h
    go_enter Tryd.func5, Tryd.ntmps5
    go_wp2_with (first
      | (go_at_call 15; (with_reducible refine (cC _).mono ?_); rintro e w' ⟨rfl, rfl⟩)
      | (go_at_call 16; (with_reducible refine (cA _).mono ?_); rintro e w1 ⟨rfl, b1⟩; have B1 := Go.Lib.hid b1; clear b1)
      | (go_at_call 18; (with_reducible refine (cP _).mono ?_); rintro e w2 ⟨rfl, b2⟩; have B2 := Go.Lib.hid (B1.out.trans (b2.mono B1.out.size)); clear b2)
      | (go_at_call 12; (with_reducible refine (known_any w2 (HT.out.below B2.out)).mono ?_); rintro e w3 ⟨rfl, b3⟩; have B3 := Go.Lib.hid (B2.out.trans (b3.mono B2.out.size)); clear b3)
      | (go_at_call 12; (with_reducible refine (known_any w3 (HT.out.below B3.out)).mono ?_); rintro e w4 ⟨rfl, b4⟩; have B4 := Go.Lib.hid (B3.out.trans (b4.mono B3.out.size)); clear b4))
    go_ret
    exact ⟨rfl, B4.out⟩
end Go.Proofs.YthjooopppidcfaaDoor
