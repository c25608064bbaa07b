/- Layer 3: the law Visits. -/
import Derived.Test.YthjooopppidcfaaDoorPn
import Derived.Test.YthjooopppidcfaaDoorNc
import Derived.Test.YthjooopppidcfaaDoorLb1
import Derived.Test.YthjooopppidcfaaDoorMN
namespace Go.Proofs.YthjooopppidcfaaDoor
open Go.RowKit Go.Shelf
open Gc

set_option maxRecDepth 100000 in
set_option maxHeartbeats 1000000 in
theorem size_any {s : ByteArray} {P : List Nat} {bad : List UInt8} (h : Str s P bad) (w : World) : Calls Tryd.prog 26 #[.string s] w (IntPost (P.length : Nat) w) := by
  have c := Cp.refPoints_any h.cp w
  unfold Cp.RefPtsRet at c
  go_enter Tryd.func26, Tryd.ntmps26
  go_wp2_with (go_at_call 47; (with_reducible refine c.mono ?_); rintro e w1 ⟨v, rfl, hI, hb⟩; obtain ⟨A, pc, rfl, _⟩ := pat_of hI)
  go_ret
  exact ⟨rfl, hb⟩

set_option maxRecDepth 100000 in
set_option maxHeartbeats 8000000 in
theorem law_visits (s : ByteArray) (hs : s.size ≤ maxLen) (w : World) (hT : Tabs w) : Calls Tryd.prog 8 #[.string s] w (BoolPost true w) := by
  obtain ⟨P, bad, h⟩ := str_cut3 s
  have hl := str_len3 h
  have HT := Go.Lib.hid hT
  clear hT
  have cC := fun w => short_any s hs w
  generalize cut3 s = c at h cC
  by_cases hb : bad = []
  · subst hb
    have cB := fun w' => refTokens_ok h (by omega) w'
    have cN := fun (z : Nat) w' (hT' : Tabs w') (hz : z ≤ P.length) => snext_ok h (by omega) (z : Int) w' hT' ⟨by omega, by omega⟩
    have cV := fun (z : Nat) w' (hT' : Tabs w') (hz : z ≤ P.length) => sprev_ok h (by omega) (z : Int) w' hT' ⟨by omega, by omega⟩
    have cS := fun w' => size_any h w'
    have hul := utok_len P
    unfold RefTok at cB
    unfold Pair2 at cN cV
    unfold IntPost at cS
    have NX := Go.Lib.hid (fun k z (hp : Passed P k z) => hp.next (k := k))
    have NE := Go.Lib.hid (fun z (hp : Passed P (utok P).length z) => hp.end)
    have PV := Go.Lib.hid (fun k z (hp : Backed P (k + 1) z) => hp.prev (k := k))
    obtain ⟨nx, hnx⟩ : ∃ nx : Nat → Nat, ∀ z : Nat, nextOf (utok P) (z : Int) P.length = nx z := ⟨_, fun _ => rfl⟩
    obtain ⟨pv, hpv⟩ : ∃ pv : Nat → Nat, ∀ z : Nat, prevOf (z : Int) (utok P) 0 = pv z := ⟨_, fun _ => rfl⟩
    simp only [hnx] at cN NX NE
    simp only [hpv] at cV PV
    clear hnx hpv
    obtain ⟨n, hn⟩ : ∃ n, (utok P).length = n := ⟨_, rfl⟩
    obtain ⟨m, hm⟩ : ∃ m, P.length = m := ⟨_, rfl⟩
    have NN := Go.Lib.hid hn
    have MM := Go.Lib.hid hm
    rw [hn, hm] at hul
    rw [hm] at hl
    simp only [hn] at cB
    simp only [hm] at cN cV cS
    clear h hn hm
    go_enter Tryd.func8, Tryd.ntmps8
    go_wp2_with (first
      | (go_at_call 15; (with_reducible refine (cC _).mono ?_); rintro e w' ⟨rfl, rfl⟩)
      | (go_at_call 17; (with_reducible refine (cB _).mono ?_); rintro e w1 ⟨A1, p1, rfl, T1, b1⟩; have K1 := Go.Lib.hid T1; have B1 := Go.Lib.hid b1; clear T1 b1)
      | (go_at_call 12; (with_reducible refine (known_any _ (HT.out.below B1.out)).mono ?_); rintro e w2 ⟨rfl, b2⟩; have K2 := Go.Lib.hid (K1.out.below b2 (Nat.le_refl _)); have B2 := Go.Lib.hid (B1.out.trans (b2.mono B1.out.size)); clear b2))
    clear cB cC
    go_loopw [5, 6] (fun s5 s6 wr => ∃ k z : Nat, k ≤ n ∧ s6 = .int .i64 (k : Nat) ∧ s5 = .int .i64 (z : Nat) ∧ Hid (Passed P k z) ∧ Hid (Below w2.heap.size w2 wr)) (fun _ i _ => n - (RowKit.intOf i).toNat)
    case atStart => exact ⟨0, 0, Nat.zero_le _, rfl, rfl, Go.Lib.hid (Passed.zero P), Go.Lib.hid (Below.refl _ _)⟩
    case round =>
      obtain ⟨k, z, hk, rfl, rfl, HP, HB⟩ := hrel
      have hTw := Go.Lib.hid (HT.out.below (B2.out.trans (HB.out.mono B2.out.size)))
      have hzm : z ≤ m := by rw [← MM.out]; exact HP.out.le
      have hsz := HB.out.size
      by_cases hlt : k < n
      · have hkl : k < (utok P).length := by rw [NN.out]; exact hlt
        rcases K2.out with h0 | ⟨g1, rfl, hg1, hc1⟩
        · rw [h0] at hkl; exact absurd hkl (Nat.not_lt_zero _)
        obtain ⟨x0, x1, x2⟩ := hc1 k hkl
        rw [tk_get (utok P) k hkl] at x0 x1
        have u0 := (HB.out.cell (p := ⟨g1, k * 3, none⟩) hg1).trans x0
        have u1 := (HB.out.cell (p := ⟨g1, k * 3 + 1, none⟩) hg1).trans x1
        have hgw : g1 < wr.heap.size := Nat.lt_of_lt_of_le hg1 hsz
        have OV := Go.Lib.hid (HP.out.over (k := k))
        have NXk := Go.Lib.hid (NX.out k z HP.out hkl)
        clear x0 x1 x2 hc1 hkl
        generalize tk (utok P) k = x at u0 u1 OV NXk
        obtain ⟨kd, f, t⟩ := x
        dsimp only at u0 u1
        by_cases h3 : kd = 3
        · subst h3
          have HP2 := Go.Lib.hid (OV.out (.inl rfl))
          go_wp2
          go_roundw
          case rel => exact ⟨k + 1, z, by omega, by go_num, rfl, HP2, HB⟩
          case measure => simp [RowKit.intOf]; omega
        · have h3b := neB h3
          by_cases hf : f = 0
          · subst hf
            have HP2 := Go.Lib.hid (OV.out (.inr rfl))
            go_wp2
            go_roundw
            case rel => exact ⟨k + 1, z, by omega, by go_num, rfl, HP2, HB⟩
            case measure => simp [RowKit.intOf]; omega
          · obtain ⟨e1, e2⟩ := NXk.out h3 hf
            have HP2 := Go.Lib.hid e2
            have hf0 : ((f : Int) == 0) = false := neB (by omega)
            have cz := fun w' hT' => cN z w' hT' hzm
            dsimp only at e1
            rw [e1] at cz
            clear e1 e2 hf h3 cN
            go_wp2_with (first
              | (go_at_call 24; (with_reducible refine (cz _ hTw.out).mono ?_); rintro e w5 ⟨rfl, hb5⟩; have u1' := (hb5.cell (p := ⟨g1, k * 3 + 1, none⟩) hgw).trans u1; have HB5 := Go.Lib.hid (HB.out.trans (hb5.mono hsz)); clear hb5 u1))
            go_roundw
            case rel => exact ⟨k + 1, f, by omega, by go_num, rfl, HP2, HB5⟩
            case measure => simp [RowKit.intOf]; omega
      · obtain rfl : k = n := by omega
        have e1 := NE.out z (by rw [NN.out]; exact HP.out)
        rw [MM.out] at e1
        have cz := fun w' hT' => cN z w' hT' hzm
        rw [e1] at cz
        have hw1 : IntKind.i64.wrap ((k : Int) - 1) = (k : Int) - 1 := IntWalk.i64_in _ (by omega)
        clear e1 cN
        go_wp2_with (first
          | (go_at_call 24; (with_reducible refine (cz _ hTw.out).mono ?_); rintro e w5 ⟨rfl, hb5⟩; have HB5 := Go.Lib.hid (HB.out.trans (hb5.mono hsz)); clear hb5)
          | (go_at_call 26; (with_reducible refine (cS _).mono ?_); rintro e w6 ⟨rfl, hb6⟩; have HB6 := Go.Lib.hid (HB5.out.trans (hb6.mono HB5.out.size)); clear hb6))
        clear hw1 cz cS
        go_loopw [5, 11] (fun s5 s11 wr' => ∃ (j : Int) (i y : Nat), i ≤ k ∧ j = (i : Int) - 1 ∧ s11 = .int .i64 j ∧ s5 = .int .i64 (y : Nat) ∧ Hid (Backed P i y) ∧ Hid (Below w2.heap.size w2 wr')) (fun _ s11 _ => (RowKit.intOf s11 + 1).toNat)
        case atStart => exact ⟨_, k, m, Nat.le_refl _, rfl, rfl, rfl, Go.Lib.hid (by have := Backed.start P; rw [NN.out, MM.out] at this; exact this), HB6⟩
        case round =>
          obtain ⟨j, i, y, hi, hj, rfl, rfl, HK, HR⟩ := hrel
          have hTr := Go.Lib.hid (HT.out.below (B2.out.trans (HR.out.mono B2.out.size)))
          have hym : y ≤ m := by rw [← MM.out]; exact HK.out.le
          have hrz := HR.out.size
          cases i with
          | zero =>
            have hjn : j < 0 := by omega
            clear hj
            go_wp2
            go_ret
            exact ⟨rfl, B2.out.trans (HR.out.mono B2.out.size)⟩
          | succ i =>
            obtain rfl : j = (i : Int) := by omega
            have hkl : i < (utok P).length := by rw [NN.out]; omega
            rcases K2.out with h0 | ⟨g1, rfl, hg1, hc1⟩
            · rw [h0] at hkl; exact absurd hkl (Nat.not_lt_zero _)
            obtain ⟨x0, x1, x2⟩ := hc1 i hkl
            rw [tk_get (utok P) i hkl] at x0 x1
            have u0 := (HR.out.cell (p := ⟨g1, i * 3, none⟩) hg1).trans x0
            have u1 := (HR.out.cell (p := ⟨g1, i * 3 + 1, none⟩) hg1).trans x1
            have hgw := Nat.lt_of_lt_of_le hg1 hrz
            have SP := Go.Lib.hid (HK.out.space (k := i))
            have PVk := Go.Lib.hid (PV.out i y HK.out hkl)
            have hin : i < k := by omega
            have hw1 : IntKind.i64.wrap ((i : Int) - 1) = (i : Int) - 1 := IntWalk.i64_in _ (by omega)
            have hi0 : (0 : Int) ≤ (i : Int) := by omega
            clear x0 x1 x2 hc1 hkl hj
            generalize tk (utok P) i = x at u0 u1 SP PVk
            obtain ⟨kd, f, t⟩ := x
            dsimp only at u0 u1
            by_cases h3 : kd = 3
            · subst h3
              have HK2 := Go.Lib.hid (SP.out rfl)
              go_wp2
              go_roundw
              case rel => exact ⟨_, i, y, by omega, rfl, rfl, rfl, HK2, HR⟩
              case measure => simp [RowKit.intOf]
            · have h3b := neB h3
              obtain ⟨e1, e2⟩ := PVk.out h3
              have HK2 := Go.Lib.hid e2
              have cz := fun w' hT' => cV y w' hT' hym
              dsimp only at e1
              rw [e1] at cz
              clear e1 e2 h3 cV
              go_wp2_with (first
                | (go_at_call 25; (with_reducible refine (cz _ hTr.out).mono ?_); rintro e w7 ⟨rfl, hb7⟩; have u1' := (hb7.cell (p := ⟨g1, i * 3 + 1, none⟩) hgw).trans u1; have HB7 := Go.Lib.hid (HR.out.trans (hb7.mono hrz)); clear hb7 u1))
              go_roundw
              case rel => exact ⟨_, i, f, by omega, rfl, rfl, rfl, HK2, HB7⟩
              case measure => simp [RowKit.intOf]
  · have cB := fun w' => refTokens_bad h hb w'
    clear h
    go_enter Tryd.func8, Tryd.ntmps8
    go_wp2_with (first
      | (go_at_call 15; (with_reducible refine (cC _).mono ?_); rintro e w' ⟨rfl, rfl⟩)
      | (go_at_call 17; (with_reducible refine (cB _).mono ?_); rintro e w1 ⟨rfl, b1⟩; have B1 := Go.Lib.hid b1; clear b1)
      | (go_at_call 12; (with_reducible refine (known_any w1 (HT.out.below B1.out)).mono ?_); rintro e w2 ⟨rfl, b2⟩; have B2 := Go.Lib.hid (B1.out.trans (b2.mono B1.out.size)); clear b2)
      | (go_at_call 12; (with_reducible refine (known_any w2 (HT.out.below B2.out)).mono ?_); rintro e w3 ⟨rfl, b3⟩; have B3 := Go.Lib.hid (B2.out.trans (b3.mono B2.out.size)); clear b3))
    go_ret
    exact ⟨rfl, B3.out⟩
end Go.Proofs.YthjooopppidcfaaDoor
