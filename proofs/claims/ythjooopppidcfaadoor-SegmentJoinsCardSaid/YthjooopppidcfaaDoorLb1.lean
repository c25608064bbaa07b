/- Layer 3: the laws Tokens and Breaks. -/
import Derived.Test.YthjooopppidcfaaDoorKu
namespace Go.Proofs.YthjooopppidcfaaDoor
open Go.RowKit Go.Shelf
open Gc

/-- At most 240 bytes of a string. -/
def cut3 (s : ByteArray) : ByteArray := s.extract 0 (min s.size 240)
theorem cut3_size (s : ByteArray) : (cut3 s).size ≤ 240 := by unfold cut3; rw [ByteArray.size_extract]; omega
theorem str_cut3 (s : ByteArray) : ∃ P bad, Str (cut3 s) P bad := str_parts _ (by have := cut3_size s; omega)
theorem str_len3 {s : ByteArray} {P bad} (h : Str (cut3 s) P bad) : P.length ≤ 240 := by
  have h1 := (U.bytes_len P).1
  have h2 : (cut3 s).data.toList.length = (cut3 s).size := by simp
  have h3 := congrArg List.length h.eq
  rw [List.length_append, h2] at h3
  have := cut3_size s
  omega
set_option maxRecDepth 100000 in
set_option maxHeartbeats 1000000 in
theorem short_any (s : ByteArray) (hs : s.size ≤ maxLen) (w : World) :
    Calls Tryd.prog 15 #[.string s] w fun e w' => e = .returned (.string (cut3 s)) ∧ w = w' := by
  unfold maxLen at hs
  go_enter Tryd.func15, Tryd.ntmps15
  go_wp2
  go_ret
  refine ⟨?_, rfl⟩
  have : (min (s.size : Int) 240).toNat = min s.size 240 := by omega
  show Ending.returned (.string (s.extract 0 (min (s.size : Int) 240).toNat)) = _
  rw [this]; rfl

set_option maxRecDepth 100000 in
set_option maxHeartbeats 4000000 in
theorem law_tokens (s : ByteArray) (hs : s.size ≤ maxLen) (w : World) (hT : Tabs w) : Calls Tryd.prog 4 #[.string s] w (BoolPost true w) := by
  obtain ⟨P, bad, h⟩ := str_cut3 s
  have hl := str_len3 h
  have HT := Go.Lib.hid hT
  clear hT
  have cC := fun w => short_any s hs w
  generalize cut3 s = c at h cC
  by_cases hb : bad = []
  · subst hb
    have cA := fun w' hT' => tokens_ok h (by omega) w' hT'
    have cB := fun w' => refTokens_ok h (by omega) w'
    have hul := utok_len P
    unfold TokensRet at cA
    unfold RefTok at cB
    generalize utok P = L at cA cB hul
    obtain ⟨n, hn⟩ : ∃ n, L.length = n := ⟨_, rfl⟩
    have NN := Go.Lib.hid hn
    rw [hn] at hul
    simp only [hn] at cA cB
    clear h hn
    go_enter Tryd.func4, Tryd.ntmps4
    go_wp2_with (first
      | (go_at_call 15; (with_reducible refine (cC _).mono ?_); rintro e w' ⟨rfl, rfl⟩)
      | (go_at_call 16; (with_reducible refine (cA _ HT.out).mono ?_); rintro e w1 ⟨A1, p1, rfl, T1, b1⟩; have K1 := Go.Lib.hid T1; have B1 := Go.Lib.hid b1; clear T1 b1)
      | (go_at_call 17; (with_reducible refine (cB _).mono ?_); rintro e w2 ⟨A2, p2, rfl, T2, b2⟩; have K2 := Go.Lib.hid T2; have K12 := Go.Lib.hid (K1.out.below b2 (Nat.le_refl _)); have B2 := Go.Lib.hid (B1.out.trans (b2.mono B1.out.size)); clear T2 b2)
      | (go_at_call 12; (with_reducible refine (known_any _ (HT.out.below B2.out)).mono ?_); rintro e w3 ⟨rfl, b3⟩; have K23 := Go.Lib.hid (K2.out.below b3 (Nat.le_refl _)); have K13 := Go.Lib.hid (K12.out.below b3 (Nat.le_refl _)); have B3 := Go.Lib.hid (B2.out.trans (b3.mono B2.out.size)); clear b3))
    go_loopw [7] (fun i wr => ∃ k : Nat, k ≤ n ∧ i = .int .i64 (k : Nat) ∧ Hid (Below w3.heap.size w3 wr)) (fun i _ => n - (RowKit.intOf i).toNat)
    case atStart => exact ⟨0, Nat.zero_le _, rfl, Go.Lib.hid (Below.refl _ _)⟩
    case round =>
      obtain ⟨k, hk, rfl, HB⟩ := hrel
      by_cases hlt : k < n
      · have hkl : k < L.length := by rw [NN.out]; exact hlt
        have hne : L ≠ [] := by intro h0; rw [h0] at hkl; exact absurd hkl (Nat.not_lt_zero _)
        rcases K13.out with h0 | ⟨g1, rfl, hg1, hc1⟩
        · exact absurd h0 hne
        rcases K23.out with h0 | ⟨g2, rfl, hg2, hc2⟩
        · exact absurd h0 hne
        obtain ⟨x0, x1, x2⟩ := hc1 k hkl
        obtain ⟨y0, y1, y2⟩ := hc2 k hkl
        have u0 := (HB.out.cell (p := ⟨g1, k * 3, none⟩) hg1).trans x0
        have u1 := (HB.out.cell (p := ⟨g1, k * 3 + 1, none⟩) hg1).trans x1
        have u2 := (HB.out.cell (p := ⟨g1, k * 3 + 2, none⟩) hg1).trans x2
        have v0 := (HB.out.cell (p := ⟨g2, k * 3, none⟩) hg2).trans y0
        have v1 := (HB.out.cell (p := ⟨g2, k * 3 + 1, none⟩) hg2).trans y1
        have v2 := (HB.out.cell (p := ⟨g2, k * 3 + 2, none⟩) hg2).trans y2
        clear x0 x1 x2 y0 y1 y2 hc1 hc2 hne
        generalize L[k] = t at u0 u1 u2 v0 v1 v2
        obtain ⟨a, b, c⟩ := t
        dsimp only at u0 u1 u2 v0 v1 v2
        clear hkl
        go_wp2
        go_quiet (fail)
        clear u0 u1 u2 v0 v1 v2
        go_wp2
        go_roundw
        case rel => exact ⟨k + 1, by omega, by go_num, Go.Lib.hid (bdrew HB.out _)⟩
        case measure => simp [RowKit.intOf]; omega
      · go_wp2
        go_ret
        exact ⟨rfl, B3.out.trans (HB.out.mono B3.out.size)⟩
  · have cA := fun w' => tokens_bad h hb w'
    have cB := fun w' => refTokens_bad h hb w'
    clear h
    go_enter Tryd.func4, Tryd.ntmps4
    go_wp2_with (first
      | (go_at_call 15; (with_reducible refine (cC _).mono ?_); rintro e w' ⟨rfl, rfl⟩)
      | (go_at_call 16; (with_reducible refine (cA _).mono ?_); rintro e w1 ⟨rfl, b1⟩; have B1 := Go.Lib.hid b1; clear b1)
      | (go_at_call 17; (with_reducible refine (cB _).mono ?_); rintro e w2 ⟨rfl, b2⟩; have B2 := Go.Lib.hid (B1.out.trans (b2.mono B1.out.size)); clear b2)
      | (go_at_call 12; (with_reducible refine (known_any _ (HT.out.below B2.out)).mono ?_); rintro e w3 ⟨rfl, b3⟩; have B3 := Go.Lib.hid (B2.out.trans (b3.mono B2.out.size)); clear b3))
    refine wp_loop_rounds 1 ?_
    rw [rounds_succ]
    go_wp2
    go_ret
    exact ⟨rfl, B3.out⟩

set_option maxRecDepth 100000 in
set_option maxHeartbeats 4000000 in
theorem law_breaks (s : ByteArray) (hs : s.size ≤ maxLen) (w : World) (hT : Tabs w) : Calls Tryd.prog 9 #[.string s] w (BoolPost true w) := by
  obtain ⟨P, bad, h⟩ := str_cut3 s
  have hl := str_len3 h
  have HT := Go.Lib.hid hT
  clear hT
  have cC := fun w => short_any s hs w
  generalize cut3 s = c at h cC
  by_cases hb : bad = []
  · subst hb
    have cA := fun w' hT' => breaks_ok h (by omega) w' hT'
    have cB := fun w' => refBreaks_ok h (by omega) w'
    have hul : (ubrk P).length ≤ 240 := by
      have h1 := brkTo_len P (segC P).length
      rw [brkTo_all] at h1
      have h2 := clu_le P
      rw [clu_len, ← segC_len] at h2
      omega
    unfold BreaksRet at cA
    unfold RefBrk at cB
    generalize ubrk P = L at cA cB hul
    obtain ⟨n, hn⟩ : ∃ n, L.length = n := ⟨_, rfl⟩
    have NN := Go.Lib.hid hn
    rw [hn] at hul
    simp only [hn] at cA cB
    clear h hn
    go_enter Tryd.func9, Tryd.ntmps9
    go_wp2_with (first
      | (go_at_call 15; (with_reducible refine (cC _).mono ?_); rintro e w' ⟨rfl, rfl⟩)
      | (go_at_call 27; (with_reducible refine (cA _ HT.out).mono ?_); rintro e w1 ⟨A1, p1, rfl, T1, b1⟩; have K1 := Go.Lib.hid T1; have B1 := Go.Lib.hid b1; clear T1 b1)
      | (go_at_call 28; (with_reducible refine (cB _).mono ?_); rintro e w2 ⟨A2, p2, rfl, T2, b2⟩; have K2 := Go.Lib.hid T2; have K12 := Go.Lib.hid (K1.out.below b2 (Nat.le_refl _)); have B2 := Go.Lib.hid (B1.out.trans (b2.mono B1.out.size)); clear T2 b2)
      | (go_at_call 12; (with_reducible refine (known_any _ (HT.out.below B2.out)).mono ?_); rintro e w3 ⟨rfl, b3⟩; have K23 := Go.Lib.hid (K2.out.below b3 (Nat.le_refl _)); have K13 := Go.Lib.hid (K12.out.below b3 (Nat.le_refl _)); have B3 := Go.Lib.hid (B2.out.trans (b3.mono B2.out.size)); clear b3))
    go_loopw [7] (fun i wr => ∃ k : Nat, k ≤ n ∧ i = .int .i64 (k : Nat) ∧ Hid (Below w3.heap.size w3 wr)) (fun i _ => n - (RowKit.intOf i).toNat)
    case atStart => exact ⟨0, Nat.zero_le _, rfl, Go.Lib.hid (Below.refl _ _)⟩
    case round =>
      obtain ⟨k, hk, rfl, HB⟩ := hrel
      by_cases hlt : k < n
      · have hkl : k < L.length := by rw [NN.out]; exact hlt
        have hne : L ≠ [] := by intro h0; rw [h0] at hkl; exact absurd hkl (Nat.not_lt_zero _)
        rcases K13.out with h0 | ⟨g1, rfl, hg1, hc1⟩
        · exact absurd h0 hne
        rcases K23.out with h0 | ⟨g2, rfl, hg2, hc2⟩
        · exact absurd h0 hne
        obtain ⟨x0, x1⟩ := hc1 k hkl
        obtain ⟨y0, y1⟩ := hc2 k hkl
        have u0 := (HB.out.cell (p := ⟨g1, k * 2, none⟩) hg1).trans x0
        have u1 := (HB.out.cell (p := ⟨g1, k * 2 + 1, none⟩) hg1).trans x1
        have v0 := (HB.out.cell (p := ⟨g2, k * 2, none⟩) hg2).trans y0
        have v1 := (HB.out.cell (p := ⟨g2, k * 2 + 1, none⟩) hg2).trans y1
        clear x0 x1 y0 y1 hc1 hc2 hne
        generalize L[k] = t at u0 u1 v0 v1
        obtain ⟨a, b⟩ := t
        dsimp only at u0 u1 v0 v1
        clear hkl
        go_wp2
        go_quiet (fail)
        clear u0 u1 v0 v1
        go_wp2
        go_roundw
        case rel => exact ⟨k + 1, by omega, by go_num, Go.Lib.hid (bdrew HB.out _)⟩
        case measure => simp [RowKit.intOf]; omega
      · go_wp2
        go_ret
        exact ⟨rfl, B3.out.trans (HB.out.mono B3.out.size)⟩
  · have cA := fun w' => breaks_bad h hb w'
    have cB := fun w' => refBreaks_bad h hb w'
    clear h
    go_enter Tryd.func9, Tryd.ntmps9
    go_wp2_with (first
      | (go_at_call 15; (with_reducible refine (cC _).mono ?_); rintro e w' ⟨rfl, rfl⟩)
      | (go_at_call 27; (with_reducible refine (cA _).mono ?_); rintro e w1 ⟨rfl, b1⟩; have B1 := Go.Lib.hid b1; clear b1)
      | (go_at_call 28; (with_reducible refine (cB _).mono ?_); rintro e w2 ⟨rfl, b2⟩; have B2 := Go.Lib.hid (B1.out.trans (b2.mono B1.out.size)); clear b2)
      | (go_at_call 12; (with_reducible refine (known_any _ (HT.out.below B2.out)).mono ?_); rintro e w3 ⟨rfl, b3⟩; have B3 := Go.Lib.hid (B2.out.trans (b3.mono B2.out.size)); clear b3))
    refine wp_loop_rounds 1 ?_
    rw [rounds_succ]
    go_wp2
    go_ret
    exact ⟨rfl, B3.out⟩
end Go.Proofs.YthjooopppidcfaaDoor
