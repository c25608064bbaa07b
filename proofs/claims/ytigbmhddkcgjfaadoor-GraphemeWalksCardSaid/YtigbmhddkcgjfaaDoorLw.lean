import Derived.Test.YtigbmhddkcgjfaaDoorLm
import Derived.Test.YtigbmhddkcgjfaaDoorGw
namespace Go.Proofs.YtigbmhddkcgjfaaDoor
open Go.RowKit Go.Shelf
open Gc

set_option maxRecDepth 100000 in
set_option maxHeartbeats 4000000 in
theorem law_walks (s : ByteArray) (hs : s.size ≤ maxLen) (w : World) (hT : Tabs w) : Calls Tryd.prog 7 #[.string s] w (BoolPost true w) := by
  obtain ⟨P, bad, h⟩ := str_cut s
  have HT := Go.Lib.hid hT
  clear hT
  have cC := fun w => cut_any s hs w
  by_cases hb : bad = []
  · subst hb
    have cP := fun w' => points_ok2 h w'
    have hl2 := h.len
    have c24 := fun k w' hT' => next_ok h (nx (cp P) k : Nat) w' hT' ⟨by omega, by have := nx_le (cp P) k; rw [cp_len] at this; omega⟩
    have c25 := fun k w' hT' => prev_ok h (pv (cp P) k : Nat) w' hT' ⟨by omega, by have := pv_le (cp P) k; rw [cp_len] at this; omega⟩
    simp only [nx_succ, pv_succ] at c24 c25
    have cR := fun v base w' hv => ref_blk h base v w' hv
    have hl := cls_len_le h
    have hbl := bl_len (cls (cp P))
    have hne := bl_ne (cls (cp P))
    have z1 := nx_zero (cp P)
    have z2 := pv_zero (cp P)
    obtain ⟨L, hL, e1, e2, t1, t2⟩ : ∃ L, bl (cls (cp P)) = L ∧ (∀ k (h : k < L.length), L[k] = (nx (cp P) k : Nat)) ∧ (∀ k (h : k < L.length), L[L.length - 1 - k]'(by omega) = (pv (cp P) k : Nat)) ∧ nx (cp P) L.length = (cp P).length ∧ pv (cp P) L.length = 0 :=
      ⟨_, rfl, nx_at _, pv_at _, nx_fin _, pv_fin _⟩
    rw [cp_len] at z2 t1
    clear h
    have hpl := ptsI_len P
    have HPL := Go.Lib.hid hpl
    clear hpl
    rw [hL] at cR hbl hne
    clear hL
    generalize nx (cp P) = X at c24 e1 z1 t1
    generalize pv (cp P) = Y at c25 e2 z2 t2
    obtain ⟨n, hn⟩ : ∃ n, L.length = n := ⟨_, rfl⟩
    have hnb : n ≤ 1000000 := by omega
    have hn0 : 0 < n := by rw [← hn]; exact List.length_pos_iff.2 hne
    rw [hn] at t1 t2
    have N := Go.Lib.hid hn
    have E1 := Go.Lib.hid e1
    have E2 := Go.Lib.hid e2
    have T := Go.Lib.hid (And.intro t1 t2)
    clear hbl hl hne hn e1 e2 t1 t2
    have Z := Go.Lib.hid (And.intro z1 z2)
    clear z1 z2
    go_enter Tryd.func7, Tryd.ntmps7
    go_wp2_with (first
      | (go_at_call 15; (with_reducible refine (cC _).mono ?_); rintro e w' ⟨rfl, rfl⟩)
      | (go_at_call 17; (with_reducible refine (cP _).mono ?_); rintro e w5 ⟨x1, p1, x2, p2, rfl, i1, i2, b5⟩; have I1 := Go.Lib.hid i1; clear i1 i2; have B5 := Go.Lib.hid b5; clear b5)
      | (go_at_call 12; (with_reducible refine (known_any _ (HT.out.below B5.out)).mono ?_); rintro e w6 ⟨rfl, b6⟩; have I2 := Go.Lib.hid (I1.out.below b6); have B6 := Go.Lib.hid (B5.out.trans (b6.mono B5.out.size)); clear b6)
      | (go_at_call 19; (with_reducible refine (cR _ _ _ I2.out).mono ?_); rintro e w7 ⟨g7, p7, rfl, C7, b7⟩; rw [N.out]; have K7 := Go.Lib.hid C7; have B7 := Go.Lib.hid (B6.out.trans (b7.mono B6.out.size)); clear C7 b7))
    go_loopw [2, 7, 8, 9] (fun r a b i wr => ∃ k : Nat, k ≤ n ∧ i = .int .i64 (k : Nat) ∧ a = .int .i64 (X k : Nat) ∧ b = .int .i64 (Y k : Nat) ∧ r = .bool false ∧ Hid (Below w7.heap.size w7 wr)) (fun _ _ _ i _ => n - (intOf i).toNat)
    case atStart => exact ⟨0, Nat.zero_le _, rfl, by rw [Z.out.1]; rfl, by rw [Z.out.2], rfl, Go.Lib.hid (Below.refl _ _)⟩
    case round =>
      obtain ⟨k, hk, rfl, rfl, rfl, rfl, HB⟩ := hrel
      have HTr := Go.Lib.hid (HT.out.below (B7.out.trans (HB.out.mono B7.out.size)))
      by_cases hlt : k < n
      · have hkl : k < L.length := by have := N.out; omega
        have hkm : L.length - 1 - k < L.length := by omega
        have q1 := (K7.out.below HB.out K7.out.1).2 k hkl
        have q2 := (K7.out.below HB.out K7.out.1).2 (L.length - 1 - k) hkm
        rw [E1.out k hkl] at q1
        rw [E2.out k hkl] at q2
        have d1 := c24 k
        have d2 := c25 k
        obtain ⟨j, hj⟩ : ∃ j, L.length - 1 - k = j := ⟨_, rfl⟩
        rw [hj] at q2
        rw [N.out] at hj
        have hjn : j < n := by omega
        have hjc : (n : Int) - 1 - k = j := by omega
        have NX := Go.Lib.hid (show X (k + 1) = X (k + 1) from rfl)
        generalize X k = x at d1 q1
        generalize Y k = y at d2 q2
        generalize hx' : X (k + 1) = x' at d1
        generalize hy' : Y (k + 1) = y' at d2
        have HX' := Go.Lib.hid hx'
        have HY' := Go.Lib.hid hy'
        clear hx' hy' hkm hkl NX c24 c25
        go_wp2_with (first
          | (go_at_call 24; (with_reducible refine (d1 _ HTr.out).mono ?_); rintro e w8 ⟨rfl, b8⟩; have B8 := Go.Lib.hid b8; clear b8)
          | (go_at_call 25; (with_reducible refine (d2 _ (HTr.out.below B8.out)).mono ?_); rintro e w9 ⟨rfl, b9⟩; have B9 := Go.Lib.hid (HB.out.trans ((B8.out.trans (b9.mono B8.out.size)).mono HB.out.size)); clear b9))
        go_roundw
        case rel => exact ⟨k + 1, by omega, by go_num, by rw [HX'.out], by rw [HY'.out], rfl, B9⟩
        case measure => simp [intOf]; omega
      · obtain rfl : k = n := by omega
        rw [T.out.1, T.out.2]
        go_wp2
        go_ret
        exact ⟨ret_bool (by simp), B7.out.trans (HB.out.mono B7.out.size)⟩
  · have cP := fun w' => points_bad h hb w'
    clear h
    go_enter Tryd.func7, Tryd.ntmps7
    go_wp2_with (first
      | (go_at_call 15; (with_reducible refine (cC _).mono ?_); rintro e w' ⟨rfl, rfl⟩)
      | (go_at_call 17; (with_reducible refine (cP _).mono ?_); rintro e w5 ⟨rfl, b5⟩; have B5 := Go.Lib.hid b5; clear b5)
      | (go_at_call 12; (with_reducible refine (known_any _ (HT.out.below B5.out)).mono ?_); rintro e w6 ⟨rfl, b6⟩; have B6 := Go.Lib.hid (B5.out.trans (b6.mono B5.out.size)); clear b6)
      | (go_at_call 12; (with_reducible refine (known_any _ (HT.out.below B6.out)).mono ?_); rintro e w7 ⟨rfl, b7⟩; have B7 := Go.Lib.hid (B6.out.trans (b7.mono B6.out.size)); clear b7))
    go_ret
    exact ⟨ret_bool (by simp), B7.out⟩
end Go.Proofs.YtigbmhddkcgjfaaDoor
