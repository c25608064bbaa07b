import Derived.Test.YtigbmhddkcgjfaaDoorTr
namespace Go.Proofs.YtigbmhddkcgjfaaDoor
open Go.RowKit Go.Shelf
open Gc

theorem i64_of {x : Int} (h : (Lit.int .i64 x).wf = true) : -9223372036854775808 ≤ x ∧ x ≤ 9223372036854775807 := by
  simpa [Lit.wf, IntKind.bits, IntKind.signed, IntKind.min, IntKind.max] using h
theorem nx_min (cs : List Int) (n : Nat) : nx cs (min n (cls cs).length) = nx cs n := by
  unfold nx
  congr 1
  omega

set_option maxRecDepth 100000 in
set_option maxHeartbeats 4000000 in
theorem law_truncates (s : ByteArray) (x : Int) (hs : s.size ≤ maxLen) (hx : -9223372036854775808 ≤ x ∧ x ≤ 9223372036854775807) (w : World) (hT : Tabs w) : Calls Tryd.prog 9 #[.string s, .int .i64 x] w (BoolPost true w) := by
  obtain ⟨P, bad, h⟩ := str_cut s
  have HT := Go.Lib.hid hT
  clear hT
  have cC := fun w => cut_any s hs w
  by_cases hb : bad = []
  · subst hb
    have cP := fun w' => points_ok2 h w'
    by_cases h0 : x < 0
    · have cU := fun w' hT' => trunc_neg h x h0 w' hT'
      clear h
      go_enter Tryd.func9, Tryd.ntmps9
      go_wp2_with (first
        | (go_at_call 15; (with_reducible refine (cC _).mono ?_); rintro e w' ⟨rfl, rfl⟩)
        | (go_at_call 29; (with_reducible refine (cU _ HT.out).mono ?_); rintro e w4 ⟨rfl, b4⟩; have B4 := Go.Lib.hid b4; clear b4)
        | (go_at_call 17; (with_reducible refine (cP _).mono ?_); rintro e w5 ⟨x1, p1, x2, p2, rfl, i1, i2, b5⟩; clear i1 i2; have B5 := Go.Lib.hid (B4.out.trans (b5.mono B4.out.size)); clear b5)
        | (go_at_call 12; (with_reducible refine (known_any _ (HT.out.below B5.out)).mono ?_); rintro e w6 ⟨rfl, b6⟩; have B6 := Go.Lib.hid (B5.out.trans (b6.mono B5.out.size)); clear b6))
      go_ret
      exact ⟨ret_bool (by simp), B6.out⟩
    · obtain ⟨n, rfl⟩ : ∃ n : Nat, x = n := ⟨x.toNat, by omega⟩
      have cU := fun w' hT' => trunc_ok h n (by omega) w' hT'
      have hl2 := h.len
      have cR := fun v base w' hv => ref_blk h base v w' hv
      have hl := cls_len_le h
      have hbl := bl_len (cls (cp P))
      obtain ⟨k, hkq⟩ : ∃ k, min n (cls (cp P)).length = k := ⟨_, rfl⟩
      have hk2 : k < (bl (cls (cp P))).length := by omega
      have hkn : nx (cp P) k = nx (cp P) n := by rw [← hkq]; exact nx_min _ _
      have hkm : min (n : Int) (((bl (cls (cp P))).length : Int) - 1) = k := by omega
      have hb' : nx (cp P) k ≤ P.length := by have := nx_le (cp P) k; rw [cp_len] at this; exact this
      have cY := fun base v w' hv => bytesOf_any h base v w' hv (nx (cp P) k) hb'
      have hof := off_size h (nx (cp P) k)
      have e3 := nx_at (cp P) k hk2
      have hto : tr P n = U.off P (nx (cp P) k) := by unfold tr; rw [hkn]
      rw [hto] at cU
      have hsz := h.size
      have hne := bl_ne (cls (cp P))
      have hn0 : 0 < (bl (cls (cp P))).length := List.length_pos_iff.2 hne
      have hn1 : (bl (cls (cp P))).length ≤ 100001 := by omega
      obtain ⟨L, hL, e4⟩ : ∃ L, bl (cls (cp P)) = L ∧ (∀ hk3 : k < L.length, L[k] = (nx (cp P) k : Nat)) := ⟨_, rfl, fun _ => e3⟩
      clear e3
      rw [hL] at cR hkm hk2 hn0 hn1
      clear hL hbl hl hne h hkq hkn hto
      generalize nx (cp P) k = b at cY cU hof e4 hb'
      generalize U.off P b = o at cY cU hof
      obtain ⟨m, hm⟩ : ∃ m, L.length = m := ⟨_, rfl⟩
      have N := Go.Lib.hid hm
      rw [hm] at hk2 hn0 hn1 hkm
      have E4 := Go.Lib.hid e4
      clear hm e4
      go_enter Tryd.func9, Tryd.ntmps9
      go_wp2_with (first
        | (go_at_call 15; (with_reducible refine (cC _).mono ?_); rintro e w' ⟨rfl, rfl⟩)
        | (go_at_call 29; (with_reducible refine (cU _ HT.out).mono ?_); rintro e w4 ⟨rfl, b4⟩; have B4 := Go.Lib.hid b4; clear b4)
        | (go_at_call 17; (with_reducible refine (cP _).mono ?_); rintro e w5 ⟨x1, p1, x2, p2, rfl, i1, i2, b5⟩; have B5 := Go.Lib.hid (B4.out.trans (b5.mono B4.out.size)); have I1 := Go.Lib.hid (i1); have J1 := Go.Lib.hid (i2); clear b5 i1 i2)
        | (go_at_call 12; (with_reducible refine (known_any _ (HT.out.below B5.out)).mono ?_); rintro e w6 ⟨rfl, b6⟩; have I2 := Go.Lib.hid (I1.out.below b6); have J2 := Go.Lib.hid (J1.out.below b6); have B6 := Go.Lib.hid (B5.out.trans (b6.mono B5.out.size)); clear b6)
        | (go_at_call 19; (with_reducible refine (cR _ _ _ I2.out).mono ?_); rintro e w7 ⟨g7, p7, rfl, C7, b7⟩; have q2 := C7.2 k (by rw [N.out]; exact hk2); rw [E4.out] at q2; rw [N.out]; have J3 := Go.Lib.hid (J2.out.below b7); have B7 := Go.Lib.hid (B6.out.trans (b7.mono B6.out.size)); clear C7 b7)
        | (go_at_call 22; (with_reducible refine (cY _ _ _ J3.out).mono ?_); rintro e w8 ⟨rfl, rfl⟩))
      go_ret
      exact ⟨ret_bool (by simp), B7.out⟩
  · have cP := fun w' => points_bad h hb w'
    have cU := fun w' hT' => trunc_bad h hb x w' hT'
    clear h
    go_enter Tryd.func9, Tryd.ntmps9
    go_wp2_with (first
      | (go_at_call 15; (with_reducible refine (cC _).mono ?_); rintro e w' ⟨rfl, rfl⟩)
      | (go_at_call 29; (with_reducible refine (cU _ HT.out).mono ?_); rintro e w4 ⟨rfl, b4⟩; have B4 := Go.Lib.hid b4; clear b4)
      | (go_at_call 17; (with_reducible refine (cP _).mono ?_); rintro e w5 ⟨rfl, b5⟩; have B5 := Go.Lib.hid (B4.out.trans (b5.mono B4.out.size)); clear b5)
      | (go_at_call 12; (with_reducible refine (known_any _ (HT.out.below B5.out)).mono ?_); rintro e w6 ⟨rfl, b6⟩; have B6 := Go.Lib.hid (B5.out.trans (b6.mono B5.out.size)); clear b6))
    go_ret
    exact ⟨ret_bool (by simp), B6.out⟩
end Go.Proofs.YtigbmhddkcgjfaaDoor
