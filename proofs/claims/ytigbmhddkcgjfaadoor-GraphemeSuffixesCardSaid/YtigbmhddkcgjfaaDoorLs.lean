import Derived.Test.YtigbmhddkcgjfaaDoorGs
namespace Go.Proofs.YtigbmhddkcgjfaaDoor
open Go.RowKit Go.Shelf
open Gc

theorem u16_of {x : Int} (h : (Lit.int .u16 x).wf = true) : 0 ≤ x ∧ x ≤ 65535 := by
  simpa [Lit.wf, IntKind.bits, IntKind.signed, IntKind.min, IntKind.max] using h
theorem bl_range (cs : List Int) (j : Nat) (h : j < (bl (cls cs)).length) : 0 ≤ (bl (cls cs))[j] ∧ (bl (cls cs))[j] ≤ cs.length := by
  have hj : j < (bnd cs).length := by rw [bnd_len]; rw [bl_len] at h; omega
  have e : (bl (cls cs))[j] = ((bnd cs)[j] : Nat) := by simp only [bl_bnd, List.getElem_map]
  have := bnd_le cs _ (List.getElem_mem hj)
  omega

set_option maxRecDepth 100000 in
set_option maxHeartbeats 4000000 in
theorem law_suffixes (s : ByteArray) (x : Int) (hs : s.size ≤ maxLen) (hx : 0 ≤ x ∧ x ≤ 65535) (w : World) (hT : Tabs w) : Calls Tryd.prog 8 #[.string s, .int .u16 x] w (BoolPost true w) := by
  obtain ⟨P, bad, h⟩ := str_cut s
  have HT := Go.Lib.hid hT
  clear hT
  have cC := fun w => cut_any s hs w
  by_cases hb : bad = []
  · subst hb
    have cP := fun w' => points_ok2 h w'
    have hl2 := h.len
    have cR := fun v base w' hv => ref_blk h base v w' hv
    have hl := cls_len_le h
    have hbl := bl_len (cls (cp P))
    have hne := bl_ne (cls (cp P))
    have hn0 : 0 < (bl (cls (cp P))).length := List.length_pos_iff.2 hne
    have hn1 : (bl (cls (cp P))).length ≤ 100001 := by omega
    obtain ⟨k, hk, hk2⟩ : ∃ k : Nat, x.tmod ((bl (cls (cp P))).length : Int) = k ∧ k < (bl (cls (cp P))).length := by
      have h1 := Int.tmod_nonneg ((bl (cls (cp P))).length : Int) hx.1
      have h2 := Int.tmod_lt_of_pos x (b := ((bl (cls (cp P))).length : Int)) (by omega)
      exact ⟨(x.tmod ((bl (cls (cp P))).length : Int)).toNat, by omega, by omega⟩
    have hb' : nx (cp P) k ≤ P.length := by have := nx_le (cp P) k; rw [cp_len] at this; exact this
    have cY := fun base v w' hv => bytesOf_any h base v w' hv (nx (cp P) k) hb'
    have hsf := str_suf h (nx (cp P) k)
    have hof := off_size h (nx (cp P) k)
    have cB := fun w' hT' => bounds_blk hsf w' hT'
    rw [cp_drop] at cB
    have e3 := nx_at (cp P) k hk2
    have hsz := h.size
    have hpl := ptsI_len P
    have hol := offs_len P
    obtain ⟨L, M, hL, hM, e1, e2⟩ : ∃ L M, bl (cls (cp P)) = L ∧ bl (cls ((cp P).drop (nx (cp P) k))) = M ∧ M.length = L.length - k ∧
        (∀ j (hj : j < M.length) (hj2 : k + j < L.length), M[j] + (nx (cp P) k : Nat) = L[k + j]) := ⟨_, _, rfl, rfl, bl_suf (cp P) k hk2⟩
    have e5 : ∀ j (hj : j < M.length), 0 ≤ M[j] ∧ M[j] ≤ 100000 := by
      subst hM
      intro j hj
      have := bl_range _ j hj
      rw [List.length_drop, cp_len] at this
      omega
    have E5 := Go.Lib.hid e5
    clear e5
    obtain ⟨b, hbq⟩ : ∃ b, nx (cp P) k = b := ⟨_, rfl⟩
    have hb5 : b ≤ 100000 := by omega
    have e4 : ∀ hk3 : k < L.length, L[k] = (b : Nat) := by
      subst hL; rw [← hbq]; intro _; exact e3
    clear e3
    rw [hL] at cR hk hk2 hn1 hn0
    rw [hM] at cB
    rw [hbq] at cY cB e2 hof
    clear hL hM hbl hl hne h hb' hbq
    obtain ⟨o, ho⟩ : ∃ o, U.off P b = o := ⟨_, rfl⟩
    rw [ho] at cY cB hof
    clear ho
    obtain ⟨n, hn⟩ : ∃ n, L.length = n := ⟨_, rfl⟩
    obtain ⟨m, hm⟩ : ∃ m, M.length = m := ⟨_, rfl⟩
    have N := Go.Lib.hid hn
    have NM := Go.Lib.hid hm
    rw [hn] at hk hk2 hn1 hn0 e1
    rw [hm] at e1
    have E2 := Go.Lib.hid e2
    have E4 := Go.Lib.hid e4
    clear hn hm e2 e4 hpl hol
    go_enter Tryd.func8, Tryd.ntmps8
    go_wp2_with (first
      | (go_at_call 15; (with_reducible refine (cC _).mono ?_); rintro e w' ⟨rfl, rfl⟩)
      | (go_at_call 17; (with_reducible refine (cP _).mono ?_); rintro e w5 ⟨x1, p1, x2, p2, rfl, i1, i2, b5⟩; have I1 := Go.Lib.hid i1; have J1 := Go.Lib.hid i2; clear i1 i2; have B5 := Go.Lib.hid b5; clear b5)
      | (go_at_call 12; (with_reducible refine (known_any _ (HT.out.below B5.out)).mono ?_); rintro e w6 ⟨rfl, b6⟩; have I2 := Go.Lib.hid (I1.out.below b6); have J2 := Go.Lib.hid (J1.out.below b6); have B6 := Go.Lib.hid (B5.out.trans (b6.mono B5.out.size)); clear b6)
      | (go_at_call 19; (with_reducible refine (cR _ _ _ I2.out).mono ?_); rintro e w7 ⟨g7, p7, rfl, C7, b7⟩; have q2 := C7.2 k (by rw [N.out]; exact hk2); rw [E4.out] at q2; rw [N.out]; have K7 := Go.Lib.hid C7; have J3 := Go.Lib.hid (J2.out.below b7); have B7 := Go.Lib.hid (B6.out.trans (b7.mono B6.out.size)); clear C7 b7)
      | (go_at_call 22; (with_reducible refine (cY _ _ _ J3.out).mono ?_); rintro e w8 ⟨rfl, rfl⟩)
      | (go_at_call 16; (with_reducible refine (cB _ (HT.out.below B7.out)).mono ?_); rintro e w9 ⟨g9, p9, rfl, _, C9, b9⟩; rw [NM.out]; have K9 := Go.Lib.hid C9; have K8 := Go.Lib.hid (K7.out.below b9 K7.out.lt); have B9 := Go.Lib.hid (B7.out.trans (b9.mono B7.out.size)); clear C9 b9))
    clear q2
    go_loopw [4, 12] (fun r i wr => ∃ j : Nat, j ≤ n - k ∧ r = .bool false ∧ i = .int .i64 (j : Nat) ∧ Hid (Below w9.heap.size w9 wr)) (fun _ i _ => n - k - (intOf i).toNat)
    case atStart => exact ⟨0, Nat.zero_le _, rfl, rfl, Go.Lib.hid (Below.refl _ _)⟩
    case round =>
      obtain ⟨j, hj, rfl, rfl, HB⟩ := hrel
      have q2 := (K8.out.below HB.out K8.out.1).2 k (by rw [N.out]; exact hk2)
      rw [E4.out] at q2
      by_cases hlt : j < n - k
      · have hjm : j < M.length := by have := NM.out; omega
        have hjl : k + j < L.length := by have := N.out; omega
        have q1 := (K9.out.below HB.out K9.out.1).2 j hjm
        have q4 := (K8.out.below HB.out K8.out.1).2 (k + j) hjl
        have q5 := E5.out j hjm
        rw [← E2.out j hjm hjl] at q4
        generalize M[j] = y at q1 q4 q5
        obtain ⟨q5, q6⟩ := q5
        have hkj : ((k : Int) + j).toNat = k + j := by omega
        clear hjm hjl
        go_wp2
        go_quiet (fail)
        go_wp2
        go_roundw
        case rel => exact ⟨j + 1, by omega, rfl, by go_num, Go.Lib.hid (HB.out.trans (below_drews _ _ _))⟩
        case measure => simp [intOf]; omega
      · obtain rfl : j = n - k := by omega
        go_wp2
        go_ret
        exact ⟨ret_bool (by simp), B9.out.trans (HB.out.mono B9.out.size)⟩
  · have cP := fun w' => points_bad h hb w'
    clear h
    go_enter Tryd.func8, Tryd.ntmps8
    go_wp2_with (first
      | (go_at_call 15; (with_reducible refine (cC _).mono ?_); rintro e w' ⟨rfl, rfl⟩)
      | (go_at_call 17; (with_reducible refine (cP _).mono ?_); rintro e w5 ⟨rfl, b5⟩; have B5 := Go.Lib.hid b5; clear b5)
      | (go_at_call 12; (with_reducible refine (known_any _ (HT.out.below B5.out)).mono ?_); rintro e w6 ⟨rfl, b6⟩; have B6 := Go.Lib.hid (B5.out.trans (b6.mono B5.out.size)); clear b6)
      | (go_at_call 12; (with_reducible refine (known_any _ (HT.out.below B6.out)).mono ?_); rintro e w7 ⟨rfl, b7⟩; have B7 := Go.Lib.hid (B6.out.trans (b7.mono B6.out.size)); clear b7))
    go_ret
    exact ⟨ret_bool (by simp), B7.out⟩
end Go.Proofs.YtigbmhddkcgjfaaDoor
