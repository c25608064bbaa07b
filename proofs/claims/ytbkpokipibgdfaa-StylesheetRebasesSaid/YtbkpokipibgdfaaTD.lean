/- Layer 8: the law of finding (5). -/
import Derived.Test.YtbkpokipibgdfaaNM
import Derived.Test.YtbkpokipibgdfaaNG
namespace Go.Proofs.Ytbkpokipibgdfaa
open Go.RowKit Go.Lib Go.Maps
set_option linter.unusedVariables false

theorem kids_pre (i : Int) (l : List St) (j : Nat) : ∃ t, kids i l = kids i (l.take j) ++ t := by
  refine ⟨kids i (l.drop j), ?_⟩
  unfold kids
  rw [← List.map_append, ← List.filter_append, List.take_append_drop]
theorem kids_at {i : Int} {l : List St} {j : Nat} (h : j < l.length) (hb : (l[j].base == i) = true) : ∃ hq : (kids i (l.take j)).length < (kids i l).length, (kids i l)[(kids i (l.take j)).length] = l[j].id ∧ (kids i (l.take (j + 1))).length = (kids i (l.take j)).length + 1 := by
  obtain ⟨t, ht⟩ := kids_pre i l (j + 1)
  have hs := kids_snoc i l j h
  rw [if_pos hb] at hs
  rw [hs] at ht
  refine ⟨by rw [ht]; simp, ?_, by rw [hs]; simp⟩
  simp only [ht]
  simp
theorem kids_no {i : Int} {l : List St} {j : Nat} (h : j < l.length) (hb : (l[j].base == i) = false) : (kids i (l.take (j + 1))).length = (kids i (l.take j)).length := by
  rw [kids_snoc i l j h, if_neg (by simp [hb])]
  simp
theorem kids_le (i : Int) (l : List St) (j : Nat) : (kids i (l.take j)).length ≤ (kids i l).length := by
  obtain ⟨t, ht⟩ := kids_pre i l j
  rw [ht]; simp

theorem sml_nms {l : List St} (h : Sml l) : NmsOk l := by
  intro x hx
  obtain ⟨k, hk, rfl⟩ := List.mem_iff_getElem.1 hx
  have := (h.2 k hk).2
  omega
theorem sml_prs {l : List St} (h : Sml l) : PrsOk l := by
  intro x hx
  obtain ⟨k, hk, rfl⟩ := List.mem_iff_getElem.1 hx
  have := (h.2 k hk).1
  omega

attribute [local irreducible] wpQuiet in
set_option maxRecDepth 100000 in
set_option maxHeartbeats 8000000 in
theorem law_finds (A : Option Addr) (n c : Nat) (l : List St) (hn : l.length = n) (hc : n ≤ c ∧ c ≤ maxLen) (hok : LsOk l) (i : Int) (hi : I64 i) (x1 x2 x4 x5 : Int) (s : ByteArray) (hs : s.size ≤ maxLen) (B : Option Addr) (m d : Nat) (w : World) (hA : LsAt w A l) :
    Calls Try.prog 5 #[.slice A n c, .int .i64 i, .agg #[.int .i64 x1, .int .i64 x2, .string s, .int .i64 x4, .int .i64 x5, .slice B m d]] w (TrueW w) := by
  have cK := Go.Lib.hid (fun w' => known_any w')
  have cS := Go.Lib.hid (fun w' (hb : Below w.heap.size w w') => small_any l A n c hn hc w' (hA.below hb))
  have HA := Go.Lib.hid hA
  have HN := Go.Lib.hid hn
  have HC := Go.Lib.hid hc
  have HI := Go.Lib.hid hi
  have HOK := Go.Lib.hid hok
  have hc1 := hc.1
  have hc2 := hc.2
  unfold maxLen at hc2 hs
  have ob := ObjAt.new w #[.int .i64 x1, .int .i64 x2, .string s, .int .i64 x4, .int .i64 x5, .slice B m d] 28
  have k0 := (Below.refl w.heap.size w).alloc (Nat.le_refl _) (.cells #[.int .i64 x1, .int .i64 x2, .string s, .int .i64 x4, .int .i64 x5, .slice B m d] 28)
  have s0 := k0.size
  have OB := Go.Lib.hid ob
  have K0 := Go.Lib.hid k0
  clear hA hn hc hi hok ob k0
  go_enter Try.func5, Try.ntmps5
  go_wp2_with fail
  (with_reducible refine (cK.out _).mono ?_)
  rintro e w1 ⟨rfl, k1⟩
  have K1 := Go.Lib.hid (K0.out.trans (k1.mono s0))
  have s1 := K1.out.size
  have O1 := Go.Lib.hid (OB.out.below k1)
  have cs := cS.out w1 K1.out
  clear k1
  go_wp2_with fail
  (with_reducible refine cs.mono ?_)
  rintro e w2 ⟨⟨b, rfl, hb⟩, k2⟩
  have K2 := Go.Lib.hid (K1.out.trans (k2.mono s1))
  have s2 := K2.out.size
  have O2 := Go.Lib.hid (O1.out.below k2)
  clear cs k2
  have g1 := O2.out.s1
  have g2 := O2.out.s2
  cases b with
  | false =>
    clear hb
    go_wp2_with fail
    (with_reducible refine (cK.out _).mono ?_)
    rintro e w3 ⟨rfl, k3⟩
    go_wp2
    go_ret
    exact ⟨by simp, K2.out.trans (k3.mono s2)⟩
  | true =>
    have HT := Go.Lib.hid (hb rfl)
    clear hb
    by_cases hsz : s.size ≤ 100
    case neg =>
      have e1 : (100 : Int) < (s.size : Int) := by omega
      go_wp2_with fail
      (with_reducible refine (cK.out _).mono ?_)
      rintro e w3 ⟨rfl, k3⟩
      go_wp2
      go_ret
      exact ⟨by simp, K2.out.trans (k3.mono s2)⟩
    have e1 : ¬ (100 : Int) < (s.size : Int) := by omega
    have h24 : n ≤ 24 := by rw [← HN.out]; exact HT.out.1
    have cF := find_any A n c l HN.out (by omega) HOK.out i HI.out w2 (HA.out.below K2.out)
    have cN := Go.Lib.hid (fun w' (hb : Below w.heap.size w w') => findname_any l n HN.out (by omega) A c x2 s w' (HA.out.below hb))
    have rF := Go.Lib.hid (fun w' (hb : Below w.heap.size w w') => rfind_any l n HN.out (by omega) A c i w' (HA.out.below hb))
    have rN := Go.Lib.hid (fun w' (hb : Below w.heap.size w w') => rfindname_any l n HN.out (by omega) A c x2 s w' (HA.out.below hb))
    have cC := Go.Lib.hid (fun w' (hb : Below w.heap.size w w') => children_any l n HN.out (by omega) A c i w' (HA.out.below hb))
    generalize fnd (isId i) l = F at *
    generalize fnd (isNm x2 s) l = G at *
    go_wp2_with fail
    (with_reducible refine cF.mono ?_)
    rintro e w3 ⟨rfl, k3⟩
    have K3 := Go.Lib.hid (K2.out.trans (k3.mono s2))
    have s3 := K3.out.size
    have O3 := Go.Lib.hid (O2.out.below k3)
    clear cF k3 g1 g2
    have g1 := O3.out.s1
    have g2 := O3.out.s2
    have cn := cN.out w3 K3.out
    go_wp2_with fail
    (with_reducible refine cn.mono ?_)
    rintro e w4 ⟨rfl, k4⟩
    have K4 := Go.Lib.hid (K3.out.trans (k4.mono s3))
    have s4 := K4.out.size
    have O4 := Go.Lib.hid (O3.out.below k4)
    clear cn k4 g1 g2
    have y1F : ∀ p : Bw w4, p.w.cell? ⟨w.heap.size, 1, none⟩ = some (.int .i64 x2) := fun p => (O4.out.below p.h).s1
    have y2F : ∀ p : Bw w4, p.w.cell? ⟨w.heap.size, 2, none⟩ = some (.string s) := fun p => (O4.out.below p.h).s2
    go_wp2_with fail
    refine wp_region_bw (W := w4) (by kernel_rfl) (by kernel_rfl) (by first | exact Below.refl _ _ | exact (Below.refl _ _).drew) ?_
    repeat (quiet_step (first
      | (go_at_call 21; exact bw_of (fun p => rF.out p.w (K4.out.trans (p.h.mono s4))) _)
      | (go_at_call 22; exact bw_of (fun p => rN.out p.w (K4.out.trans (p.h.mono s4))) _)
      | fail))
    refine wpQuiet_nil ?_
    intro w5 hw'
    have kk : Below w4.heap.size w4 w5 := by obtain ⟨p2, rfl⟩ := hw'; exact p2.h
    have K5 := Go.Lib.hid (K4.out.trans (kk.mono s4))
    have s5 := K5.out.size
    clear hw' y1F y2F kk
    have cc := cC.out w5 K5.out
    go_wp2_with fail
    all_goals
      (with_reducible refine cc.mono ?_)
      rintro e w6 ⟨D, q, cb, rfl, hq, hI, k6⟩
      have K6 := Go.Lib.hid (K5.out.trans (k6.mono s5))
      have s6 := K6.out.size
      have HII := Go.Lib.hid hI
      have HQ := Go.Lib.hid hq
      have hq24 : q ≤ 24 := by have := kids_len i l; have := HN.out; omega
      clear cc k6 hI hq
      have bb := Below.refl w6.heap.size w6
      go_wp2_with fail
      go_loopw [14, 15] (fun s14 s15 wr => ∃ j k : Nat, j ≤ n ∧ s15 = .int .i64 (j : Nat) ∧ s14 = .int .i64 (k : Nat) ∧ k ≤ q ∧ Hid (k = (kids i (l.take j)).length) ∧ Below w6.heap.size w6 wr) (fun _ s15 _ => n - (intOf s15).toNat)
      case atStart => exact ⟨0, 0, Nat.zero_le _, rfl, rfl, Nat.zero_le _, Go.Lib.hid (by simp [kids]), bb⟩
      case round =>
        clear bb
        obtain ⟨j, k, hj, rfl, rfl, hkq, HKK, hbk⟩ := hrel
        have HBK := Go.Lib.hid hbk
        have t6 := HBK.out.size
        by_cases hlt : j < n
        · have p0 : (0 : Int) ≤ (j : Int) := by omega
          have p1 : (j : Int) < (n : Int) := by omega
          have hjl : j < l.length := by rw [HN.out]; exact hlt
          obtain ⟨g, o, rfl, hg, hcl⟩ := HA.out.pos (by omega)
          obtain ⟨Bp, cc, c0, _, _, c3, _⟩ := hcl j hjl
          have KB := Go.Lib.hid (K6.out.trans (HBK.out.mono s6))
          have z0 := (KB.out.cell (p := ⟨g, o + j * 6, none⟩) hg).trans c0
          have z3 := (KB.out.cell (p := ⟨g, o + j * 6 + 3, none⟩) hg).trans c3
          have HY := Go.Lib.hid (fun h => kids_at (i := i) hjl h)
          have HX := Go.Lib.hid (fun h => kids_no (i := i) hjl h)
          clear hcl c0 c3
          generalize l[j].id = v0 at z0 HY
          generalize l[j].base = v3 at z3 HY HX
          by_cases hv : (v3 == i) = true
          · have hv' : (v3 != i) = false := by simp [bne, hv]
            obtain ⟨h1, h2, h3⟩ := HY.out hv
            have hkq2 : k < q := by rw [HKK.out, ← HQ.out]; exact h1
            have q0 : (0 : Int) ≤ (k : Int) := by omega
            have q1 : (k : Int) < (q : Int) := by omega
            have hkk : k < (kids i l).length := by rw [HQ.out]; exact hkq2
            obtain ⟨gd, rfl, hgd, hd⟩ : ∃ gd, D = some ⟨gd, 0, none⟩ ∧ gd < w6.heap.size ∧ w6.cell? ⟨gd, k, none⟩ = some (.int .i64 v0) := by
              rcases HII.out with h | ⟨gd, e1, e2, e3⟩
              · rw [h] at hkk; exact absurd hkk (Nat.not_lt_zero _)
              · refine ⟨gd, e1, e2, ?_⟩
                rw [e3 k hkk]
                have : (kids i l)[k] = v0 := by rw [← h2]; congr 1
                rw [this]
            have zd := (hbk.cell (p := ⟨gd, k, none⟩) hgd).trans hd
            have H3 := Go.Lib.hid (show k + 1 = (kids i (l.take (j + 1))).length by rw [h3, ← HKK.out])
            have hvv : (v0 != v0) = false := by simp
            have hd0 : decide ((q : Int) ≤ (k : Int)) = false := decide_eq_false (by omega)
            clear HY HX h1 h2 h3 hd hv hkk hbk
            go_wp2_with fail
            go_quiet (fail)
            go_wp2
            go_roundw
            case rel => exact ⟨j + 1, k + 1, by omega, by go_num, by go_num, by omega, H3, by first | exact HBK.out | exact HBK.out.drew | exact bdrew HBK.out _⟩
            case measure => simp [intOf]; omega
          · have hv' : (v3 != i) = true := by simpa [bne] using hv
            have hvf : (v3 == i) = false := by simpa using hv
            have H3 := Go.Lib.hid (show k = (kids i (l.take (j + 1))).length by rw [HX.out hvf, ← HKK.out])
            clear HY HX hv hvf hbk
            go_wp2_with fail
            go_roundw
            case rel => exact ⟨j + 1, k, by omega, by go_num, by go_num, by omega, H3, HBK.out⟩
            case measure => simp [intOf]; omega
        · obtain rfl : j = n := by omega
          have e : l.take j = l := List.take_of_length_le (by rw [HN.out]; exact Nat.le_refl _)
          have hkq3 : k = q := by rw [HKK.out, e, HQ.out]
          subst hkq3
          clear e hbk
          go_wp2_with fail
          go_ret
          exact ⟨by simp, K6.out.trans (HBK.out.mono s6)⟩
end Go.Proofs.Ytbkpokipibgdfaa
