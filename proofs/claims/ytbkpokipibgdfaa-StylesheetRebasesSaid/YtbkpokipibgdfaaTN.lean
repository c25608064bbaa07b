/- Layer 8: the law of chains (6). -/
import Derived.Test.YtbkpokipibgdfaaTM
import Derived.Test.YtbkpokipibgdfaaTK
import Derived.Test.YtbkpokipibgdfaaNK
namespace Go.Proofs.Ytbkpokipibgdfaa
open Go.RowKit Go.Lib Go.Maps
set_option linter.unusedVariables false

theorem chkI_bnd {l : List St} {i : Int} (h : chkI l i = 0) : ∀ pre, ChP l (plc l i) pre → pre.length < l.length + 1 := fun pre hc => (chkI_good h).1.bound hc
theorem folV_bad {l : List St} {i : Int} (h : chkI l i ≠ 0) : folV l i = (0, chkI l i) := by unfold folV; rw [if_pos h]
theorem folV_good {l : List St} {i : Int} {k : Nat} (h : chkI l i = 0) (hp : plc l i = some k) (hk : k < l.length) : folV l i = if l[k].kind = 2 then (0, 3) else if l[k].next = 0 then (i, 0) else (l[k].next, 0) := by
  unfold folV
  rw [if_neg (by simp [h]), hp]
  dsimp only
  rw [List.getD_eq_getElem?_getD, List.getElem?_eq_getElem hk]
  rfl
theorem ints_own {w : World} {base n : Nat} {v : Value} {l : List Int} (h : w.ownsRow base 3 1 v n (intsV l)) (hn : l.length = n) : ∃ B cb, v = .slice B n cb ∧ IntsAt w B l := by
  obtain ⟨B, cb, rfl⟩ := own_form h
  exact ⟨B, cb, rfl, ints_at h hn⟩
theorem IntsAt.at {w : World} {B : Option Addr} {l : List Int} (h : IntsAt w B l) {j : Nat} (hj : j < l.length) : ∃ g, B = some ⟨g, 0, none⟩ ∧ g < w.heap.size ∧ w.cell? ⟨g, j, none⟩ = some (.int .i64 l[j]) := by
  rcases h with h | ⟨g, h1, h2, h3⟩
  · subst h; exact absurd hj (Nat.not_lt_zero _)
  · exact ⟨g, h1, h2, h3 j hj⟩
theorem idsL_len (l : List St) (xs : List Nat) : (idsL l xs).length = xs.length := List.length_map _
theorem chain_b (l : List St) (hok : LsOk l) (hnm : NmsOk l) (A : Option Addr) (m d : Nat) (hm : l.length = m) (hs : m ≤ 1000) (i : Int) (hi : I64 i) (hz : chkI l i ≠ 0) (w : World) (hA : LsAt w A l) :
    Calls Try.prog 24 #[.slice A m d, .int .i64 i] w fun e w' => e = .returned (.tuple #[.slice none 0 0, .int .i64 (chkI l i)]) ∧ Below w.heap.size w w' := by
  refine (chain_bad l hok hnm A m d hm hs i hi hz w hA).mono ?_
  rintro e w1 ⟨⟨_, rfl⟩ | ⟨h, _⟩, k⟩
  · exact ⟨rfl, k⟩
  · exact absurd h hz
theorem chain_g (l : List St) (hok : LsOk l) (hnm : NmsOk l) (A : Option Addr) (m d N : Nat) (hm : l.length = m) (hs : m ≤ 1000) (i : Int) (hi : I64 i) (hN : N ≤ 2000) (hz : chkI l i = 0) (hbd : ∀ pre, ChP l (plc l i) pre → pre.length < N) (w : World) (hA : LsAt w A l) :
    Calls Try.prog 24 #[.slice A m d, .int .i64 i] w fun e w' => (∃ xs B n cb, xs.length = n ∧ e = .returned (.tuple #[.slice B n cb, .int .i64 0]) ∧ ChP l (plc l i) xs ∧ nxt l (plc l i) xs = none ∧ IntsAt w' B (idsL l xs)) ∧ Below w.heap.size w w' := by
  refine (chain_c l hok hnm A m d N hm hs i hi hN (fun _ => hbd) w hA).mono ?_
  rintro e w1 ⟨⟨h, _⟩ | ⟨_, xs, v, h1, h2, rfl, h3⟩, k⟩
  · exact absurd hz h
  · obtain ⟨B, cb, rfl, h4⟩ := ints_own h3 (idsL_len l xs)
    exact ⟨⟨xs, B, _, cb, rfl, rfl, h1, h2, h4⟩, k⟩
theorem rchain_g (l : List St) (hG : Good l) (A : Option Addr) (n c : Nat) (hn : l.length = n) (i : Int) (hi : i = 0 ∨ (plc l i).isSome = true) (w : World) (hA : LsAt w A l) :
    Calls Try.prog 26 #[.slice A n c, .int .i64 i] w fun e w' => (∃ xs B n cb, xs.length = n ∧ e = .returned (.slice B n cb) ∧ ChP l (plc l i) xs ∧ nxt l (plc l i) xs = none ∧ IntsAt w' B (idsL l xs)) ∧ Below w.heap.size w w' := by
  refine (rchain_any l hG A n c hn i hi w hA).mono ?_
  rintro e w1 ⟨xs, v, h1, h2, rfl, h3, k⟩
  obtain ⟨B, cb, rfl, h4⟩ := ints_own h3 (idsL_len l xs)
  exact ⟨⟨xs, B, _, cb, rfl, rfl, h1, h2, h4⟩, k⟩
set_option maxRecDepth 100000 in
set_option maxHeartbeats 16000000 in
theorem law_chains (A : Option Addr) (n c : Nat) (l : List St) (hn : l.length = n) (hc : n ≤ c ∧ c ≤ maxLen) (hin : ∀ x ∈ l, StIn x) (i : Int) (hwi : (Lit.int .i64 i).wf = true) (w : World) (hA : LsAt w A l) :
    Calls Try.prog 6 #[.slice A n c, .int .i64 i] w (TrueW w) := by
  have cK := Go.Lib.hid (fun w' => known_any w')
  have cS := Go.Lib.hid (fun w' (hb : Below w.heap.size w w') => small_any l A n c hn hc w' (hA.below hb))
  have HA := Go.Lib.hid hA
  have HN := Go.Lib.hid hn
  have HOK := Go.Lib.hid (ls_ok hin)
  have HI := Go.Lib.hid (wf_i64 hwi)
  clear hA hn hc hin hwi
  have K0 := Go.Lib.hid (Below.refl w.heap.size w)
  have s0 := K0.out.size
  go_enter Try.func6, Try.ntmps6
  have cc := cK.out w
  go_wp2_with fail
  (with_reducible refine cc.mono ?_)
  rintro e w1 ⟨rfl, k1⟩
  have K1 := Go.Lib.hid (K0.out.trans (k1.mono s0))
  have s1 := K1.out.size
  clear cc k1
  have cc := cS.out w1 K1.out
  go_wp2_with fail
  (with_reducible refine cc.mono ?_)
  rintro e w2 ⟨⟨b, rfl, hb⟩, k2⟩
  have K2 := Go.Lib.hid (K1.out.trans (k2.mono s1))
  have s2 := K2.out.size
  clear cc k2
  cases b with
  | false =>
    clear hb
    have cc := cK.out w2
    go_wp2_with fail
    (with_reducible refine cc.mono ?_)
    rintro e w3 ⟨rfl, k3⟩
    have K3 := Go.Lib.hid (K2.out.trans (k3.mono s2))
    have s3 := K3.out.size
    clear cc k3
    go_wp2
    go_ret
    exact ⟨by simp, K3.out⟩
  | true =>
    have HT := Go.Lib.hid (hb rfl)
    clear hb
    have q1 : n ≤ 1000 := by rw [← HN.out]; exact Nat.le_trans HT.out.1 (by omega)
    have HL24 := Go.Lib.hid HT.out.1
    have e2 := Go.Lib.hid (fun w' (hb : Below w.heap.size w w') => follow_any l HOK.out (sml_nms HT.out) A n c HN.out q1 i HI.out w' (HA.out.below hb))
    have e3 := Go.Lib.hid (fun w' (hb : Below w.heap.size w w') => rcheck_any l HOK.out (sml_nms HT.out) n HN.out q1 A c w' (HA.out.below hb))
    have e4 := Go.Lib.hid (fun w' (hb : Below w.heap.size w w') => rfind_any l n HN.out q1 A c i w' (HA.out.below hb))
    by_cases hz : chkI l i = 0
    case neg =>
      have e1 := Go.Lib.hid (fun w' (hb : Below w.heap.size w w') => chain_b l HOK.out (sml_nms HT.out) A n c HN.out q1 i HI.out hz w' (HA.out.below hb))
      rw [folV_bad hz] at e2
      have HW := Go.Lib.hid (show (chkA l ≠ 0 ∧ chkI l i = chkA l) ∨ (chkA l = 0 ∧ fnd (isId i) l < 0 ∧ chkI l i = 8) by
        unfold chkI at hz ⊢
        by_cases h1 : chkA l = 0
        · rw [if_neg (by simp [h1])] at hz ⊢
          cases hp : plc l i with
          | none => rw [hp] at hz; exact .inr ⟨h1, by rw [fnd_none hp]; decide, by simp⟩
          | some k => rw [hp] at hz; simp at hz
        · rw [if_pos h1]; exact .inl ⟨h1, rfl⟩)
      generalize chkI l i = E at *
      generalize chkA l = E' at *
      generalize fnd (isId i) l = F at *
      have cc := e1.out w2 K2.out
      go_wp2_with fail
      (with_reducible refine cc.mono ?_)
      rintro e w3 ⟨rfl, k3⟩
      have K3 := Go.Lib.hid (K2.out.trans (k3.mono s2))
      have s3 := K3.out.size
      clear cc k3
      have cc := e2.out w3 K3.out
      go_wp2_with fail
      (with_reducible refine cc.mono ?_)
      rintro e w4 ⟨rfl, k4⟩
      have K4 := Go.Lib.hid (K3.out.trans (k4.mono s3))
      have s4 := K4.out.size
      clear cc k4
      have cc := e3.out w4 K4.out
      go_wp2_with fail
      (with_reducible refine cc.mono ?_)
      rintro e w5 ⟨rfl, k5⟩
      have K5 := Go.Lib.hid (K4.out.trans (k5.mono s4))
      have s5 := K5.out.size
      clear cc k5
      have cc := e4.out w5 K5.out
      go_wp2_with fail
      (with_reducible refine cc.mono ?_)
      rintro e w6 ⟨rfl, k6⟩
      have K6 := Go.Lib.hid (K5.out.trans (k6.mono s5))
      have s6 := K6.out.size
      clear cc k6
      have eE : (E == E) = true := by simp
      have HZ := Go.Lib.hid hz
      rcases HW.out with ⟨h1, rfl⟩ | ⟨rfl, h2, rfl⟩
      · have g1 : (E == 0) = false := by simpa using h1
        have g2 : (E != 0) = true := by simpa using h1
        clear h1 hz
        go_wp2
        go_ret
        exact ⟨by simp, K6.out⟩
      · go_wp2
        go_ret
        exact ⟨by simp, K6.out⟩
    obtain ⟨hG, k, hp⟩ := chkI_good hz
    obtain ⟨hk, hid⟩ := plc_lt hp
    have HG := Go.Lib.hid hG
    have HP := Go.Lib.hid hp
    have e1 := Go.Lib.hid (fun w' (hb : Below w.heap.size w w') => chain_g l HOK.out (sml_nms HT.out) A n c (l.length + 1) HN.out q1 i HI.out (by have := HL24.out; omega) hz (chkI_bnd hz) w' (HA.out.below hb))
    have e5 := Go.Lib.hid (fun w' (hb : Below w.heap.size w w') => rchain_g l HG.out A n c HN.out i (.inr (by rw [HP.out]; rfl)) w' (HA.out.below hb))
    have hA0 : chkA l = 0 := by
      unfold chkI at hz
      by_cases h1 : chkA l = 0
      · exact h1
      · rw [if_pos h1] at hz; exact absurd hz h1
    rw [hA0] at e3
    rw [fnd_some hp] at e4
    rw [folV_good hz hp hk] at e2
    have hkn : k < n := by rw [← HN.out]; exact hk
    have f0 : (0 : Int) ≤ (k : Int) := by omega
    have f1 : (k : Int) < (n : Int) := by omega
    have hq24 : n ≤ 24 := by rw [← HN.out]; exact HL24.out
    obtain ⟨g, oo, rfl, hg, hcl⟩ := HA.out.pos (by omega)
    obtain ⟨Bp, cc, z0, z1, z2, z3, z4, z5, zr⟩ := hcl k hk
    have HZ1 := Go.Lib.hid z1
    have HZ4 := Go.Lib.hid z4
    clear hcl z0 z1 z2 z3 z4 z5 zr hG hp hid hz hA0
    generalize l[k].kind = kd at HZ1 e2
    generalize l[k].next = nx at HZ4 e2
    clear hk
    obtain ⟨V, hV⟩ : ∃ V : Int × Int, V = if kd = 2 then (0, 3) else if nx = 0 then (i, 0) else (nx, 0) := ⟨_, rfl⟩
    rw [← hV] at e2
    have HV := Go.Lib.hid hV
    clear hV
    obtain ⟨V1, V2⟩ := V
    dsimp only at e2
    have cc := e1.out w2 K2.out
    go_wp2_with fail
    (with_reducible refine cc.mono ?_)
    rintro e w3 ⟨⟨xs, B, N1, cb, hN1, rfl, hc1, hc2, hI1⟩, k3⟩
    have K3 := Go.Lib.hid (K2.out.trans (k3.mono s2))
    have s3 := K3.out.size
    clear cc k3
    have HI1 := Go.Lib.hid hI1
    clear hI1
    have cc := e2.out w3 K3.out
    go_wp2_with fail
    (with_reducible refine cc.mono ?_)
    rintro e w4 ⟨rfl, k4⟩
    have K4 := Go.Lib.hid (K3.out.trans (k4.mono s3))
    have s4 := K4.out.size
    have HI1 := Go.Lib.hid (HI1.out.below k4)
    clear cc k4
    have cc := e3.out w4 K4.out
    go_wp2_with fail
    (with_reducible refine cc.mono ?_)
    rintro e w5 ⟨rfl, k5⟩
    have K5 := Go.Lib.hid (K4.out.trans (k5.mono s4))
    have s5 := K5.out.size
    have HI1 := Go.Lib.hid (HI1.out.below k5)
    clear cc k5
    have cc := e4.out w5 K5.out
    go_wp2_with fail
    (with_reducible refine cc.mono ?_)
    rintro e w6 ⟨rfl, k6⟩
    have K6 := Go.Lib.hid (K5.out.trans (k6.mono s5))
    have s6 := K6.out.size
    have HI1 := Go.Lib.hid (HI1.out.below k6)
    clear cc k6
    have cc := e5.out w6 K6.out
    go_wp2_with fail
    (with_reducible refine cc.mono ?_)
    rintro e w7 ⟨⟨ys, B', N2, cb', hN2, rfl, hd1, hd2, hI2⟩, k7⟩
    have K7 := Go.Lib.hid (K6.out.trans (k7.mono s6))
    have s7 := K7.out.size
    have HI1 := Go.Lib.hid (HI1.out.below k7)
    clear cc k7
    obtain rfl := ch_uniq hc1 hc2 hd1 hd2
    have HI2 := Go.Lib.hid hI2
    have hNN : N1 = N2 := by rw [← hN1, ← hN2]
    subst hNN
    have HXN := Go.Lib.hid hN1
    have hN30 : N1 ≤ 1000 := by have := HG.out.bound hc1; have := HL24.out; omega
    clear hI2 hN1 hN2 hc1 hc2 hd1 hd2 e1 e2 e3 e4 e5
    have e9 : ((N1 : Int) != (N1 : Int)) = false := by simp
    have bb := Below.refl w7.heap.size w7
    go_wp2_with fail
    go_loopw [12] (fun s12 wr => ∃ j : Nat, j ≤ N1 ∧ s12 = .int .i64 (j : Nat) ∧ Below w7.heap.size w7 wr) (fun s12 _ => N1 - (intOf s12).toNat)
    case atStart => exact ⟨0, Nat.zero_le _, rfl, bb⟩
    case round =>
      clear bb
      obtain ⟨j, hj, rfl, hbk⟩ := hrel
      have HBK := Go.Lib.hid hbk
      have t7 := hbk.size
      by_cases hlt : j < N1
      · have hjl : j < (idsL l xs).length := by rw [idsL_len, HXN.out]; exact hlt
        obtain ⟨g1, rfl, hg1, y1⟩ := HI1.out.at hjl
        obtain ⟨g2, rfl, hg2, y2⟩ := HI2.out.at hjl
        have p0 : (0 : Int) ≤ (j : Int) := by omega
        have p1 : (j : Int) < (N1 : Int) := by omega
        replace y1 := (hbk.cell (p := ⟨g1, j, none⟩) hg1).trans y1
        replace y2 := (hbk.cell (p := ⟨g2, j, none⟩) hg2).trans y2
        generalize (idsL l xs)[j] = vv at y1 y2
        have hvv : (vv != vv) = false := by simp
        clear hbk
        go_wp2_with fail
        go_quiet (fail)
        go_wp2
        go_roundw
        case rel => exact ⟨j + 1, by omega, by go_num, by first | exact HBK.out | exact bdrew HBK.out _⟩
        case measure => simp [intOf]; omega
      · obtain rfl : j = N1 := by omega
        have KF := Go.Lib.hid (K7.out.trans (hbk.mono s7))
        have z1 := (KF.out.cell (p := ⟨g, oo + k * 6 + 1, none⟩) hg).trans HZ1.out
        have z4 := (KF.out.cell (p := ⟨g, oo + k * 6 + 4, none⟩) hg).trans HZ4.out
        clear hbk
        by_cases h2 : kd = 2
        · have a2 : (kd == 2) = true := by simpa using h2
          have hV := HV.out
          rw [if_pos h2] at hV
          injection hV with v1 v2
          subst v1 v2
          clear h2
          go_wp2
          go_ret
          exact ⟨by simp, KF.out⟩
        · have a2 : (kd == 2) = false := by simpa using h2
          have hV := HV.out
          rw [if_neg h2] at hV
          clear h2
          by_cases h0 : nx = 0
          · have a0 : (nx == 0) = true := by simpa using h0
            rw [if_pos h0] at hV
            injection hV with v1 v2
            subst v1 v2
            have eI : (V1 == V1) = true := by simp
            clear h0
            go_wp2
            go_ret
            exact ⟨by simp, KF.out⟩
          · have a0 : (nx == 0) = false := by simpa using h0
            rw [if_neg h0] at hV
            injection hV with v1 v2
            subst v1 v2
            have eI : (V1 == V1) = true := by simp
            clear h0
            go_wp2
            go_ret
            exact ⟨by simp, KF.out⟩
end Go.Proofs.Ytbkpokipibgdfaa
