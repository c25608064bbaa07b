/- Layer 8: the law of another base (11). -/
import Derived.Test.YtbkpokipibgdfaaUO
import Derived.Test.YtbkpokipibgdfaaUG
import Derived.Test.YtbkpokipibgdfaaUQ
namespace Go.Proofs.Ytbkpokipibgdfaa
open Go.RowKit Go.Lib
set_option linter.unusedVariables false

open Classical in
/-- The error of another base. -/
noncomputable def rbE (l : List St) (k : Nat) (base : Int) : Int := if base ≠ 0 ∧ hasB l ((l.getD k default).kind) base = false then 25 else if k ∈ chn l base then 16 else 0
theorem rbE_no {l : List St} {k : Nat} {base : Int} (h1 : base ≠ 0) (h2 : hasB l ((l.getD k default).kind) base = false) : rbE l k base = 25 := by unfold rbE; rw [if_pos ⟨h1, h2⟩]
theorem not_no {l : List St} {k : Nat} {base : Int} (h : base = 0 ∨ hasB l ((l.getD k default).kind) base = true) : ¬ (base ≠ 0 ∧ hasB l ((l.getD k default).kind) base = false) := by
  rintro ⟨h1, h2⟩
  rcases h with h | h
  · exact h1 h
  · rw [h2] at h; cases h
theorem rbE_in {l : List St} {k : Nat} {base : Int} (h : base = 0 ∨ hasB l ((l.getD k default).kind) base = true) (h2 : k ∈ chn l base) : rbE l k base = 16 := by unfold rbE; rw [if_neg (not_no h), if_pos h2]
theorem rbE_ok {l : List St} {k : Nat} {base : Int} (h : base = 0 ∨ hasB l ((l.getD k default).kind) base = true) (h2 : k ∉ chn l base) : rbE l k base = 0 := by unfold rbE; rw [if_neg (not_no h), if_neg h2]
theorem rbE_zero {l : List St} {k : Nat} {base : Int} (h : rbE l k base = 0) : (base = 0 ∨ hasB l ((l.getD k default).kind) base = true) ∧ k ∉ chn l base := by
  unfold rbE at h
  by_cases h1 : base ≠ 0 ∧ hasB l ((l.getD k default).kind) base = false
  · rw [if_pos h1] at h; exact absurd h (by decide)
  · rw [if_neg h1] at h
    by_cases h2 : k ∈ chn l base
    · rw [if_pos h2] at h; exact absurd h (by decide)
    · refine ⟨?_, h2⟩
      by_cases h3 : base = 0
      · exact .inl h3
      · right
        cases h4 : hasB l ((l.getD k default).kind) base with
        | true => rfl
        | false => exact absurd ⟨h3, h4⟩ h1
section
variable (l : List St) (hok : LsOk l) (hnm : NmsOk l) (hps : PrsOk l) (A : Option Addr) (n d : Nat) (hn : l.length = n) (hs : n ≤ 1000) (i base : Int) (hi : I64 i) (hbi : I64 base) (w : World) (hA : LsAt w A l)
include hok hnm hps hn hs hi hbi hA
theorem reb_e {k : Nat} (hz : chkI l i = 0) (hp : plc l i = some k) (h0 : rbE l k base ≠ 0) :
    Calls Try.prog 40 #[.slice A n d, .int .i64 i, .int .i64 base] w fun e w' => e = .returned (.tuple #[.slice none 0 0, .int .i64 (rbE l k base)]) ∧ Below w.heap.size w w' := by
  refine (rebase_any l hok hnm hps A n d hn hs i base hi hbi w hA).mono ?_
  rintro e w' ⟨h | ⟨_, k', hp', h⟩, kk⟩
  · exact absurd hz h.1
  rw [hp] at hp'; cases hp'
  rcases h with ⟨h1, h2, rfl⟩ | ⟨h1, ⟨h2, rfl⟩ | ⟨h2, _⟩⟩
  · rw [rbE_no h1 h2]; exact ⟨rfl, kk⟩
  · rw [rbE_in h1 h2]; exact ⟨rfl, kk⟩
  · exact absurd (rbE_ok h1 h2) h0
theorem reb_g {k : Nat} (hz : chkI l i = 0) (hp : plc l i = some k) (h0 : rbE l k base = 0) :
    Calls Try.prog 40 #[.slice A n d, .int .i64 i, .int .i64 base] w fun e w' => (∃ g cb L, e = .returned (.tuple #[.slice (some ⟨g, 0, none⟩) n cb, .int .i64 0]) ∧ OwnS w' w.heap.size g n cb L ∧ L.map (·.1) = rbL l i k base) ∧ Below w.heap.size w w' := by
  refine (rebase_any l hok hnm hps A n d hn hs i base hi hbi w hA).mono ?_
  rintro e w' ⟨h | ⟨_, k', hp', h⟩, kk⟩
  · exact absurd hz h.1
  rw [hp] at hp'; cases hp'
  rcases h with ⟨h1, h2, rfl⟩ | ⟨h1, ⟨h2, rfl⟩ | ⟨h2, h3⟩⟩
  · rw [rbE_no h1 h2] at h0; exact absurd h0 (by decide)
  · rw [rbE_in h1 h2] at h0; exact absurd h0 (by decide)
  · exact ⟨h3, kk⟩
end
section
variable (l : List St) (hG : Good l) (A : Option Addr) (n d : Nat) (hn : l.length = n) (i base : Int) (w : World) (hA : LsAt w A l)
include hG hn hA
theorem rreb_e {k : Nat} (hp : plc l i = some k) (h0 : rbE l k base ≠ 0) :
    Calls Try.prog 41 #[.slice A n d, .int .i64 i, .int .i64 base] w fun e w' => e = .returned (.tuple #[.slice none 0 0, .int .i64 (rbE l k base)]) ∧ Below w.heap.size w w' := by
  refine (rrebase_any l hG A n d hn i base w hA).mono ?_
  rintro e w' ⟨h | ⟨k', hp', h⟩, kk⟩
  · rw [hp] at h; cases h.1
  rw [hp] at hp'; cases hp'
  rcases h with ⟨h1, h2, rfl⟩ | ⟨h1, ⟨h2, rfl⟩ | ⟨h2, _⟩⟩
  · rw [rbE_no h1 h2]; exact ⟨rfl, kk⟩
  · rw [rbE_in h1 h2]; exact ⟨rfl, kk⟩
  · exact absurd (rbE_ok h1 h2) h0
theorem rreb_g {k : Nat} (hp : plc l i = some k) (h0 : rbE l k base = 0) :
    Calls Try.prog 41 #[.slice A n d, .int .i64 i, .int .i64 base] w fun e w' => (∃ B cb, e = .returned (.tuple #[.slice B n cb, .int .i64 0]) ∧ n ≤ cb ∧ cb ≤ maxLen ∧ LsAt w' B (rbL l i k base)) ∧ Below w.heap.size w w' := by
  refine (rrebase_any l hG A n d hn i base w hA).mono ?_
  rintro e w' ⟨h | ⟨k', hp', h⟩, kk⟩
  · rw [hp] at h; cases h.1
  rw [hp] at hp'; cases hp'
  rcases h with ⟨h1, h2, rfl⟩ | ⟨h1, ⟨h2, rfl⟩ | ⟨h2, h3⟩⟩
  · rw [rbE_no h1 h2] at h0; exact absurd h0 (by decide)
  · rw [rbE_in h1 h2] at h0; exact absurd h0 (by decide)
  · exact ⟨h3, kk⟩
theorem rreb_n (hp : plc l i = none) :
    Calls Try.prog 41 #[.slice A n d, .int .i64 i, .int .i64 base] w fun e w' => e = .returned (.tuple #[.slice none 0 0, .int .i64 8]) ∧ Below w.heap.size w w' := by
  refine (rrebase_any l hG A n d hn i base w hA).mono ?_
  rintro e w' ⟨h | ⟨k', hp', h⟩, kk⟩
  · exact ⟨h.2, kk⟩
  · rw [hp] at hp'; cases hp'
end
theorem gets2 (w : World) : Calls Try.prog 42 #[] w fun e w' => (∃ g, e = .returned (.slice (some ⟨g, 0, none⟩) 45 45) ∧ RRowAt w' g tabP) ∧ Below w.heap.size w w' :=
  (refTable_gets w).mono fun e w' ⟨g, h1, h2, h3⟩ => ⟨⟨g, h1, h2⟩, h3⟩
theorem nil_equal (w : World) : Calls Try.prog 38 #[.slice none 0 0, .slice none 0 0] w fun e w' => e = .returned (.bool true) ∧ Below w.heap.size w w' := by
  have h := requal_any [] [] 0 0 rfl rfl (by omega) (by omega) none none 0 0 w (.inl rfl) (.inl rfl)
  rw [eqL_iff.2 rfl] at h
  exact h
set_option maxRecDepth 100000 in
set_option maxHeartbeats 16000000 in
theorem law_rebases (A : Option Addr) (n c : Nat) (l : List St) (hn : l.length = n) (hc : n ≤ c ∧ c ≤ maxLen) (hin : ∀ x ∈ l, StIn x) (i base : Int) (hwi : (Lit.int .i64 i).wf = true) (hwb : (Lit.int .i64 base).wf = true) (w : World) (hA : LsAt w A l) :
    Calls Try.prog 11 #[.slice A n c, .agg #[.int .i64 i, .int .i64 base]] w (TrueW w) := by
  have cK := Go.Lib.hid (fun w' => known_any w')
  have cS := Go.Lib.hid (fun w' (hb : Below w.heap.size w w') => small_any l A n c hn hc w' (hA.below hb))
  have HA := Go.Lib.hid hA
  have HN := Go.Lib.hid hn
  have HOK := Go.Lib.hid (ls_ok hin)
  have HI := Go.Lib.hid (wf_i64 hwi)
  have HBI := Go.Lib.hid (wf_i64 hwb)
  clear hA hn hc hin hwi hwb
  have K1 := Go.Lib.hid ((Below.refl w.heap.size w).alloc (Nat.le_refl _) (.cells #[.int .i64 i, .int .i64 base] 66))
  have HOX := Go.Lib.hid (ObjAt.new w #[.int .i64 i, .int .i64 base] 66)
  have s1 := K1.out.size
  go_enter Try.func11, Try.ntmps11
  go_upto_region 1 with fail
  generalize w.alloc (.cells #[.int .i64 i, .int .i64 base] 66) = w1 at K1 HOX s1 ⊢
  have cc := cK.out w1
  go_wp2_with fail
  (with_reducible refine cc.mono ?_)
  rintro e w2 ⟨rfl, k2⟩
  have K2 := Go.Lib.hid (K1.out.trans (k2.mono s1))
  have s2 := K2.out.size
  have HOX := Go.Lib.hid (HOX.out.below k2)
  clear cc k2
  have cc := cS.out w2 K2.out
  go_wp2_with fail
  (with_reducible refine cc.mono ?_)
  rintro e w3 ⟨⟨b, rfl, hb⟩, k3⟩
  have K3 := Go.Lib.hid (K2.out.trans (k3.mono s2))
  have s3 := K3.out.size
  have HOX := Go.Lib.hid (HOX.out.below k3)
  clear cc k3
  cases b with
  | false =>
    clear hb
    have cc := cK.out w3
    go_wp2_with fail
    (with_reducible refine cc.mono ?_)
    rintro e w4 ⟨rfl, k4⟩
    have K4 := Go.Lib.hid (K3.out.trans (k4.mono s3))
    have s4 := K4.out.size
    clear cc k4
    go_wp2
    go_ret
    exact ⟨by simp, K4.out⟩
  | true =>
    have HT := Go.Lib.hid (hb rfl)
    clear hb
    have q1 : n ≤ 1000 := by rw [← HN.out]; exact Nat.le_trans HT.out.1 (by omega)
    have e3 := Go.Lib.hid (fun w' (hb : Below w.heap.size w w') => rcheck_any l HOK.out (sml_nms HT.out) n HN.out q1 A c w' (HA.out.below hb))
    by_cases hz : chkI l i = 0
    case neg =>
      have e1 := Go.Lib.hid (fun w' (hb : Below w.heap.size w w') => rebase_bad l HOK.out (sml_nms HT.out) A n c HN.out q1 i base HI.out hz w' (HA.out.below hb))
      by_cases hA0 : chkA l = 0
      case neg =>
        have hE : chkI l i = chkA l := by unfold chkI; rw [if_pos hA0]
        rw [hE] at e1
        have g1 : (chkA l != 0) = true := by simpa using hA0
        have g0 : (chkA l == chkA l) = true := by simp
        clear hE hz hA0
        generalize chkA l = E at e1 e3 g1 g0
        have x0 := HOX.out.a0
        have x1 := HOX.out.a1
        have cc := e1.out w3 K3.out
        go_wp2_with fail
        (with_reducible refine cc.mono ?_)
        rintro e w4 ⟨rfl, k4⟩
        have K4 := Go.Lib.hid (K3.out.trans (k4.mono s3))
        have s4 := K4.out.size
        clear cc k4
        have cc := e3.out w4 K4.out
        go_wp2_with fail
        (with_reducible refine cc.mono ?_)
        rintro e w5 ⟨rfl, k5⟩
        have K5 := Go.Lib.hid (K4.out.trans (k5.mono s4))
        have s5 := K5.out.size
        clear cc k5
        go_wp2
        go_ret
        exact ⟨by simp, K5.out⟩
      have hp : plc l i = none := by
        cases h : plc l i with
        | none => rfl
        | some k => exact absurd (by unfold chkI; rw [if_neg (by simp [hA0]), if_neg (by rw [h]; simp)]) hz
      have hE : chkI l i = 8 := by unfold chkI; rw [if_neg (by simp [hA0]), if_pos hp]
      rw [hE] at e1
      rw [hA0] at e3
      have hG := good_of hA0
      have e5 := Go.Lib.hid (fun w' (hb : Below w.heap.size w w') => rreb_n l hG A n c HN.out i base w' (HA.out.below hb) hp)
      clear hE hz
      have x0 := HOX.out.a0
      have x1 := HOX.out.a1
      have cc := e1.out w3 K3.out
      go_wp2_with fail
      (with_reducible refine cc.mono ?_)
      rintro e w4 ⟨rfl, k4⟩
      have K4 := Go.Lib.hid (K3.out.trans (k4.mono s3))
      have s4 := K4.out.size
      have HOX := Go.Lib.hid (HOX.out.below k4)
      clear cc k4
      have cc := e3.out w4 K4.out
      go_wp2_with fail
      (with_reducible refine cc.mono ?_)
      rintro e w5 ⟨rfl, k5⟩
      have K5 := Go.Lib.hid (K4.out.trans (k5.mono s4))
      have s5 := K5.out.size
      have HOX := Go.Lib.hid (HOX.out.below k5)
      clear cc k5
      clear x0 x1
      have x0 := HOX.out.a0
      have x1 := HOX.out.a1
      have cc := e5.out w5 K5.out
      go_wp2_with fail
      (with_reducible refine cc.mono ?_)
      rintro e w6 ⟨rfl, k6⟩
      have K6 := Go.Lib.hid (K5.out.trans (k6.mono s5))
      have s6 := K6.out.size
      clear cc k6
      have cc := nil_equal w6
      go_wp2_with fail
      (with_reducible refine cc.mono ?_)
      rintro e w7 ⟨rfl, k7⟩
      have K7 := Go.Lib.hid (K6.out.trans (k7.mono s6))
      have s7 := K7.out.size
      clear cc k7
      go_wp2
      go_ret
      exact ⟨by simp, K7.out⟩
    obtain ⟨hG, k, hp⟩ := chkI_good hz
    obtain ⟨hk, hkid⟩ := plc_lt hp
    clear hkid
    have HG := Go.Lib.hid hG
    have HP := Go.Lib.hid hp
    have HKL := Go.Lib.hid hk
    rw [chkI_chkA hz] at e3
    by_cases hE : rbE l k base = 0
    case neg =>
      have e1 := Go.Lib.hid (fun w' (hb : Below w.heap.size w w') => reb_e l HOK.out (sml_nms HT.out) (sml_prs HT.out) A n c HN.out q1 i base HI.out HBI.out w' (HA.out.below hb) hz hp hE)
      have e5 := Go.Lib.hid (fun w' (hb : Below w.heap.size w w') => rreb_e l HG.out A n c HN.out i base w' (HA.out.below hb) hp hE)
      have g1 : (rbE l k base != 0) = true := by simpa using hE
      have g2 : (rbE l k base != rbE l k base) = false := by simp
      clear hG hp hz hk hE
      generalize rbE l k base = E at e1 e5 g1 g2
      have x0 := HOX.out.a0
      have x1 := HOX.out.a1
      have cc := e1.out w3 K3.out
      go_wp2_with fail
      (with_reducible refine cc.mono ?_)
      rintro e w4 ⟨rfl, k4⟩
      have K4 := Go.Lib.hid (K3.out.trans (k4.mono s3))
      have s4 := K4.out.size
      have HOX := Go.Lib.hid (HOX.out.below k4)
      clear cc k4
      have cc := e3.out w4 K4.out
      go_wp2_with fail
      (with_reducible refine cc.mono ?_)
      rintro e w5 ⟨rfl, k5⟩
      have K5 := Go.Lib.hid (K4.out.trans (k5.mono s4))
      have s5 := K5.out.size
      have HOX := Go.Lib.hid (HOX.out.below k5)
      clear cc k5
      clear x0 x1
      have x0 := HOX.out.a0
      have x1 := HOX.out.a1
      have cc := e5.out w5 K5.out
      go_wp2_with fail
      (with_reducible refine cc.mono ?_)
      rintro e w6 ⟨rfl, k6⟩
      have K6 := Go.Lib.hid (K5.out.trans (k6.mono s5))
      have s6 := K6.out.size
      clear cc k6
      have cc := nil_equal w6
      go_wp2_with fail
      (with_reducible refine cc.mono ?_)
      rintro e w7 ⟨rfl, k7⟩
      have K7 := Go.Lib.hid (K6.out.trans (k7.mono s6))
      have s7 := K7.out.size
      clear cc k7
      go_wp2
      go_ret
      exact ⟨by simp, K7.out⟩
    obtain ⟨hok0, hfree⟩ := rbE_zero hE
    have HRB := Go.Lib.hid (show Rb l i k base from ⟨hG, hk, hp, hok0, hfree⟩)
    have HMG := Go.Lib.hid HRB.out.res
    have HML := Go.Lib.hid (show (rbL l i k base).length = n by rw [rb_len]; exact HN.out)
    have HMOK := Go.Lib.hid (show LsOk (rbL l i k base) from fun x hx => by
      obtain ⟨q, hq, rfl⟩ := List.mem_iff_getElem.1 hx
      have hql : q < l.length := by rw [← rb_len (i := i) (k := k) (base := base)]; exact hq
      obtain ⟨a1, a2, a3, a4⟩ := HOK.out _ (List.getElem_mem hql)
      rw [rb_get HKL.out hq hql]
      split
      · exact ⟨a1, a2, HBI.out, a4⟩
      · exact ⟨a1, a2, a3, a4⟩)
    have HMNM := Go.Lib.hid (show NmsOk (rbL l i k base) from fun x hx => by
      obtain ⟨q, hq, rfl⟩ := List.mem_iff_getElem.1 hx
      have hql : q < l.length := by rw [← rb_len (i := i) (k := k) (base := base)]; exact hq
      have h := sml_nms HT.out l[q] (List.getElem_mem hql)
      rw [rb_get HKL.out hq hql]
      split <;> exact h)
    have HID := Go.Lib.hid (fun q (hq : q < (rbL l i k base).length) => show (∃ p, plc l (rbL l i k base)[q].id = some p) ∧ plc (rbL l i k base) (rbL l i k base)[q].id = some q from by
      have h := HMG.out.uni q hq
      refine ⟨⟨q, ?_⟩, h⟩
      rw [rb_plc HKL.out] at h
      exact h)
    have e1 := Go.Lib.hid (fun w' (hb : Below w.heap.size w w') => reb_g l HOK.out (sml_nms HT.out) (sml_prs HT.out) A n c HN.out q1 i base HI.out HBI.out w' (HA.out.below hb) hz hp hE)
    have e5 := Go.Lib.hid (fun w' (hb : Below w.heap.size w w') => rreb_g l HG.out A n c HN.out i base w' (HA.out.below hb) hp hE)
    have hrz : chkA (rbL l i k base) = 0 := chkA_good HMG.out
    clear hG hp hz hk hE hok0 hfree
    have x0 := HOX.out.a0
    have x1 := HOX.out.a1
    have cc := e1.out w3 K3.out
    go_wp2_with fail
    (with_reducible refine cc.mono ?_)
    rintro e w4 ⟨⟨g, cb, L, rfl, hOS, hLM⟩, k4⟩
    have K4 := Go.Lib.hid (K3.out.trans (k4.mono s3))
    have s4 := K4.out.size
    have HOX := Go.Lib.hid (HOX.out.below k4)
    clear cc k4
    have HLS := Go.Lib.hid (show LsAt w4 (some ⟨g, 0, none⟩) (rbL l i k base) by have h := hOS.ls; rw [hLM] at h; exact h)
    clear hOS hLM
    have cc := e3.out w4 K4.out
    go_wp2_with fail
    (with_reducible refine cc.mono ?_)
    rintro e w5 ⟨rfl, k5⟩
    have K5 := Go.Lib.hid (K4.out.trans (k5.mono s4))
    have s5 := K5.out.size
    have HLS := Go.Lib.hid (HLS.out.below k5)
    have HOX := Go.Lib.hid (HOX.out.below k5)
    clear cc k5
    clear x0 x1
    have x0 := HOX.out.a0
    have x1 := HOX.out.a1
    have cc := e5.out w5 K5.out
    go_wp2_with fail
    (with_reducible refine cc.mono ?_)
    rintro e w6 ⟨⟨B2, cb2, rfl, hb21, hb22, hL2⟩, k6⟩
    have K6 := Go.Lib.hid (K5.out.trans (k6.mono s5))
    have s6 := K6.out.size
    have HLS := Go.Lib.hid (HLS.out.below k6)
    clear cc k6
    have HL2 := Go.Lib.hid hL2
    clear hL2
    have cq := requal_any (rbL l i k base) (rbL l i k base) n n HML.out HML.out q1 q1 (some ⟨g, 0, none⟩) B2 cb cb2 w6 HLS.out HL2.out
    rw [eqL_iff.2 rfl] at cq
    have cc := cq
    go_wp2_with fail
    (with_reducible refine cc.mono ?_)
    rintro e w7 ⟨rfl, k7⟩
    have K7 := Go.Lib.hid (K6.out.trans (k7.mono s6))
    have s7 := K7.out.size
    have HLS := Go.Lib.hid (HLS.out.below k7)
    clear cc k7
    clear cq
    have cc := gets2 w7
    go_wp2_with fail
    (with_reducible refine cc.mono ?_)
    rintro e w8 ⟨⟨gt, rfl, hRT⟩, k8⟩
    have K8 := Go.Lib.hid (K7.out.trans (k8.mono s7))
    have s8 := K8.out.size
    have HLS := Go.Lib.hid (HLS.out.below k8)
    clear cc k8
    have HRT := Go.Lib.hid hRT
    clear hRT
    have cZ := Go.Lib.hid (fun w' (hb : Below w8.heap.size w8 w') => by
      have h := Check_any (rbL l i k base) HMOK.out HMNM.out (some ⟨g, 0, none⟩) n cb HML.out q1 w' (HLS.out.below hb)
      rw [hrz] at h
      exact h)
    have bb := Below.refl w8.heap.size w8
    go_wp2_with fail
    go_loopw [11, 12, 13, 14, 15, 16, 17, 18, 19, 20] (fun s11 _ _ _ _ _ _ _ _ _ wr => ∃ j : Nat, j ≤ n ∧ s11 = .int .i64 (j : Nat) ∧ Hid (Below w8.heap.size w8 wr)) (fun s11 _ _ _ _ _ _ _ _ _ _ => n - (RowKit.intOf s11).toNat)
    case atStart => exact ⟨0, Nat.zero_le _, rfl, Go.Lib.hid bb⟩
    case round =>
      clear bb
      obtain ⟨j, hj, rfl, HBK⟩ := hrel
      have t0 := HBK.out.size
      have KB := Go.Lib.hid (K8.out.trans (HBK.out.mono s8))
      have sB := KB.out.size
      by_cases hlt : j < n
      · have hjl : j < (rbL l i k base).length := by rw [HML.out]; exact hlt
        obtain ⟨hgl, z0'⟩ := HLS.out.id hjl
        have z0 := (HBK.out.cell (p := ⟨g, j * 6, none⟩) hgl).trans z0'
        obtain ⟨⟨p, hpl⟩, hpm⟩ := HID.out j hjl
        have hib : I64 (rbL l i k base)[j].id := (HMOK.out _ (List.getElem_mem hjl)).1
        have cE1 := effg_any l HOK.out (sml_nms HT.out) (sml_prs HT.out) A n c HN.out q1 (rbL l i k base)[j].id hib (chkI_zero HG.out hpl) wr (HA.out.below KB.out)
        have cE2 := Go.Lib.hid (fun w' (hb : Below w8.heap.size w8 w') => effg_any (rbL l i k base) HMOK.out HMNM.out HMG.out.prs (some ⟨g, 0, none⟩) n cb HML.out q1 (rbL l i k base)[j].id hib (chkI_zero HMG.out hpm) w' (HLS.out.below hb))
        have HSV := Go.Lib.hid (fun p (hT : p ∈ tabP.map (·.1)) => HRB.out.eff_all hT _ (rbL l i k base)[j].id (Nat.le_refl _))
        have p0 : (0 : Int) ≤ (j : Int) := by omega
        have p1 : (j : Int) < (n : Int) := by omega
        have HZ0 := Go.Lib.hid z0'
        clear hpl hpm hib z0'
        generalize (rbL l i k base)[j].id = b at z0 cE1 cE2 HZ0 HSV
        generalize effI l b = ef1 at cE1 HSV
        generalize effI (rbL l i k base) b = ef2 at cE2 HSV
        clear hjl
        go_wp2_with fail
        (with_reducible refine cE1.mono ?_)
        rintro e u1 ⟨⟨D1, n1, c1, hl1, rfl, hr1⟩, g1⟩
        have B1 := Go.Lib.hid (HBK.out.trans (g1.mono t0))
        have r1 := B1.out.size
        have HR1 := Go.Lib.hid (row_prat hr1 hl1)
        have HL1 := Go.Lib.hid hl1
        have z1 := (B1.out.cell (p := ⟨g, j * 6, none⟩) hgl).trans HZ0.out
        have ce := cE2.out u1 B1.out
        clear cE1 g1 hr1 hl1 z0
        go_wp2_with fail
        (with_reducible refine ce.mono ?_)
        rintro e u2 ⟨⟨D2, n2, c2, hl2, rfl, hr2⟩, g2⟩
        have B2' := Go.Lib.hid (B1.out.trans (g2.mono r1))
        have r2 := B2'.out.size
        have HR2 := Go.Lib.hid (row_prat hr2 hl2)
        have HL2' := Go.Lib.hid hl2
        have HP1 := Go.Lib.hid (HR1.out.2.2.below g2 (Nat.le_refl _))
        have CA := Go.Lib.hid (fun p w' (hb : Below u2.heap.size u2 w') => rget_any D1 n1 c1 ef1 HL1.out ⟨HR1.out.1, HR1.out.2.1⟩ p w' (HP1.out.below hb (Nat.le_refl _)))
        have CC := Go.Lib.hid (fun p w' (hb : Below u2.heap.size u2 w') => rget_any D2 n2 c2 ef2 HL2'.out ⟨HR2.out.1, HR2.out.2.1⟩ p w' (HR2.out.2.2.below hb (Nat.le_refl _)))
        have bb := Below.refl u2.heap.size u2
        clear ce g2 hr2 hl2 z1
        go_wp2_with fail
        go_loopw [16, 17, 18, 19, 20] (fun s16 _ _ _ _ ur => ∃ r : Nat, r ≤ 45 ∧ s16 = .int .i64 (r : Nat) ∧ Hid (Below u2.heap.size u2 ur)) (fun s16 _ _ _ _ _ => 45 - (RowKit.intOf s16).toNat)
        case atStart => exact ⟨0, Nat.zero_le _, rfl, Go.Lib.hid bb⟩
        case round =>
          clear bb
          obtain ⟨r, hr, rfl, HU⟩ := hrel
          by_cases hlr : r < 45
          · have hkt : r < tabP.length := hlr
            have hB3 := B2'.out.trans (HU.out.mono r2)
            have c0 := (HRT.out.2 r hkt).1
            have c4 := (HRT.out.2 r hkt).2.2.2.2.1
            have y0 := (hB3.cell (p := ⟨gt, r * 6, none⟩) HRT.out.1).trans c0
            have y4 := (hB3.cell (p := ⟨gt, r * 6 + 4, none⟩) HRT.out.1).trans c4
            have hsv := HSV.out _ (List.mem_map.2 ⟨_, List.getElem_mem hkt, rfl⟩)
            unfold SameV at hsv
            rw [rowZ_row (List.getElem_mem hkt)] at hsv
            have m0 : (0 : Int) ≤ (r : Int) := by omega
            have m1 : (r : Int) < 45 := by omega
            clear c0 c4 hB3
            generalize (tabP[r]'hkt).1 = rk at y0 hsv
            generalize (tabP[r]'hkt).2.2.2.2.2 = df at y4 hsv
            clear hkt
            have cA := CA.out rk wr HU.out
            have cC := CC.out rk wr HU.out
            rw [look_getB, look_getV] at cA cC
            cases ha : look ef1 rk with
            | some v =>
              cases hb : look ef2 rk with
              | none => rw [ha, hb] at hsv; exact absurd (hsv.2 rfl) (by simp)
              | some u =>
                rw [ha, hb] at hsv
                have e9 : v = u := hsv.1
                subst e9
                rw [ha] at cA
                rw [hb] at cC
                dsimp only [Option.getD_some, Option.isSome_some] at cA cC
                clear ha hb hsv
                have nv : (v != v) = false := by simp
                go_wp2_with fail
                (with_reducible refine cA.mono ?_)
                rintro e uq ⟨rfl, rfl⟩
                go_wp2_with fail
                (with_reducible refine cC.mono ?_)
                rintro e uq ⟨rfl, rfl⟩
                clear cA cC
                go_wp2_with fail
                go_roundw
                case rel => exact ⟨r + 1, by omega, by go_num, HU⟩
                case measure => simp [RowKit.intOf]; omega
            | none =>
              cases hb : look ef2 rk with
              | some u =>
                rw [ha, hb] at hsv
                have e9 : df = u := hsv.1
                subst e9
                rw [ha] at cA
                rw [hb] at cC
                dsimp only [Option.getD_some, Option.isSome_some, Option.getD_none, Option.isSome_none] at cA cC
                clear ha hb hsv
                have nv : (df != df) = false := by simp
                go_wp2_with fail
                (with_reducible refine cA.mono ?_)
                rintro e uq ⟨rfl, rfl⟩
                go_wp2_with fail
                (with_reducible refine cC.mono ?_)
                rintro e uq ⟨rfl, rfl⟩
                clear cA cC
                go_wp2_with fail
                go_roundw
                case rel => exact ⟨r + 1, by omega, by go_num, HU⟩
                case measure => simp [RowKit.intOf]; omega
              | none =>
                rw [ha] at cA
                rw [hb] at cC
                dsimp only [Option.getD_none, Option.isSome_none] at cA cC
                clear ha hb hsv
                have nv : (df != df) = false := by simp
                go_wp2_with fail
                (with_reducible refine cA.mono ?_)
                rintro e uq ⟨rfl, rfl⟩
                go_wp2_with fail
                (with_reducible refine cC.mono ?_)
                rintro e uq ⟨rfl, rfl⟩
                clear cA cC
                go_wp2_with fail
                go_roundw
                case rel => exact ⟨r + 1, by omega, by go_num, HU⟩
                case measure => simp [RowKit.intOf]; omega
          · obtain rfl : r = 45 := by omega
            have B3 := Go.Lib.hid (B2'.out.trans (HU.out.mono r2))
            clear hlr
            go_wp2_with fail
            go_roundw
            case rel => exact ⟨j + 1, by omega, by go_num, B3⟩
            case measure => simp [RowKit.intOf]; omega
      · obtain rfl : j = n := by omega
        have cz := cZ.out wr HBK.out
        clear hlt
        go_wp2_with fail
        (with_reducible refine cz.mono ?_)
        rintro e u9 ⟨rfl, g9⟩
        have K9 := Go.Lib.hid (KB.out.trans (g9.mono sB))
        clear cz g9
        go_wp2
        go_ret
        exact ⟨by simp, K9.out⟩
end Go.Proofs.Ytbkpokipibgdfaa
