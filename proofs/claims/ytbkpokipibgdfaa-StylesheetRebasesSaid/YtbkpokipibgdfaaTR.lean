/- Layer 8: the law of effective properties (7). -/
import Derived.Test.YtbkpokipibgdfaaTQ
import Derived.Test.YtbkpokipibgdfaaNK
namespace Go.Proofs.Ytbkpokipibgdfaa
open Go.RowKit Go.Lib Go.Maps
set_option linter.unusedVariables false

theorem eff_b (l : List St) (hok : LsOk l) (hnm : NmsOk l) (hps : PrsOk l) (A : Option Addr) (m d : Nat) (hm : l.length = m) (hs : m ≤ 1000) (i : Int) (hi : I64 i) (hz : chkI l i ≠ 0) (w : World) (hA : LsAt w A l) :
    Calls Try.prog 27 #[.slice A m d, .int .i64 i] w fun e w' => e = .returned (.tuple #[.slice none 0 0, .int .i64 (chkI l i)]) ∧ Below w.heap.size w w' := by
  refine (Effective_any l hok hnm hps A m d 0 hm hs i hi (fun h => absurd h hz) w hA).mono ?_
  rintro e w1 ⟨⟨_, rfl⟩ | ⟨h, _⟩, k⟩
  · exact ⟨rfl, k⟩
  · exact absurd h hz
/-- A list of properties that a call hands back without an error. -/
def EfT (l : List St) (i : Int) (w : World) (e : Ending) (w' : World) : Prop :=
  (∃ xs B n cb, ChP l (plc l i) xs ∧ nxt l (plc l i) xs = none ∧ (effP l xs).length = n ∧ e = .returned (.tuple #[.slice B n cb, .int .i64 0]) ∧ w'.ownsRow w.heap.size 55 2 (.slice B n cb) n (rowP (effP l xs))) ∧ Below w.heap.size w w'
theorem eff_g (l : List St) (hok : LsOk l) (hnm : NmsOk l) (hps : PrsOk l) (A : Option Addr) (m d : Nat) (hm : l.length = m) (hs : m ≤ 1000) (i : Int) (hi : I64 i) (hz : chkI l i = 0) (w : World) (hA : LsAt w A l) :
    Calls Try.prog 27 #[.slice A m d, .int .i64 i] w (EfT l i w) := by
  refine (Effective_any l hok hnm hps A m d (l.length + 1) hm hs i hi (fun h => (chkI_good h).1.bnd i) w hA).mono ?_
  rintro e w1 ⟨⟨h, _⟩ | ⟨_, xs, v, h1, h2, rfl, h3⟩, k⟩
  · exact absurd hz h
  · obtain ⟨B, cb, rfl⟩ := own_form h3
    exact ⟨⟨xs, B, _, cb, h1, h2, rfl, rfl, h3⟩, k⟩
theorem chkI_bad {l : List St} {i : Int} (hz : chkI l i ≠ 0) : (chkA l ≠ 0 ∧ chkI l i = chkA l) ∨ (chkA l = 0 ∧ fnd (isId i) l < 0 ∧ chkI l i = 8) := by
  unfold chkI at hz ⊢
  by_cases h1 : chkA l = 0
  · rw [if_neg (by simp [h1])] at hz ⊢
    cases hp : plc l i with
    | none => rw [hp] at hz; exact .inr ⟨h1, by rw [fnd_none hp]; decide, by simp⟩
    | some k => rw [hp] at hz; simp at hz
  · rw [if_pos h1]; exact .inl ⟨h1, rfl⟩
theorem chkI_chkA {l : List St} {i : Int} (hz : chkI l i = 0) : chkA l = 0 := by
  unfold chkI at hz
  by_cases h1 : chkA l = 0
  · exact h1
  · rw [if_pos h1] at hz; exact absurd hz h1
/-- A row of properties of one's own as properties in memory. -/
theorem row_prat {w : World} {base n cb : Nat} {B : Option Addr} {l : List Pr} (h : w.ownsRow base 55 2 (.slice B n cb) n (rowP l)) (hn : l.length = n) : n ≤ cb ∧ cb ≤ maxLen ∧ PrAt w B l := by
  obtain ⟨A, c, he, h1, h2, h3⟩ := PVal.own h hn
  injection he with q1 q2 q3
  subst q1 q3
  exact ⟨by rw [← hn]; exact h1, h2, h3⟩
set_option maxRecDepth 100000 in
set_option maxHeartbeats 16000000 in
theorem law_effective (A : Option Addr) (n c : Nat) (l : List St) (hn : l.length = n) (hc : n ≤ c ∧ c ≤ maxLen) (hin : ∀ x ∈ l, StIn x) (i : Int) (hwi : (Lit.int .i64 i).wf = true) (w : World) (hA : LsAt w A l) :
    Calls Try.prog 7 #[.slice A n c, .int .i64 i] w (TrueW w) := by
  have cK := Go.Lib.hid (fun w' => known_any w')
  have cS := Go.Lib.hid (fun w' (hb : Below w.heap.size w w') => small_any l A n c hn hc w' (hA.below hb))
  have HA := Go.Lib.hid hA
  have HN := Go.Lib.hid hn
  have HOK := Go.Lib.hid (ls_ok hin)
  have HI := Go.Lib.hid (wf_i64 hwi)
  clear hA hn hc hin hwi
  have K0 := Go.Lib.hid (Below.refl w.heap.size w)
  have s0 := K0.out.size
  go_enter Try.func7, Try.ntmps7
  have cc := cK.out w
  go_wp2_with fail
  (with_reducible refine cc.mono ?_)
  rintro e w1 ⟨rfl, k1⟩
  have K1 := Go.Lib.hid (K0.out.trans (k1.mono s0))
  have s1 := K1.out.size
  clear cc k1
  have cc := cS.out w1 K1.out
  go_wp2_with fail
  (with_reducible refine cc.mono ?_)
  rintro e w2 ⟨⟨b, rfl, hb⟩, k2⟩
  have K2 := Go.Lib.hid (K1.out.trans (k2.mono s1))
  have s2 := K2.out.size
  clear cc k2
  cases b with
  | false =>
    clear hb
    have cc := cK.out w2
    go_wp2_with fail
    (with_reducible refine cc.mono ?_)
    rintro e w3 ⟨rfl, k3⟩
    have K3 := Go.Lib.hid (K2.out.trans (k3.mono s2))
    have s3 := K3.out.size
    clear cc k3
    go_wp2
    go_ret
    exact ⟨by simp, K3.out⟩
  | true =>
    have HT := Go.Lib.hid (hb rfl)
    clear hb
    have q1 : n ≤ 1000 := by rw [← HN.out]; exact Nat.le_trans HT.out.1 (by omega)
    have e3 := Go.Lib.hid (fun w' (hb : Below w.heap.size w w') => rcheck_any l HOK.out (sml_nms HT.out) n HN.out q1 A c w' (HA.out.below hb))
    have e4 := Go.Lib.hid (fun w' (hb : Below w.heap.size w w') => rfind_any l n HN.out q1 A c i w' (HA.out.below hb))
    by_cases hz : chkI l i = 0
    case neg =>
      have e1 := Go.Lib.hid (fun w' (hb : Below w.heap.size w w') => eff_b l HOK.out (sml_nms HT.out) (sml_prs HT.out) A n c HN.out q1 i HI.out hz w' (HA.out.below hb))
      have HW := Go.Lib.hid (chkI_bad hz)
      clear hz
      generalize chkI l i = E at *
      generalize chkA l = E' at *
      generalize fnd (isId i) l = F at *
      rcases HW.out with ⟨h1, rfl⟩ | ⟨rfl, h2, rfl⟩
      · have g1 : (E == 0) = false := by simpa using h1
        have g2 : (E != 0) = true := by simpa using h1
        have eE : (E == E) = true := by simp
        clear h1
        have cc := e1.out w2 K2.out
        go_wp2_with fail
        (with_reducible refine cc.mono ?_)
        rintro e w3 ⟨rfl, k3⟩
        have K3 := Go.Lib.hid (K2.out.trans (k3.mono s2))
        have s3 := K3.out.size
        clear cc k3
        have cc := e3.out w3 K3.out
        go_wp2_with fail
        (with_reducible refine cc.mono ?_)
        rintro e w4 ⟨rfl, k4⟩
        have K4 := Go.Lib.hid (K3.out.trans (k4.mono s3))
        have s4 := K4.out.size
        clear cc k4
        go_wp2
        go_ret
        exact ⟨by simp, K4.out⟩
      · have cc := e1.out w2 K2.out
        go_wp2_with fail
        (with_reducible refine cc.mono ?_)
        rintro e w3 ⟨rfl, k3⟩
        have K3 := Go.Lib.hid (K2.out.trans (k3.mono s2))
        have s3 := K3.out.size
        clear cc k3
        have cc := e3.out w3 K3.out
        go_wp2_with fail
        (with_reducible refine cc.mono ?_)
        rintro e w4 ⟨rfl, k4⟩
        have K4 := Go.Lib.hid (K3.out.trans (k4.mono s3))
        have s4 := K4.out.size
        clear cc k4
        have cc := e4.out w4 K4.out
        go_wp2_with fail
        (with_reducible refine cc.mono ?_)
        rintro e w5 ⟨rfl, k5⟩
        have K5 := Go.Lib.hid (K4.out.trans (k5.mono s4))
        have s5 := K5.out.size
        clear cc k5
        go_wp2
        go_ret
        exact ⟨by simp, K5.out⟩
    obtain ⟨hG, k, hp⟩ := chkI_good hz
    have HG := Go.Lib.hid hG
    have HP := Go.Lib.hid hp
    have e1 := Go.Lib.hid (fun w' (hb : Below w.heap.size w w') => eff_g l HOK.out (sml_nms HT.out) (sml_prs HT.out) A n c HN.out q1 i HI.out hz w' (HA.out.below hb))
    have e5 := Go.Lib.hid (fun w' (hb : Below w.heap.size w w') => reff_any l HG.out A n c HN.out i (.inr (by rw [HP.out]; rfl)) w' (HA.out.below hb))
    rw [chkI_chkA hz] at e3
    rw [fnd_some hp] at e4
    clear hG hp hz
    have cc := e1.out w2 K2.out
    go_wp2_with fail
    (with_reducible refine cc.mono ?_)
    rintro e w3 ⟨⟨xs, B, N1, cb, hc1, hc2, hN1, rfl, hI1⟩, k3⟩
    have K3 := Go.Lib.hid (K2.out.trans (k3.mono s2))
    have s3 := K3.out.size
    clear cc k3
    have HI1 := Go.Lib.hid (row_prat hI1 hN1)
    clear hI1
    have cc := e3.out w3 K3.out
    go_wp2_with fail
    (with_reducible refine cc.mono ?_)
    rintro e w4 ⟨rfl, k4⟩
    have K4 := Go.Lib.hid (K3.out.trans (k4.mono s3))
    have s4 := K4.out.size
    have HI1 := Go.Lib.hid (⟨HI1.out.1, HI1.out.2.1, HI1.out.2.2.below k4 (Nat.le_refl _)⟩ : _ ∧ _ ∧ _)
    clear cc k4
    have cc := e4.out w4 K4.out
    go_wp2_with fail
    (with_reducible refine cc.mono ?_)
    rintro e w5 ⟨rfl, k5⟩
    have K5 := Go.Lib.hid (K4.out.trans (k5.mono s4))
    have s5 := K5.out.size
    have HI1 := Go.Lib.hid (⟨HI1.out.1, HI1.out.2.1, HI1.out.2.2.below k5 (Nat.le_refl _)⟩ : _ ∧ _ ∧ _)
    clear cc k5
    have cc := e5.out w5 K5.out
    go_wp2_with fail
    (with_reducible refine cc.mono ?_)
    rintro e w6 ⟨⟨ys, B', N2, cb', hd1, hd2, hN2, rfl, hI2⟩, k6⟩
    have K6 := Go.Lib.hid (K5.out.trans (k6.mono s5))
    have s6 := K6.out.size
    have HI1 := Go.Lib.hid (⟨HI1.out.1, HI1.out.2.1, HI1.out.2.2.below k6 (Nat.le_refl _)⟩ : _ ∧ _ ∧ _)
    clear cc k6
    obtain rfl := ch_uniq hc1 hc2 hd1 hd2
    have HI2 := Go.Lib.hid (row_prat hI2 hN2)
    have hEQ : decide (effP l xs = effP l xs) = true := by simp
    have HN1 := Go.Lib.hid hN1
    have HN2 := Go.Lib.hid hN2
    clear hI2 hN1 hN2 hc1 hc2 hd1 hd2 e1 e3 e4 e5
    have cc := eqprops_any B B' N1 N2 cb cb' (effP l xs) (effP l xs) HN1.out HN2.out ⟨HI1.out.1, HI1.out.2.1⟩ ⟨HI2.out.1, HI2.out.2.1⟩ w6 HI1.out.2.2 HI2.out.2.2
    go_wp2_with fail
    (with_reducible refine cc.mono ?_)
    rintro e w7 ⟨rfl, k7⟩
    have K7 := Go.Lib.hid (K6.out.trans (k7.mono s6))
    have s7 := K7.out.size
    clear cc k7
    go_wp2
    go_ret
    exact ⟨by simp, K7.out⟩
end Go.Proofs.Ytbkpokipibgdfaa
