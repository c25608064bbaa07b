import Derived.Test.YtigbmhddkcgjfaaDoorLq
namespace Go.Proofs.YtigbmhddkcgjfaaDoor
open Go.RowKit Go.Shelf
open Gc

theorem mul41 {a s : Nat} (h : a < 41) (hs : s ≤ 11) : a * s ≤ 440 := Nat.le_trans (Nat.mul_le_mul (Nat.le_of_lt_succ h) hs) (by decide)
theorem q_e (a : Nat) (h : a < 41) : Str (bW ++ rep bE a) ([128105] ++ repL [127997, 8205, 128640] a) [] ∧ (cls (cp ([128105] ++ repL [127997, 8205, 128640] a))).length = 1 ∧ (rep bE a).size ≤ 451 := by
  have h1 := rep_size bE a
  have hp := mul41 h (show bE.size ≤ 11 by decide)
  have h2 : bE.size = 11 := rfl
  have h3 : bW.size = 4 := rfl
  refine ⟨str_app sW (str_rep sE a (by omega)) (by rw [ByteArray.size_append]; omega), ?_, by omega⟩
  rw [cp_app, cp_rep, cp_e, cp_w]
  exact emoji_one a h
theorem q_f (a : Nat) (h : a < 41) : Str (rep bF a) (repL [127465] a) [] ∧ (cls (cp (repL [127465] a))).length = (a + 1) / 2 := by
  have hp := mul41 h (show bF.size ≤ 11 by decide)
  refine ⟨str_rep sF a (by omega), ?_⟩
  rw [cp_rep, cp_f]
  exact flags_half a h
theorem q_h (a b : Nat) (h : a < 41) (hb : b < 40) : Str (rep bL b ++ bS ++ rep bV b ++ rep bT a) (repL [4352] b ++ [44032] ++ repL [4449] b ++ repL [4520] a) [] ∧
    (cls (cp (repL [4352] b ++ [44032] ++ repL [4449] b ++ repL [4520] a))).length = 1 ∧ (rep bL b).size ≤ 451 ∧ (rep bV b).size ≤ 451 ∧ (rep bT a).size ≤ 451 := by
  have h1 := rep_size bL b
  have hp1 := mul41 (show b < 41 by omega) (show bL.size ≤ 11 by decide)
  have hp2 := mul41 (show b < 41 by omega) (show bV.size ≤ 11 by decide)
  have hp3 := mul41 h (show bT.size ≤ 11 by decide)
  have h2 := rep_size bV b
  have h3 := rep_size bT a
  have e1 : bL.size = 3 := rfl
  have e2 : bV.size = 3 := rfl
  have e3 : bT.size = 3 := rfl
  have e4 : bS.size = 3 := rfl
  refine ⟨str_app (str_app (str_app (str_rep sL b (by omega)) sS ?_) (str_rep sV b (by omega)) ?_) (str_rep sT a (by omega)) ?_, ?_, by omega, by omega, by omega⟩
  · simp only [ByteArray.size_append]; omega
  · simp only [ByteArray.size_append]; omega
  · simp only [ByteArray.size_append]; omega
  · rw [cp_app, cp_app, cp_app, cp_rep, cp_rep, cp_rep, cp_l, cp_s, cp_v, cp_t]
    exact hangul_one b hb a h
theorem q_m (b : Nat) (h : b < 41) : Str (bX ++ rep bM b) ([120] ++ repL [769] b) [] ∧ (cls (cp ([120] ++ repL [769] b))).length = 1 ∧ (rep bM b).size ≤ 451 := by
  have h1 := rep_size bM b
  have hp := mul41 h (show bM.size ≤ 11 by decide)
  have h2 : bM.size = 2 := rfl
  have h3 : bX.size = 1 := rfl
  refine ⟨str_app sX (str_rep sM b (by omega)) (by rw [ByteArray.size_append]; omega), ?_, by omega⟩
  rw [cp_app, cp_rep, cp_m, cp_x]
  exact marks_one b h

set_option maxRecDepth 100000 in
set_option maxHeartbeats 4000000 in
theorem law_sequences (x y : Int) (hx : 0 ≤ x ∧ x ≤ 255) (hy : 0 ≤ y ∧ y ≤ 255) (w : World) (hT : Tabs w) : Calls Tryd.prog 10 #[.int .u8 x, .int .u8 y] w (BoolPost true w) := by
  have HT := Go.Lib.hid hT
  clear hT
  obtain ⟨A, hA, hA2⟩ : ∃ A : Nat, x.tmod 40 = A ∧ A < 40 := by
    have h1 := Int.tmod_nonneg 40 hx.1
    have h2 := Int.tmod_lt_of_pos x (b := 40) (by omega)
    exact ⟨(x.tmod 40).toNat, by omega, by omega⟩
  obtain ⟨B, hB, hB2⟩ : ∃ B : Nat, y.tmod 40 = B ∧ B < 40 := by
    have h1 := Int.tmod_nonneg 40 hy.1
    have h2 := Int.tmod_lt_of_pos y (b := 40) (by omega)
    exact ⟨(y.tmod 40).toNat, by omega, by omega⟩
  have hq : ((1 : Int) + A + 1).tdiv 2 = ((A + 2) / 2 : Nat) := by
    rw [Int.tdiv_eq_ediv_of_nonneg (by omega)]; omega
  obtain ⟨e1, e2, e3⟩ := q_e (A + 1) (by omega)
  obtain ⟨f1, f2⟩ := q_f (A + 1) (by omega)
  obtain ⟨g1, g2, g3, g4, g5⟩ := q_h (A + 1) B (by omega) hB2
  obtain ⟨m1, m2, m3⟩ := q_m B (by omega)
  have cE := fun w' => repeat_any bE (by decide) (A + 1) (1 + A) (by omega) (by omega) w'
  have cF := fun w' => repeat_any bF (by decide) (A + 1) (1 + A) (by omega) (by omega) w'
  have cT := fun w' => repeat_any bT (by decide) (A + 1) (1 + A) (by omega) (by omega) w'
  have cL := fun w' => repeat_any bL (by decide) B B rfl (by omega) w'
  have cV := fun w' => repeat_any bV (by decide) B B rfl (by omega) w'
  have cM := fun w' => repeat_any bM (by decide) B B rfl (by omega) w'
  have kE := fun w' hT' => count_any e1 w' hT'
  have kF := fun w' hT' => count_any f1 w' hT'
  have kH := fun w' hT' => count_any g1 w' hT'
  have kM := fun w' hT' => count_any m1 w' hT'
  rw [e2] at kE
  rw [f2] at kF
  rw [g2] at kH
  rw [m2] at kM
  clear e1 e2 f1 f2 g1 g2 m1 m2
  generalize rep bE (A + 1) = sE at cE kE e3
  generalize rep bF (A + 1) = sF at cF kF
  generalize rep bT (A + 1) = sT at cT kH g5
  generalize rep bL B = sL at cL kH g3
  generalize rep bV B = sV at cV kH g4
  generalize rep bM B = sM at cM kM m3
  unfold bE at cE
  unfold bF at cF
  unfold bL at cL
  unfold bV at cV
  unfold bT at cT
  unfold bM at cM
  unfold bW at kE
  unfold bS at kH
  unfold bX at kM
  go_enter Tryd.func10, Tryd.ntmps10
  go_wp2_with (first
    | (go_at_call 30; (with_reducible refine (cE _).mono ?_); rintro e w' ⟨rfl, rfl⟩)
    | (go_at_call 30; (with_reducible refine (cF _).mono ?_); rintro e w' ⟨rfl, rfl⟩)
    | (go_at_call 30; (with_reducible refine (cL _).mono ?_); rintro e w' ⟨rfl, rfl⟩)
    | (go_at_call 30; (with_reducible refine (cV _).mono ?_); rintro e w' ⟨rfl, rfl⟩)
    | (go_at_call 30; (with_reducible refine (cT _).mono ?_); rintro e w' ⟨rfl, rfl⟩)
    | (go_at_call 30; (with_reducible refine (cM _).mono ?_); rintro e w' ⟨rfl, rfl⟩)
    | (go_at_call 21; (with_reducible refine (kE _ HT.out).mono ?_); rintro e w1 ⟨rfl, b1⟩; have B1 := Go.Lib.hid b1; clear b1)
    | (go_at_call 21; (with_reducible refine (kF _ (HT.out.below B1.out)).mono ?_); rintro e w2 ⟨rfl, b2⟩; have B2 := Go.Lib.hid (B1.out.trans (b2.mono B1.out.size)); clear b2)
    | (go_at_call 21; (with_reducible refine (kH _ (HT.out.below B2.out)).mono ?_); rintro e w3 ⟨rfl, b3⟩; have B3 := Go.Lib.hid (B2.out.trans (b3.mono B2.out.size)); clear b3)
    | (go_at_call 21; (with_reducible refine (kM _ (HT.out.below B3.out)).mono ?_); rintro e w4 ⟨rfl, b4⟩; have B4 := Go.Lib.hid (B3.out.trans (b4.mono B3.out.size)); clear b4)
    | (go_at_call 12; (with_reducible refine (known_any _ (HT.out.below B4.out)).mono ?_); rintro e w5 ⟨rfl, b5⟩; have B5 := Go.Lib.hid (B4.out.trans (b5.mono B4.out.size)); clear b5))
  go_ret
  exact ⟨ret_bool (by simp), B5.out⟩
end Go.Proofs.YtigbmhddkcgjfaaDoor
