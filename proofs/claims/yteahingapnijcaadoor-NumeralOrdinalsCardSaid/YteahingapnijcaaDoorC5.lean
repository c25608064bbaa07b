/- Layer 9: the reference's Range, Suffix, Format; its letter. -/
import Derived.Test.YteahingapnijcaaDoorC2
namespace Go.Proofs.YteahingapnijcaaDoor
open Go.RowKit Go.Lib Go.Shelf Nu9

def rrngV (f : Int) : Value := .tuple #[.int .i64 (least f), .int .i64 (most f), .bool (decide (Nu9.kindOk f))]
def RRngR (f : Int) (w : World) (e : Ending) (w' : World) : Prop := e = .returned (rrngV f) ∧ w = w'
set_option maxRecDepth 100000 in
theorem rrange_1 (w : World) : Calls Tryd.prog 13 #[.int .i64 1] w (RRngR 1 w) := by
  go_enter Tryd.func13, Tryd.ntmps13
  go_wp2
  go_ret3
  exact ⟨rfl, rfl⟩
set_option maxRecDepth 100000 in
theorem rrange_2 (w : World) : Calls Tryd.prog 13 #[.int .i64 2] w (RRngR 2 w) := by
  go_enter Tryd.func13, Tryd.ntmps13
  go_wp2
  go_ret3
  exact ⟨rfl, rfl⟩
set_option maxRecDepth 100000 in
theorem rrange_3 (w : World) : Calls Tryd.prog 13 #[.int .i64 3] w (RRngR 3 w) := by
  go_enter Tryd.func13, Tryd.ntmps13
  go_wp2
  go_ret3
  exact ⟨rfl, rfl⟩
set_option maxRecDepth 100000 in
theorem rrange_4 (w : World) : Calls Tryd.prog 13 #[.int .i64 4] w (RRngR 4 w) := by
  go_enter Tryd.func13, Tryd.ntmps13
  go_wp2
  go_ret3
  exact ⟨rfl, rfl⟩
set_option maxRecDepth 100000 in
theorem rrange_5 (w : World) : Calls Tryd.prog 13 #[.int .i64 5] w (RRngR 5 w) := by
  go_enter Tryd.func13, Tryd.ntmps13
  go_wp2
  go_ret3
  exact ⟨rfl, rfl⟩
set_option maxRecDepth 100000 in
theorem rrange_6 (w : World) : Calls Tryd.prog 13 #[.int .i64 6] w (RRngR 6 w) := by
  go_enter Tryd.func13, Tryd.ntmps13
  go_wp2
  go_ret3
  exact ⟨rfl, rfl⟩
set_option maxRecDepth 100000 in
theorem rrange_7 (w : World) : Calls Tryd.prog 13 #[.int .i64 7] w (RRngR 7 w) := by
  go_enter Tryd.func13, Tryd.ntmps13
  go_wp2
  go_ret3
  exact ⟨rfl, rfl⟩
theorem rrng_no {f : Int} (h : ¬ Nu9.kindOk f) : rrngV f = .tuple #[.int .i64 0, .int .i64 0, .bool false] := by
  unfold rrngV least most
  have : ¬ (1 ≤ f ∧ f ≤ 7) := h
  rw [if_neg (by omega), if_neg (by omega), if_neg (by omega), decide_eq_false h]
set_option maxRecDepth 100000 in
theorem rrange_no (f : Int) (h : ¬ Nu9.kindOk f) (w : World) : Calls Tryd.prog 13 #[.int .i64 f] w (RRngR f w) := by
  have h' : ¬ (1 ≤ f ∧ f ≤ 7) := h
  have HR := Lib.hid (rrng_no h)
  have b1 : (f == 1) = false := neB (by omega)
  have b2 : (f == 2) = false := neB (by omega)
  have b3 : (f == 3) = false := neB (by omega)
  have b4 : (f == 4) = false := neB (by omega)
  have b5 : (f == 5) = false := neB (by omega)
  have b6 : (f == 6) = false := neB (by omega)
  have b7 : (f == 7) = false := neB (by omega)
  clear h h'
  go_enter Tryd.func13, Tryd.ntmps13
  go_wp2
  go_ret3
  unfold RRngR
  rw [HR.out]
  exact ⟨rfl, rfl⟩
theorem rrange_any (f : Int) (w : World) : Calls Tryd.prog 13 #[.int .i64 f] w (RRngR f w) := by
  by_cases h : Nu9.kindOk f
  · rcases kind_cases h with rfl | rfl | rfl | rfl | rfl | rfl | rfl
    · exact rrange_1 w
    · exact rrange_2 w
    · exact rrange_3 w
    · exact rrange_4 w
    · exact rrange_5 w
    · exact rrange_6 w
    · exact rrange_7 w
  · exact rrange_no f h w
theorem sfx_th {N : Nat} (q1 : ¬ N % 10 = 1) (q2 : ¬ N % 10 = 2) (q3 : ¬ N % 10 = 3) : sfx N = [116, 104] := by
  unfold sfx
  by_cases hh : N / 10 % 10 = 1
  · rw [if_pos hh]
  · rw [if_neg hh, if_neg q1, if_neg q2, if_neg q3]
set_option maxRecDepth 100000 in
set_option maxHeartbeats 4000000 in
theorem suffix_any (N : Nat) (hN : N ≤ 999999) (w : World) : Calls Tryd.prog 29 #[.int .i64 (N : Int)] w fun e w' => e = .returned (.string (bs (sfx N))) ∧ w = w' := by
  by_cases h0 : 11 ≤ N % 100
  · by_cases h1 : N % 100 ≤ 13
    · have HQ := Lib.hid (show sfx N = [116, 104] by unfold sfx; rw [if_pos (by omega)])
      have k0 : 11 ≤ (N : Int) % 100 := by omega
      have k1 : (N : Int) % 100 ≤ 13 := by omega
      clear h0 h1
      go_enter Tryd.func29, Tryd.ntmps29
      go_wp2
      go_ret
      rw [HQ.out]
      exact ⟨rfl, rfl⟩
    · have k0 : 11 ≤ (N : Int) % 100 := by omega
      have k1 : 13 < (N : Int) % 100 := by omega
      by_cases q1 : N % 10 = 1
      · have HQ := Lib.hid (show sfx N = [115, 116] by unfold sfx; rw [if_neg (by omega), if_pos (by omega)])
        have p1 : ((N : Int) % 10 == 1) = true := by rw [beq_iff_eq]; omega
        clear q1 h0 h1
        go_enter Tryd.func29, Tryd.ntmps29
        go_wp2
        go_ret
        rw [HQ.out]
        exact ⟨rfl, rfl⟩
      by_cases q2 : N % 10 = 2
      · have HQ := Lib.hid (show sfx N = [110, 100] by unfold sfx; rw [if_neg (by omega), if_neg (by omega), if_pos (by omega)])
        have p2 : ((N : Int) % 10 == 2) = true := by rw [beq_iff_eq]; omega
        have p1 : ((N : Int) % 10 == 1) = false := neB (by omega)
        clear q1 q2 h0 h1
        go_enter Tryd.func29, Tryd.ntmps29
        go_wp2
        go_ret
        rw [HQ.out]
        exact ⟨rfl, rfl⟩
      by_cases q3 : N % 10 = 3
      · have HQ := Lib.hid (show sfx N = [114, 100] by unfold sfx; rw [if_neg (by omega), if_neg (by omega), if_neg (by omega), if_pos (by omega)])
        have p3 : ((N : Int) % 10 == 3) = true := by rw [beq_iff_eq]; omega
        have p1 : ((N : Int) % 10 == 1) = false := neB (by omega)
        have p2 : ((N : Int) % 10 == 2) = false := neB (by omega)
        clear q1 q2 q3 h0 h1
        go_enter Tryd.func29, Tryd.ntmps29
        go_wp2
        go_ret
        rw [HQ.out]
        exact ⟨rfl, rfl⟩
      have HQ := Lib.hid (show sfx N = [116, 104] from sfx_th q1 q2 q3)
      have p1 : ((N : Int) % 10 == 1) = false := neB (by omega)
      have p2 : ((N : Int) % 10 == 2) = false := neB (by omega)
      have p3 : ((N : Int) % 10 == 3) = false := neB (by omega)
      clear q1 q2 q3 h0 h1
      go_enter Tryd.func29, Tryd.ntmps29
      go_wp2
      go_ret
      rw [HQ.out]
      exact ⟨rfl, rfl⟩
  · have k0 : (N : Int) % 100 < 11 := by omega
    by_cases q1 : N % 10 = 1
    · have HQ := Lib.hid (show sfx N = [115, 116] by unfold sfx; rw [if_neg (by omega), if_pos (by omega)])
      have p1 : ((N : Int) % 10 == 1) = true := by rw [beq_iff_eq]; omega
      clear q1 h0
      go_enter Tryd.func29, Tryd.ntmps29
      go_wp2
      go_ret
      rw [HQ.out]
      exact ⟨rfl, rfl⟩
    by_cases q2 : N % 10 = 2
    · have HQ := Lib.hid (show sfx N = [110, 100] by unfold sfx; rw [if_neg (by omega), if_neg (by omega), if_pos (by omega)])
      have p2 : ((N : Int) % 10 == 2) = true := by rw [beq_iff_eq]; omega
      have p1 : ((N : Int) % 10 == 1) = false := neB (by omega)
      clear q1 q2 h0
      go_enter Tryd.func29, Tryd.ntmps29
      go_wp2
      go_ret
      rw [HQ.out]
      exact ⟨rfl, rfl⟩
    by_cases q3 : N % 10 = 3
    · have HQ := Lib.hid (show sfx N = [114, 100] by unfold sfx; rw [if_neg (by omega), if_neg (by omega), if_neg (by omega), if_pos (by omega)])
      have p3 : ((N : Int) % 10 == 3) = true := by rw [beq_iff_eq]; omega
      have p1 : ((N : Int) % 10 == 1) = false := neB (by omega)
      have p2 : ((N : Int) % 10 == 2) = false := neB (by omega)
      clear q1 q2 q3 h0
      go_enter Tryd.func29, Tryd.ntmps29
      go_wp2
      go_ret
      rw [HQ.out]
      exact ⟨rfl, rfl⟩
    have HQ := Lib.hid (show sfx N = [116, 104] from sfx_th q1 q2 q3)
    have p1 : ((N : Int) % 10 == 1) = false := neB (by omega)
    have p2 : ((N : Int) % 10 == 2) = false := neB (by omega)
    have p3 : ((N : Int) % 10 == 3) = false := neB (by omega)
    clear q1 q2 q3 h0
    go_enter Tryd.func29, Tryd.ntmps29
    go_wp2
    go_ret
    rw [HQ.out]
    exact ⟨rfl, rfl⟩
set_option maxRecDepth 100000 in
theorem rformat_no (f n : Int) (h : ¬ Nu9.kindOk f) (w : World) : Calls Tryd.prog 15 #[.int .i64 f, .int .i64 n] w (FmtR f n w) := by
  have HS := Lib.hid (show fmtS f n = [] by unfold fmtS; rw [if_neg (fun q => h q.1)])
  have HE := Lib.hid (show fmtE f n = 3 by unfold fmtE; rw [if_neg h])
  have cR := fun w' => rrange_any f w'
  unfold RRngR at cR
  rw [rrng_no h] at cR
  clear h
  go_enter Tryd.func15, Tryd.ntmps15
  go_wp2_with (go_at_call 13; (with_reducible refine (cR _).mono ?_); rintro e w' ⟨rfl, rfl⟩)
  go_ret2
  unfold FmtR
  rw [HS.out, HE.out]
  exact ⟨rfl, Below.refl _ _⟩
set_option maxRecDepth 100000 in
theorem rformat_out (f n : Int) (h : Nu9.kindOk f) (hn : ¬ (least f ≤ n ∧ n ≤ most f)) (w : World) : Calls Tryd.prog 15 #[.int .i64 f, .int .i64 n] w (FmtR f n w) := by
  have HS := Lib.hid (show fmtS f n = [] by unfold fmtS; rw [if_neg (fun q => hn q.2)])
  have HE := Lib.hid (show fmtE f n = 2 by unfold fmtE; rw [if_pos h, if_neg hn])
  have cR := fun w' => rrange_any f w'
  unfold RRngR rrngV at cR
  rw [decide_eq_true h] at cR
  clear h
  generalize least f = a at cR hn
  generalize most f = b at cR hn
  by_cases h1 : n < a
  · clear hn
    go_enter Tryd.func15, Tryd.ntmps15
    go_wp2_with (go_at_call 13; (with_reducible refine (cR _).mono ?_); rintro e w' ⟨rfl, rfl⟩)
    go_ret2
    unfold FmtR
    rw [HS.out, HE.out]
    exact ⟨rfl, Below.refl _ _⟩
  · have h2 : b < n := by omega
    clear hn
    go_enter Tryd.func15, Tryd.ntmps15
    go_wp2_with (go_at_call 13; (with_reducible refine (cR _).mono ?_); rintro e w' ⟨rfl, rfl⟩)
    go_ret2
    unfold FmtR
    rw [HS.out, HE.out]
    exact ⟨rfl, Below.refl _ _⟩
set_option maxRecDepth 100000 in
set_option maxHeartbeats 1000000 in
theorem rformat_1 (N : Nat) (h0 : 0 ≤ N) (hN : N ≤ 999999) (w : World) : Calls Tryd.prog 15 #[.int .i64 1, .int .i64 (N : Int)] w (FmtR 1 N w) := by
  have hin : Nu9.kindOk 1 ∧ least 1 ≤ (N : Int) ∧ (N : Int) ≤ most 1 := ⟨by decide, by rw [show least 1 = 0 from rfl]; omega, by rw [show most 1 = 999999 from rfl]; omega⟩
  have HS := Lib.hid (show fmtS 1 N = num 1 N by unfold fmtS; rw [if_pos hin]; rfl)
  have HE := Lib.hid (show fmtE 1 N = 0 by unfold fmtE; rw [if_pos hin.1, if_pos hin.2])
  clear hin
  have cR : ∀ w', Calls Tryd.prog 13 #[.int .i64 1] w' (fun e w'' => e = .returned (.tuple #[.int .i64 0, .int .i64 999999, .bool true]) ∧ w' = w'') := fun w' => rrange_1 w'
  go_enter Tryd.func15, Tryd.ntmps15
  go_wp2_with (first | (go_at_call 13; (with_reducible refine (cR _).mono ?_); rintro e w' ⟨rfl, rfl⟩) | (go_at_call 25; (with_reducible refine (digits_any N (by omega) _).mono ?_); rintro e w1 ⟨rfl, hb1⟩))
  go_ret2
  unfold FmtR
  rw [HS.out, HE.out]
  exact ⟨rfl, hb1⟩
set_option maxRecDepth 100000 in
set_option maxHeartbeats 1000000 in
theorem rformat_2 (N : Nat) (h0 : 1 ≤ N) (hN : N ≤ 999999) (w : World) : Calls Tryd.prog 15 #[.int .i64 2, .int .i64 (N : Int)] w (FmtR 2 N w) := by
  have hin : Nu9.kindOk 2 ∧ least 2 ≤ (N : Int) ∧ (N : Int) ≤ most 2 := ⟨by decide, by rw [show least 2 = 1 from rfl]; omega, by rw [show most 2 = 999999 from rfl]; omega⟩
  have HS := Lib.hid (show fmtS 2 N = num 2 N by unfold fmtS; rw [if_pos hin]; rfl)
  have HE := Lib.hid (show fmtE 2 N = 0 by unfold fmtE; rw [if_pos hin.1, if_pos hin.2])
  clear hin
  have cR : ∀ w', Calls Tryd.prog 13 #[.int .i64 2] w' (fun e w'' => e = .returned (.tuple #[.int .i64 1, .int .i64 999999, .bool true]) ∧ w' = w'') := fun w' => rrange_2 w'
  go_enter Tryd.func15, Tryd.ntmps15
  go_wp2_with (first | (go_at_call 13; (with_reducible refine (cR _).mono ?_); rintro e w' ⟨rfl, rfl⟩) | (go_at_call 26; (with_reducible refine (rletters_any N (by omega) _).mono ?_); rintro e w1 ⟨rfl, hb1⟩))
  go_ret2
  unfold FmtR
  rw [HS.out, HE.out]
  exact ⟨rfl, hb1⟩
set_option maxRecDepth 100000 in
set_option maxHeartbeats 1000000 in
theorem rformat_3 (N : Nat) (h0 : 1 ≤ N) (hN : N ≤ 999999) (w : World) : Calls Tryd.prog 15 #[.int .i64 3, .int .i64 (N : Int)] w (FmtR 3 N w) := by
  have hin : Nu9.kindOk 3 ∧ least 3 ≤ (N : Int) ∧ (N : Int) ≤ most 3 := ⟨by decide, by rw [show least 3 = 1 from rfl]; omega, by rw [show most 3 = 999999 from rfl]; omega⟩
  have HS := Lib.hid (show fmtS 3 N = num 3 N by unfold fmtS; rw [if_pos hin]; rfl)
  have HE := Lib.hid (show fmtE 3 N = 0 by unfold fmtE; rw [if_pos hin.1, if_pos hin.2])
  clear hin
  have cR : ∀ w', Calls Tryd.prog 13 #[.int .i64 3] w' (fun e w'' => e = .returned (.tuple #[.int .i64 1, .int .i64 999999, .bool true]) ∧ w' = w'') := fun w' => rrange_3 w'
  go_enter Tryd.func15, Tryd.ntmps15
  go_wp2_with (first | (go_at_call 13; (with_reducible refine (cR _).mono ?_); rintro e w' ⟨rfl, rfl⟩) | (go_at_call 26; (with_reducible refine (rletters_any N (by omega) _).mono ?_); rintro e w1 ⟨rfl, hb1⟩) | (go_at_call 27; (with_reducible refine (rupper_any (ltr N) (by have := ltr_len 5 N (by omega); omega) _).mono ?_); rintro e w2 ⟨rfl, hb2⟩))
  go_ret2
  unfold FmtR
  rw [HS.out, HE.out]
  exact ⟨rfl, chain hb1 hb2⟩
set_option maxRecDepth 100000 in
set_option maxHeartbeats 1000000 in
theorem rformat_4 (N : Nat) (h0 : 1 ≤ N) (hN : N ≤ 3999) (w : World) : Calls Tryd.prog 15 #[.int .i64 4, .int .i64 (N : Int)] w (FmtR 4 N w) := by
  have hin : Nu9.kindOk 4 ∧ least 4 ≤ (N : Int) ∧ (N : Int) ≤ most 4 := ⟨by decide, by rw [show least 4 = 1 from rfl]; omega, by rw [show most 4 = 3999 from rfl]; omega⟩
  have HS := Lib.hid (show fmtS 4 N = num 4 N by unfold fmtS; rw [if_pos hin]; rfl)
  have HE := Lib.hid (show fmtE 4 N = 0 by unfold fmtE; rw [if_pos hin.1, if_pos hin.2])
  clear hin
  have cR : ∀ w', Calls Tryd.prog 13 #[.int .i64 4] w' (fun e w'' => e = .returned (.tuple #[.int .i64 1, .int .i64 3999, .bool true]) ∧ w' = w'') := fun w' => rrange_4 w'
  go_enter Tryd.func15, Tryd.ntmps15
  go_wp2_with (first | (go_at_call 13; (with_reducible refine (cR _).mono ?_); rintro e w' ⟨rfl, rfl⟩) | (go_at_call 28; (with_reducible refine (rroman_any N (by omega) _).mono ?_); rintro e w1 ⟨rfl, hb1⟩))
  go_ret2
  unfold FmtR
  rw [HS.out, HE.out]
  exact ⟨rfl, hb1⟩
set_option maxRecDepth 100000 in
set_option maxHeartbeats 1000000 in
theorem rformat_5 (N : Nat) (h0 : 1 ≤ N) (hN : N ≤ 3999) (w : World) : Calls Tryd.prog 15 #[.int .i64 5, .int .i64 (N : Int)] w (FmtR 5 N w) := by
  have hin : Nu9.kindOk 5 ∧ least 5 ≤ (N : Int) ∧ (N : Int) ≤ most 5 := ⟨by decide, by rw [show least 5 = 1 from rfl]; omega, by rw [show most 5 = 3999 from rfl]; omega⟩
  have HS := Lib.hid (show fmtS 5 N = num 5 N by unfold fmtS; rw [if_pos hin]; rfl)
  have HE := Lib.hid (show fmtE 5 N = 0 by unfold fmtE; rw [if_pos hin.1, if_pos hin.2])
  clear hin
  have cR : ∀ w', Calls Tryd.prog 13 #[.int .i64 5] w' (fun e w'' => e = .returned (.tuple #[.int .i64 1, .int .i64 3999, .bool true]) ∧ w' = w'') := fun w' => rrange_5 w'
  go_enter Tryd.func15, Tryd.ntmps15
  go_wp2_with (first | (go_at_call 13; (with_reducible refine (cR _).mono ?_); rintro e w' ⟨rfl, rfl⟩) | (go_at_call 28; (with_reducible refine (rroman_any N (by omega) _).mono ?_); rintro e w1 ⟨rfl, hb1⟩) | (go_at_call 27; (with_reducible refine (rupper_any (rmn N) (by have := rmn_len N (by omega); omega) _).mono ?_); rintro e w2 ⟨rfl, hb2⟩))
  go_ret2
  unfold FmtR
  rw [HS.out, HE.out]
  exact ⟨rfl, chain hb1 hb2⟩
set_option maxRecDepth 100000 in
set_option maxHeartbeats 1000000 in
theorem rformat_6 (N : Nat) (h0 : 1 ≤ N) (hN : N ≤ 999999) (w : World) : Calls Tryd.prog 15 #[.int .i64 6, .int .i64 (N : Int)] w (FmtR 6 N w) := by
  have hin : Nu9.kindOk 6 ∧ least 6 ≤ (N : Int) ∧ (N : Int) ≤ most 6 := ⟨by decide, by rw [show least 6 = 1 from rfl]; omega, by rw [show most 6 = 999999 from rfl]; omega⟩
  have HS := Lib.hid (show fmtS 6 N = num 6 N by unfold fmtS; rw [if_pos hin]; rfl)
  have HE := Lib.hid (show fmtE 6 N = 0 by unfold fmtE; rw [if_pos hin.1, if_pos hin.2])
  clear hin
  have cR : ∀ w', Calls Tryd.prog 13 #[.int .i64 6] w' (fun e w'' => e = .returned (.tuple #[.int .i64 1, .int .i64 999999, .bool true]) ∧ w' = w'') := fun w' => rrange_6 w'
  have z1 : (bs (dec N)).size ≤ 6 := by rw [bs_size]; exact dec_len 5 N (by omega)
  have z2 : (bs (sfx N)).size ≤ 2 := by rw [bs_size, sfx_len]; exact Nat.le_refl _
  go_enter Tryd.func15, Tryd.ntmps15
  go_wp2_with (first | (go_at_call 13; (with_reducible refine (cR _).mono ?_); rintro e w' ⟨rfl, rfl⟩) | (go_at_call 25; (with_reducible refine (digits_any N (by omega) _).mono ?_); rintro e w1 ⟨rfl, hb1⟩) | (go_at_call 29; (with_reducible refine (suffix_any N (by omega) _).mono ?_); rintro e w2 ⟨rfl, rfl⟩))
  go_ret2
  unfold FmtR
  rw [HS.out, HE.out]
  rw [show num 6 N = dec N ++ sfx N from rfl, ← bs_append]
  exact ⟨rfl, hb1⟩
set_option maxRecDepth 100000 in
set_option maxHeartbeats 1000000 in
theorem rformat_7 (N : Nat) (h0 : 1 ≤ N) (hN : N ≤ 999999) (w : World) : Calls Tryd.prog 15 #[.int .i64 7, .int .i64 (N : Int)] w (FmtR 7 N w) := by
  have hin : Nu9.kindOk 7 ∧ least 7 ≤ (N : Int) ∧ (N : Int) ≤ most 7 := ⟨by decide, by rw [show least 7 = 1 from rfl]; omega, by rw [show most 7 = 999999 from rfl]; omega⟩
  have HS := Lib.hid (show fmtS 7 N = num 7 N by unfold fmtS; rw [if_pos hin]; rfl)
  have HE := Lib.hid (show fmtE 7 N = 0 by unfold fmtE; rw [if_pos hin.1, if_pos hin.2])
  clear hin
  have cR : ∀ w', Calls Tryd.prog 13 #[.int .i64 7] w' (fun e w'' => e = .returned (.tuple #[.int .i64 1, .int .i64 999999, .bool true]) ∧ w' = w'') := fun w' => rrange_7 w'
  go_enter Tryd.func15, Tryd.ntmps15
  go_wp2_with (first | (go_at_call 13; (with_reducible refine (cR _).mono ?_); rintro e w' ⟨rfl, rfl⟩))
  go_ret2
  unfold FmtR
  rw [HS.out, HE.out]
  exact ⟨rfl, Below.refl _ _⟩
theorem rformat_any (f n : Int) (w : World) : Calls Tryd.prog 15 #[.int .i64 f, .int .i64 n] w (FmtR f n w) := by
  by_cases h : Nu9.kindOk f
  · by_cases hn : least f ≤ n ∧ n ≤ most f
    · have hnn : 0 ≤ n := by
        have : 0 ≤ least f := by unfold least; split <;> decide
        omega
      obtain ⟨N, rfl⟩ := Int.eq_ofNat_of_zero_le hnn
      have h' : 1 ≤ f ∧ f ≤ 7 := h
      rcases (show f = 1 ∨ f = 2 ∨ f = 3 ∨ f = 4 ∨ f = 5 ∨ f = 6 ∨ f = 7 by omega) with rfl | rfl | rfl | rfl | rfl | rfl | rfl
      · exact rformat_1 N (by have := hn.1; rw [show least 1 = 0 from rfl] at this; omega) (by have := hn.2; rw [show most 1 = 999999 from rfl] at this; omega) w
      · exact rformat_2 N (by have := hn.1; rw [show least 2 = 1 from rfl] at this; omega) (by have := hn.2; rw [show most 2 = 999999 from rfl] at this; omega) w
      · exact rformat_3 N (by have := hn.1; rw [show least 3 = 1 from rfl] at this; omega) (by have := hn.2; rw [show most 3 = 999999 from rfl] at this; omega) w
      · exact rformat_4 N (by have := hn.1; rw [show least 4 = 1 from rfl] at this; omega) (by have := hn.2; rw [show most 4 = 3999 from rfl] at this; omega) w
      · exact rformat_5 N (by have := hn.1; rw [show least 5 = 1 from rfl] at this; omega) (by have := hn.2; rw [show most 5 = 3999 from rfl] at this; omega) w
      · exact rformat_6 N (by have := hn.1; rw [show least 6 = 1 from rfl] at this; omega) (by have := hn.2; rw [show most 6 = 999999 from rfl] at this; omega) w
      · exact rformat_7 N (by have := hn.1; rw [show least 7 = 1 from rfl] at this; omega) (by have := hn.2; rw [show most 7 = 999999 from rfl] at this; omega) w
    · exact rformat_out f n h hn w
  · exact rformat_no f n h w
def rvalN (x : Nat) : Int := rval (UInt8.ofNat x)
theorem rvalN_of (c : UInt8) : rvalN c.toNat = rval c := by unfold rvalN; rw [UInt8.ofNat_toNat]
set_option maxRecDepth 100000 in
theorem rvalN_none : ∀ x : Nat, x < 256 → x ≠ 105 → x ≠ 73 → x ≠ 118 → x ≠ 86 → x ≠ 120 → x ≠ 88 → x ≠ 108 → x ≠ 76 → x ≠ 99 → x ≠ 67 → x ≠ 100 → x ≠ 68 → x ≠ 109 → x ≠ 77 → rvalN x = 0 := by
  have : ∀ i : Fin 256, i.1 = 105 ∨ i.1 = 73 ∨ i.1 = 118 ∨ i.1 = 86 ∨ i.1 = 120 ∨ i.1 = 88 ∨ i.1 = 108 ∨ i.1 = 76 ∨ i.1 = 99 ∨ i.1 = 67 ∨ i.1 = 100 ∨ i.1 = 68 ∨ i.1 = 109 ∨ i.1 = 77 ∨ rvalN i.1 = 0 := by decide +kernel
  intro x hx h105 h73 h118 h86 h120 h88 h108 h76 h99 h67 h100 h68 h109 h77
  have h := this ⟨x, hx⟩
  simp only [h105, h73, h118, h86, h120, h88, h108, h76, h99, h67, h100, h68, h109, h77, false_or] at h
  exact h
theorem rvalN_bd (x : Nat) (hx : x < 256) : 0 ≤ rvalN x ∧ rvalN x ≤ 1000 := by
  have : ∀ i : Fin 256, 0 ≤ rvalN i.1 ∧ rvalN i.1 ≤ 1000 := by decide +kernel
  exact this ⟨x, hx⟩
def LetR (x : Nat) (w : World) (e : Ending) (w' : World) : Prop := e = .returned (.int .i64 (rvalN x)) ∧ w = w'
set_option maxRecDepth 100000 in
theorem letter_105 (w : World) : Calls Tryd.prog 51 #[.int .u8 105] w (LetR 105 w) := by
  go_enter Tryd.func51, Tryd.ntmps51
  go_wp2
  go_ret
  exact ⟨rfl, rfl⟩
set_option maxRecDepth 100000 in
theorem letter_73 (w : World) : Calls Tryd.prog 51 #[.int .u8 73] w (LetR 73 w) := by
  go_enter Tryd.func51, Tryd.ntmps51
  go_wp2
  go_ret
  exact ⟨rfl, rfl⟩
set_option maxRecDepth 100000 in
theorem letter_118 (w : World) : Calls Tryd.prog 51 #[.int .u8 118] w (LetR 118 w) := by
  go_enter Tryd.func51, Tryd.ntmps51
  go_wp2
  go_ret
  exact ⟨rfl, rfl⟩
set_option maxRecDepth 100000 in
theorem letter_86 (w : World) : Calls Tryd.prog 51 #[.int .u8 86] w (LetR 86 w) := by
  go_enter Tryd.func51, Tryd.ntmps51
  go_wp2
  go_ret
  exact ⟨rfl, rfl⟩
set_option maxRecDepth 100000 in
theorem letter_120 (w : World) : Calls Tryd.prog 51 #[.int .u8 120] w (LetR 120 w) := by
  go_enter Tryd.func51, Tryd.ntmps51
  go_wp2
  go_ret
  exact ⟨rfl, rfl⟩
set_option maxRecDepth 100000 in
theorem letter_88 (w : World) : Calls Tryd.prog 51 #[.int .u8 88] w (LetR 88 w) := by
  go_enter Tryd.func51, Tryd.ntmps51
  go_wp2
  go_ret
  exact ⟨rfl, rfl⟩
set_option maxRecDepth 100000 in
theorem letter_108 (w : World) : Calls Tryd.prog 51 #[.int .u8 108] w (LetR 108 w) := by
  go_enter Tryd.func51, Tryd.ntmps51
  go_wp2
  go_ret
  exact ⟨rfl, rfl⟩
set_option maxRecDepth 100000 in
theorem letter_76 (w : World) : Calls Tryd.prog 51 #[.int .u8 76] w (LetR 76 w) := by
  go_enter Tryd.func51, Tryd.ntmps51
  go_wp2
  go_ret
  exact ⟨rfl, rfl⟩
set_option maxRecDepth 100000 in
theorem letter_99 (w : World) : Calls Tryd.prog 51 #[.int .u8 99] w (LetR 99 w) := by
  go_enter Tryd.func51, Tryd.ntmps51
  go_wp2
  go_ret
  exact ⟨rfl, rfl⟩
set_option maxRecDepth 100000 in
theorem letter_67 (w : World) : Calls Tryd.prog 51 #[.int .u8 67] w (LetR 67 w) := by
  go_enter Tryd.func51, Tryd.ntmps51
  go_wp2
  go_ret
  exact ⟨rfl, rfl⟩
set_option maxRecDepth 100000 in
theorem letter_100 (w : World) : Calls Tryd.prog 51 #[.int .u8 100] w (LetR 100 w) := by
  go_enter Tryd.func51, Tryd.ntmps51
  go_wp2
  go_ret
  exact ⟨rfl, rfl⟩
set_option maxRecDepth 100000 in
theorem letter_68 (w : World) : Calls Tryd.prog 51 #[.int .u8 68] w (LetR 68 w) := by
  go_enter Tryd.func51, Tryd.ntmps51
  go_wp2
  go_ret
  exact ⟨rfl, rfl⟩
set_option maxRecDepth 100000 in
theorem letter_109 (w : World) : Calls Tryd.prog 51 #[.int .u8 109] w (LetR 109 w) := by
  go_enter Tryd.func51, Tryd.ntmps51
  go_wp2
  go_ret
  exact ⟨rfl, rfl⟩
set_option maxRecDepth 100000 in
theorem letter_77 (w : World) : Calls Tryd.prog 51 #[.int .u8 77] w (LetR 77 w) := by
  go_enter Tryd.func51, Tryd.ntmps51
  go_wp2
  go_ret
  exact ⟨rfl, rfl⟩
set_option maxRecDepth 100000 in
set_option maxHeartbeats 1000000 in
theorem letter_none (x : Nat) (hx : x < 256) (h105 : x ≠ 105) (h73 : x ≠ 73) (h118 : x ≠ 118) (h86 : x ≠ 86) (h120 : x ≠ 120) (h88 : x ≠ 88) (h108 : x ≠ 108) (h76 : x ≠ 76) (h99 : x ≠ 99) (h67 : x ≠ 67) (h100 : x ≠ 100) (h68 : x ≠ 68) (h109 : x ≠ 109) (h77 : x ≠ 77) (w : World) : Calls Tryd.prog 51 #[.int .u8 (x : Int)] w (LetR x w) := by
  have HV := Lib.hid (rvalN_none x hx h105 h73 h118 h86 h120 h88 h108 h76 h99 h67 h100 h68 h109 h77)
  have b105 : ((x : Int) == 105) = false := neB (by omega)
  have b73 : ((x : Int) == 73) = false := neB (by omega)
  have b118 : ((x : Int) == 118) = false := neB (by omega)
  have b86 : ((x : Int) == 86) = false := neB (by omega)
  have b120 : ((x : Int) == 120) = false := neB (by omega)
  have b88 : ((x : Int) == 88) = false := neB (by omega)
  have b108 : ((x : Int) == 108) = false := neB (by omega)
  have b76 : ((x : Int) == 76) = false := neB (by omega)
  have b99 : ((x : Int) == 99) = false := neB (by omega)
  have b67 : ((x : Int) == 67) = false := neB (by omega)
  have b100 : ((x : Int) == 100) = false := neB (by omega)
  have b68 : ((x : Int) == 68) = false := neB (by omega)
  have b109 : ((x : Int) == 109) = false := neB (by omega)
  have b77 : ((x : Int) == 77) = false := neB (by omega)
  clear h105 h73 h118 h86 h120 h88 h108 h76 h99 h67 h100 h68 h109 h77
  go_enter Tryd.func51, Tryd.ntmps51
  go_wp2
  go_ret
  unfold LetR
  rw [HV.out]
  exact ⟨rfl, rfl⟩
theorem letter_any (x : Nat) (hx : x < 256) (w : World) : Calls Tryd.prog 51 #[.int .u8 (x : Int)] w (LetR x w) := by
  by_cases h105 : x = 105
  · subst h105; exact letter_105 w
  by_cases h73 : x = 73
  · subst h73; exact letter_73 w
  by_cases h118 : x = 118
  · subst h118; exact letter_118 w
  by_cases h86 : x = 86
  · subst h86; exact letter_86 w
  by_cases h120 : x = 120
  · subst h120; exact letter_120 w
  by_cases h88 : x = 88
  · subst h88; exact letter_88 w
  by_cases h108 : x = 108
  · subst h108; exact letter_108 w
  by_cases h76 : x = 76
  · subst h76; exact letter_76 w
  by_cases h99 : x = 99
  · subst h99; exact letter_99 w
  by_cases h67 : x = 67
  · subst h67; exact letter_67 w
  by_cases h100 : x = 100
  · subst h100; exact letter_100 w
  by_cases h68 : x = 68
  · subst h68; exact letter_68 w
  by_cases h109 : x = 109
  · subst h109; exact letter_109 w
  by_cases h77 : x = 77
  · subst h77; exact letter_77 w
  exact letter_none x hx h105 h73 h118 h86 h120 h88 h108 h76 h99 h67 h100 h68 h109 h77 w
end Go.Proofs.YteahingapnijcaaDoor
