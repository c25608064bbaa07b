/- Layer 9: Format. -/
import Derived.Test.YteahingapnijcaaDoorC1
namespace Go.Proofs.YteahingapnijcaaDoor
open Go.RowKit Go.Lib Go.Shelf Nu9

/-- What Format hands back. -/
def FmtR (f n : Int) (w : World) (e : Ending) (w' : World) : Prop := e = .returned (.tuple #[.string (bs (fmtS f n)), .int .i64 (fmtE f n)]) ∧ Below w.heap.size w w'
theorem ret_fmt {a b : ByteArray} {x y : Int} (h1 : a = b) (h2 : x = y) : Ending.returned (.tuple #[.string a, .int .i64 x]) = .returned (.tuple #[.string b, .int .i64 y]) := by rw [h1, h2]
set_option maxRecDepth 100000 in
theorem format_no (f n : Int) (h : ¬ Nu9.kindOk f) (w : World) : Calls Tryd.prog 14 #[.int .i64 f, .int .i64 n] w (FmtR f n w) := by
  have HS := Lib.hid (show fmtS f n = [] by unfold fmtS; rw [if_neg (fun q => h q.1)])
  have HE := Lib.hid (show fmtE f n = 3 by unfold fmtE; rw [if_neg h])
  have cR := fun w' => range_any f w'
  unfold RngR at cR
  rw [rng_no h] at cR
  clear h
  go_enter Tryd.func14, Tryd.ntmps14
  go_wp2_with (go_at_call 12; (with_reducible refine (cR _).mono ?_); rintro e w' ⟨rfl, rfl⟩)
  go_ret2
  unfold FmtR
  rw [HS.out, HE.out]
  exact ⟨rfl, Below.refl _ _⟩
set_option maxRecDepth 100000 in
theorem format_out (f n : Int) (h : Nu9.kindOk f) (hn : ¬ (least f ≤ n ∧ n ≤ most f)) (w : World) : Calls Tryd.prog 14 #[.int .i64 f, .int .i64 n] w (FmtR f n w) := by
  have HS := Lib.hid (show fmtS f n = [] by unfold fmtS; rw [if_neg (fun q => hn q.2)])
  have HE := Lib.hid (show fmtE f n = 2 by unfold fmtE; rw [if_pos h, if_neg hn])
  have cR := fun w' => range_any f w'
  unfold RngR rngV at cR
  rw [if_pos h] at cR
  clear h
  generalize least f = a at cR hn
  generalize most f = b at cR hn
  by_cases h1 : n < a
  · clear hn
    go_enter Tryd.func14, Tryd.ntmps14
    go_wp2_with (go_at_call 12; (with_reducible refine (cR _).mono ?_); rintro e w' ⟨rfl, rfl⟩)
    go_ret2
    unfold FmtR
    rw [HS.out, HE.out]
    exact ⟨rfl, Below.refl _ _⟩
  · have h2 : b < n := by omega
    clear hn
    go_enter Tryd.func14, Tryd.ntmps14
    go_wp2_with (go_at_call 12; (with_reducible refine (cR _).mono ?_); rintro e w' ⟨rfl, rfl⟩)
    go_ret2
    unfold FmtR
    rw [HS.out, HE.out]
    exact ⟨rfl, Below.refl _ _⟩
set_option maxRecDepth 100000 in
set_option maxHeartbeats 1000000 in
theorem format_1 (N : Nat) (h0 : 0 ≤ N) (hN : N ≤ 999999) (w : World) (hW : LaidW w) : Calls Tryd.prog 14 #[.int .i64 1, .int .i64 (N : Int)] w (FmtR 1 N w) := by
  have hin : Nu9.kindOk 1 ∧ least 1 ≤ (N : Int) ∧ (N : Int) ≤ most 1 := ⟨by decide, by rw [show least 1 = 0 from rfl]; omega, by rw [show most 1 = 999999 from rfl]; omega⟩
  have HS := Lib.hid (show fmtS 1 N = num 1 N by unfold fmtS; rw [if_pos hin]; rfl)
  have HE := Lib.hid (show fmtE 1 N = 0 by unfold fmtE; rw [if_pos hin.1, if_pos hin.2])
  clear hin
  have cR : ∀ w', Calls Tryd.prog 12 #[.int .i64 1] w' (fun e w'' => e = .returned (.tuple #[.int .i64 0, .int .i64 999999, .int .i64 0]) ∧ w' = w'') := fun w' => range_1 w'
  go_enter Tryd.func14, Tryd.ntmps14
  go_wp2_with (go_at_call 12; (with_reducible refine (cR _).mono ?_); rintro e w' ⟨rfl, rfl⟩)
  refine (writers_any _).mono ?_
  rintro e w1 ⟨b, n, rfl, ho, hb1⟩
  have hl := look_w ho (f := 1) (by decide) (g := 35) rfl
  have hW1 := hW.below hb1
  clear ho
  go_wp2_with (go_at_call 35; (with_reducible refine (w1_any N hN _).mono ?_); rintro e w2 ⟨rfl, hb2⟩)
  go_ret2
  unfold FmtR
  rw [HS.out, HE.out]
  exact ⟨rfl, chain hb1 hb2⟩
set_option maxRecDepth 100000 in
set_option maxHeartbeats 1000000 in
theorem format_2 (N : Nat) (h0 : 1 ≤ N) (hN : N ≤ 999999) (w : World) (hW : LaidW w) : Calls Tryd.prog 14 #[.int .i64 2, .int .i64 (N : Int)] w (FmtR 2 N w) := by
  have hin : Nu9.kindOk 2 ∧ least 2 ≤ (N : Int) ∧ (N : Int) ≤ most 2 := ⟨by decide, by rw [show least 2 = 1 from rfl]; omega, by rw [show most 2 = 999999 from rfl]; omega⟩
  have HS := Lib.hid (show fmtS 2 N = num 2 N by unfold fmtS; rw [if_pos hin]; rfl)
  have HE := Lib.hid (show fmtE 2 N = 0 by unfold fmtE; rw [if_pos hin.1, if_pos hin.2])
  clear hin
  have cR : ∀ w', Calls Tryd.prog 12 #[.int .i64 2] w' (fun e w'' => e = .returned (.tuple #[.int .i64 1, .int .i64 999999, .int .i64 0]) ∧ w' = w'') := fun w' => range_2 w'
  go_enter Tryd.func14, Tryd.ntmps14
  go_wp2_with (go_at_call 12; (with_reducible refine (cR _).mono ?_); rintro e w' ⟨rfl, rfl⟩)
  refine (writers_any _).mono ?_
  rintro e w1 ⟨b, n, rfl, ho, hb1⟩
  have hl := look_w ho (f := 2) (by decide) (g := 36) rfl
  have hW1 := hW.below hb1
  clear ho
  go_wp2_with (go_at_call 36; (with_reducible refine (w2_any N hN _).mono ?_); rintro e w2 ⟨rfl, hb2⟩)
  go_ret2
  unfold FmtR
  rw [HS.out, HE.out]
  exact ⟨rfl, chain hb1 hb2⟩
set_option maxRecDepth 100000 in
set_option maxHeartbeats 1000000 in
theorem format_3 (N : Nat) (h0 : 1 ≤ N) (hN : N ≤ 999999) (w : World) (hW : LaidW w) : Calls Tryd.prog 14 #[.int .i64 3, .int .i64 (N : Int)] w (FmtR 3 N w) := by
  have hin : Nu9.kindOk 3 ∧ least 3 ≤ (N : Int) ∧ (N : Int) ≤ most 3 := ⟨by decide, by rw [show least 3 = 1 from rfl]; omega, by rw [show most 3 = 999999 from rfl]; omega⟩
  have HS := Lib.hid (show fmtS 3 N = num 3 N by unfold fmtS; rw [if_pos hin]; rfl)
  have HE := Lib.hid (show fmtE 3 N = 0 by unfold fmtE; rw [if_pos hin.1, if_pos hin.2])
  clear hin
  have cR : ∀ w', Calls Tryd.prog 12 #[.int .i64 3] w' (fun e w'' => e = .returned (.tuple #[.int .i64 1, .int .i64 999999, .int .i64 0]) ∧ w' = w'') := fun w' => range_3 w'
  go_enter Tryd.func14, Tryd.ntmps14
  go_wp2_with (go_at_call 12; (with_reducible refine (cR _).mono ?_); rintro e w' ⟨rfl, rfl⟩)
  refine (writers_any _).mono ?_
  rintro e w1 ⟨b, n, rfl, ho, hb1⟩
  have hl := look_w ho (f := 3) (by decide) (g := 37) rfl
  have hW1 := hW.below hb1
  clear ho
  go_wp2_with (go_at_call 37; (with_reducible refine (w3_any N hN _ hW1).mono ?_); rintro e w2 ⟨rfl, hb2⟩)
  go_ret2
  unfold FmtR
  rw [HS.out, HE.out]
  exact ⟨rfl, chain hb1 hb2⟩
set_option maxRecDepth 100000 in
set_option maxHeartbeats 1000000 in
theorem format_4 (N : Nat) (h0 : 1 ≤ N) (hN : N ≤ 3999) (w : World) (hW : LaidW w) : Calls Tryd.prog 14 #[.int .i64 4, .int .i64 (N : Int)] w (FmtR 4 N w) := by
  have hin : Nu9.kindOk 4 ∧ least 4 ≤ (N : Int) ∧ (N : Int) ≤ most 4 := ⟨by decide, by rw [show least 4 = 1 from rfl]; omega, by rw [show most 4 = 3999 from rfl]; omega⟩
  have HS := Lib.hid (show fmtS 4 N = num 4 N by unfold fmtS; rw [if_pos hin]; rfl)
  have HE := Lib.hid (show fmtE 4 N = 0 by unfold fmtE; rw [if_pos hin.1, if_pos hin.2])
  clear hin
  have cR : ∀ w', Calls Tryd.prog 12 #[.int .i64 4] w' (fun e w'' => e = .returned (.tuple #[.int .i64 1, .int .i64 3999, .int .i64 0]) ∧ w' = w'') := fun w' => range_4 w'
  go_enter Tryd.func14, Tryd.ntmps14
  go_wp2_with (go_at_call 12; (with_reducible refine (cR _).mono ?_); rintro e w' ⟨rfl, rfl⟩)
  refine (writers_any _).mono ?_
  rintro e w1 ⟨b, n, rfl, ho, hb1⟩
  have hl := look_w ho (f := 4) (by decide) (g := 39) rfl
  have hW1 := hW.below hb1
  clear ho
  go_wp2_with (go_at_call 39; (with_reducible refine (w4_any N (by omega) _ hW1).mono ?_); rintro e w2 ⟨rfl, hb2⟩)
  go_ret2
  unfold FmtR
  rw [HS.out, HE.out]
  exact ⟨rfl, chain hb1 hb2⟩
set_option maxRecDepth 100000 in
set_option maxHeartbeats 1000000 in
theorem format_5 (N : Nat) (h0 : 1 ≤ N) (hN : N ≤ 3999) (w : World) (hW : LaidW w) : Calls Tryd.prog 14 #[.int .i64 5, .int .i64 (N : Int)] w (FmtR 5 N w) := by
  have hin : Nu9.kindOk 5 ∧ least 5 ≤ (N : Int) ∧ (N : Int) ≤ most 5 := ⟨by decide, by rw [show least 5 = 1 from rfl]; omega, by rw [show most 5 = 3999 from rfl]; omega⟩
  have HS := Lib.hid (show fmtS 5 N = num 5 N by unfold fmtS; rw [if_pos hin]; rfl)
  have HE := Lib.hid (show fmtE 5 N = 0 by unfold fmtE; rw [if_pos hin.1, if_pos hin.2])
  clear hin
  have cR : ∀ w', Calls Tryd.prog 12 #[.int .i64 5] w' (fun e w'' => e = .returned (.tuple #[.int .i64 1, .int .i64 3999, .int .i64 0]) ∧ w' = w'') := fun w' => range_5 w'
  go_enter Tryd.func14, Tryd.ntmps14
  go_wp2_with (go_at_call 12; (with_reducible refine (cR _).mono ?_); rintro e w' ⟨rfl, rfl⟩)
  refine (writers_any _).mono ?_
  rintro e w1 ⟨b, n, rfl, ho, hb1⟩
  have hl := look_w ho (f := 5) (by decide) (g := 40) rfl
  have hW1 := hW.below hb1
  clear ho
  go_wp2_with (go_at_call 40; (with_reducible refine (w5_any N (by omega) _ hW1).mono ?_); rintro e w2 ⟨rfl, hb2⟩)
  go_ret2
  unfold FmtR
  rw [HS.out, HE.out]
  exact ⟨rfl, chain hb1 hb2⟩
set_option maxRecDepth 100000 in
set_option maxHeartbeats 1000000 in
theorem format_6 (N : Nat) (h0 : 1 ≤ N) (hN : N ≤ 999999) (w : World) (hW : LaidW w) : Calls Tryd.prog 14 #[.int .i64 6, .int .i64 (N : Int)] w (FmtR 6 N w) := by
  have hin : Nu9.kindOk 6 ∧ least 6 ≤ (N : Int) ∧ (N : Int) ≤ most 6 := ⟨by decide, by rw [show least 6 = 1 from rfl]; omega, by rw [show most 6 = 999999 from rfl]; omega⟩
  have HS := Lib.hid (show fmtS 6 N = num 6 N by unfold fmtS; rw [if_pos hin]; rfl)
  have HE := Lib.hid (show fmtE 6 N = 0 by unfold fmtE; rw [if_pos hin.1, if_pos hin.2])
  clear hin
  have cR : ∀ w', Calls Tryd.prog 12 #[.int .i64 6] w' (fun e w'' => e = .returned (.tuple #[.int .i64 1, .int .i64 999999, .int .i64 0]) ∧ w' = w'') := fun w' => range_6 w'
  go_enter Tryd.func14, Tryd.ntmps14
  go_wp2_with (go_at_call 12; (with_reducible refine (cR _).mono ?_); rintro e w' ⟨rfl, rfl⟩)
  refine (writers_any _).mono ?_
  rintro e w1 ⟨b, n, rfl, ho, hb1⟩
  have hl := look_w ho (f := 6) (by decide) (g := 41) rfl
  have hW1 := hW.below hb1
  clear ho
  go_wp2_with (go_at_call 41; (with_reducible refine (w6_any N hN _).mono ?_); rintro e w2 ⟨rfl, hb2⟩)
  go_ret2
  unfold FmtR
  rw [HS.out, HE.out]
  exact ⟨rfl, chain hb1 hb2⟩
set_option maxRecDepth 100000 in
set_option maxHeartbeats 1000000 in
theorem format_7 (N : Nat) (h0 : 1 ≤ N) (hN : N ≤ 999999) (w : World) (hW : LaidW w) : Calls Tryd.prog 14 #[.int .i64 7, .int .i64 (N : Int)] w (FmtR 7 N w) := by
  have hin : Nu9.kindOk 7 ∧ least 7 ≤ (N : Int) ∧ (N : Int) ≤ most 7 := ⟨by decide, by rw [show least 7 = 1 from rfl]; omega, by rw [show most 7 = 999999 from rfl]; omega⟩
  have HS := Lib.hid (show fmtS 7 N = num 7 N by unfold fmtS; rw [if_pos hin]; rfl)
  have HE := Lib.hid (show fmtE 7 N = 0 by unfold fmtE; rw [if_pos hin.1, if_pos hin.2])
  clear hin
  have cR : ∀ w', Calls Tryd.prog 12 #[.int .i64 7] w' (fun e w'' => e = .returned (.tuple #[.int .i64 1, .int .i64 999999, .int .i64 0]) ∧ w' = w'') := fun w' => range_7 w'
  go_enter Tryd.func14, Tryd.ntmps14
  go_wp2_with (go_at_call 12; (with_reducible refine (cR _).mono ?_); rintro e w' ⟨rfl, rfl⟩)
  refine (writers_any _).mono ?_
  rintro e w1 ⟨b, n, rfl, ho, hb1⟩
  have hl := look_w ho (f := 7) (by decide) (g := 43) rfl
  have hW1 := hW.below hb1
  clear ho
  go_wp2_with (go_at_call 43; (with_reducible refine (w7_any _ _).mono ?_); rintro e w2 ⟨rfl, hb2⟩)
  go_ret2
  unfold FmtR
  rw [HS.out, HE.out]
  exact ⟨rfl, chain hb1 hb2⟩
theorem format_any (f n : Int) (w : World) (hW : LaidW w) : Calls Tryd.prog 14 #[.int .i64 f, .int .i64 n] w (FmtR f n w) := by
  by_cases h : Nu9.kindOk f
  · by_cases hn : least f ≤ n ∧ n ≤ most f
    · have hnn : 0 ≤ n := by
        have : 0 ≤ least f := by unfold least; split <;> decide
        omega
      obtain ⟨N, rfl⟩ := Int.eq_ofNat_of_zero_le hnn
      have h' : 1 ≤ f ∧ f ≤ 7 := h
      rcases (show f = 1 ∨ f = 2 ∨ f = 3 ∨ f = 4 ∨ f = 5 ∨ f = 6 ∨ f = 7 by omega) with rfl | rfl | rfl | rfl | rfl | rfl | rfl
      · exact format_1 N (by have := hn.1; rw [show least 1 = 0 from rfl] at this; omega) (by have := hn.2; rw [show most 1 = 999999 from rfl] at this; omega) w hW
      · exact format_2 N (by have := hn.1; rw [show least 2 = 1 from rfl] at this; omega) (by have := hn.2; rw [show most 2 = 999999 from rfl] at this; omega) w hW
      · exact format_3 N (by have := hn.1; rw [show least 3 = 1 from rfl] at this; omega) (by have := hn.2; rw [show most 3 = 999999 from rfl] at this; omega) w hW
      · exact format_4 N (by have := hn.1; rw [show least 4 = 1 from rfl] at this; omega) (by have := hn.2; rw [show most 4 = 3999 from rfl] at this; omega) w hW
      · exact format_5 N (by have := hn.1; rw [show least 5 = 1 from rfl] at this; omega) (by have := hn.2; rw [show most 5 = 3999 from rfl] at this; omega) w hW
      · exact format_6 N (by have := hn.1; rw [show least 6 = 1 from rfl] at this; omega) (by have := hn.2; rw [show most 6 = 999999 from rfl] at this; omega) w hW
      · exact format_7 N (by have := hn.1; rw [show least 7 = 1 from rfl] at this; omega) (by have := hn.2; rw [show most 7 = 999999 from rfl] at this; omega) w hW
    · exact format_out f n h hn w
  · exact format_no f n h w
end Go.Proofs.YteahingapnijcaaDoor
