/- Layer 9: known, cut; the laws Formats, Parses, Inverse. -/
import Derived.Test.YteahingapnijcaaDoorC7
namespace Go.Proofs.YteahingapnijcaaDoor
open Go.RowKit Go.Lib Go.Shelf Nu9

theorem rmn_1994 : fmtS 4 1994 = [109, 99, 109, 120, 99, 105, 118] := by decide +kernel
theorem ltr_703 : ltr 703 = [97, 97, 97] := by
  rw [ltr_pos (by decide), show (703 - 1) / 26 = 27 by decide, ltr_pos (by decide), show (27 - 1) / 26 = 1 by decide, ltr_pos (by decide), show (1 - 1) / 26 = 0 by decide, ltr_zero]
  rfl
theorem num_703 : isNum 3 [65, 65, 65] 703 := by
  refine ⟨by decide, by decide, ?_⟩
  show (ltr 703).map up = _
  rw [ltr_703]; rfl
/-- A law holds. -/
def TrueB (w : World) (e : Ending) (w' : World) : Prop := e = .returned (.bool true) ∧ Below w.heap.size w w'
set_option maxRecDepth 100000 in
set_option maxHeartbeats 1000000 in
theorem known_any (w : World) (hW : LaidW w) : Calls Tryd.prog 16 #[] w (TrueB w) := by
  have cF : ∀ w', LaidW w' → Calls Tryd.prog 14 #[.int .i64 4, .int .i64 1994] w' (fun e w'' => e = .returned (.tuple #[.string ⟨#[109, 99, 109, 120, 99, 105, 118]⟩, .int .i64 0]) ∧ Below w'.heap.size w' w'') := fun w' h => by
    have := format_any 4 1994 w' h
    unfold FmtR at this
    rw [rmn_1994, show fmtE 4 1994 = 0 by decide] at this
    exact this
  have cP : ∀ w', LaidW w' → Calls Tryd.prog 18 #[.int .i64 3, .string ⟨#[65, 65, 65]⟩] w' (fun e w'' => e = .returned (.tuple #[.int .i64 703, .int .i64 0]) ∧ Below w'.heap.size w' w'') := fun w' h => by
    have := parse_any 3 [65, 65, 65] (by decide) (by decide) w' h
    unfold ParR at this
    rw [prs_num (by decide) num_703] at this
    exact this
  go_enter Tryd.func16, Tryd.ntmps16
  go_wp2_with fail
  refine (cF _ hW).mono ?_
  rintro e w1 ⟨rfl, hb1⟩
  have hW1 := hW.below hb1
  go_wp2_with (go_at_call 18; (with_reducible refine (cP _ hW1).mono ?_); rintro e w2 ⟨rfl, hb2⟩)
  go_ret
  exact ⟨rfl, chain hb1 hb2⟩
theorem bs_ex (s : ByteArray) : ∃ l, s = bs l := ⟨s.data.toList, by simp [bs]⟩
set_option maxRecDepth 100000 in
theorem cut_any (l : List UInt8) (hl : l.length ≤ 9223372036854775807) (w : World) : Calls Tryd.prog 17 #[.string (bs l)] w fun e w' => e = .returned (.string (bs (l.take 40))) ∧ w = w' := by
  have hz := bs_size l
  obtain ⟨n, hn⟩ : ∃ n, (bs l).size = n := ⟨_, rfl⟩
  rw [hn] at hz
  by_cases h : n ≤ 40
  · have hm : min (n : Int) 40 = (n : Int) := by omega
    have HX := Lib.hid (show (bs l).extract 0 n = bs (l.take 40) by rw [ext_bs, List.take_of_length_le (by omega), List.take_of_length_le (by omega)])
    have HY := Lib.hid (show bs l = bs (l.take 40) by rw [List.take_of_length_le (by omega)])
    have HN := Lib.hid hn
    clear hz
    go_enter Tryd.func17, Tryd.ntmps17
    go_wp2
    go_ret
    first
      | (rw [← HX.out]; exact ⟨rfl, rfl⟩)
      | (rw [← HY.out]; exact ⟨rfl, rfl⟩)
  · have hm : min (n : Int) 40 = 40 := by omega
    have h40 : (40 : Int) ≤ (n : Int) := by omega
    have hnm : (n : Int) ≤ 9223372036854775807 := by omega
    have HX := Lib.hid (show (bs l).extract 0 40 = bs (l.take 40) by rw [ext_bs])
    clear hz h hl
    go_enter Tryd.func17, Tryd.ntmps17
    go_wp2
    go_ret
    rw [← HX.out]
    exact ⟨rfl, rfl⟩
theorem take40 (l : List UInt8) : (l.take 40).length ≤ 40 := by rw [List.length_take]; omega
theorem chain4 {w a b c d : World} (h1 : Below w.heap.size w a) (h2 : Below a.heap.size a b) (h3 : Below b.heap.size b c) (h4 : Below c.heap.size c d) : Below w.heap.size w d := chain (chain3 h1 h2 h3) h4
set_option maxRecDepth 100000 in
set_option maxHeartbeats 2000000 in
theorem formats_yes (f n : Int) (h : Nu9.kindOk f) (w : World) (hW : LaidW w) : Calls Tryd.prog 3 #[.int .i64 f, .int .i64 n] w (TrueB w) := by
  have cR : ∀ w', Calls Tryd.prog 12 #[.int .i64 f] w' (fun e w'' => e = .returned (.tuple #[.int .i64 (least f), .int .i64 (most f), .int .i64 0]) ∧ w' = w'') := fun w' => by
    have := range_any f w'
    unfold RngR rngV at this
    rw [if_pos h] at this
    exact this
  have cS : ∀ w', Calls Tryd.prog 13 #[.int .i64 f] w' (fun e w'' => e = .returned (.tuple #[.int .i64 (least f), .int .i64 (most f), .bool true]) ∧ w' = w'') := fun w' => by
    have := rrange_any f w'
    unfold RRngR rrngV at this
    rw [decide_eq_true h] at this
    exact this
  have cF := fun w' (h : LaidW w') => format_any f n w' h
  have cG := fun w' => rformat_any f n w'
  unfold FmtR at cF cG
  clear h
  generalize least f = a at cR cS
  generalize most f = b at cR cS
  generalize fmtS f n = S at cF cG
  generalize fmtE f n = E at cF cG
  have q : ((bs S).toList == (bs S).toList) = true := by simp
  have q' : ((bs S).toList != (bs S).toList) = false := by simp
  have p1 : (E != E) = false := by simp
  have p2 : (a != a) = false := by simp
  have p3 : (b != b) = false := by simp
  go_enter Tryd.func3, Tryd.ntmps3
  go_wp2_with (first | (go_at_call 12; (with_reducible refine (cR _).mono ?_); rintro e w' ⟨rfl, rfl⟩) | (go_at_call 13; (with_reducible refine (cS _).mono ?_); rintro e w' ⟨rfl, rfl⟩))
  refine (cF _ hW).mono ?_
  rintro e w1 ⟨rfl, hb1⟩
  have hW1 := hW.below hb1
  go_wp2_with fail
  refine (cG _).mono ?_
  rintro e w2 ⟨rfl, hb2⟩
  have hW2 := hW1.below hb2
  go_wp2_with (go_at_call 16; (with_reducible refine (known_any _ hW2).mono ?_); rintro e w3 ⟨rfl, hb3⟩)
  go_ret
  exact ⟨rfl, chain3 hb1 hb2 hb3⟩
set_option maxRecDepth 100000 in
set_option maxHeartbeats 2000000 in
theorem formats_no (f n : Int) (h : ¬ Nu9.kindOk f) (w : World) (hW : LaidW w) : Calls Tryd.prog 3 #[.int .i64 f, .int .i64 n] w (TrueB w) := by
  have cR : ∀ w', Calls Tryd.prog 12 #[.int .i64 f] w' (fun e w'' => e = .returned (.tuple #[.int .i64 (least f), .int .i64 (most f), .int .i64 3]) ∧ w' = w'') := fun w' => by
    have := range_any f w'
    unfold RngR rngV at this
    rw [if_neg h] at this
    exact this
  have cS : ∀ w', Calls Tryd.prog 13 #[.int .i64 f] w' (fun e w'' => e = .returned (.tuple #[.int .i64 (least f), .int .i64 (most f), .bool false]) ∧ w' = w'') := fun w' => by
    have := rrange_any f w'
    unfold RRngR rrngV at this
    rw [decide_eq_false h] at this
    exact this
  have cF := fun w' (h : LaidW w') => format_any f n w' h
  have cG := fun w' => rformat_any f n w'
  unfold FmtR at cF cG
  clear h
  generalize least f = a at cR cS
  generalize most f = b at cR cS
  generalize fmtS f n = S at cF cG
  generalize fmtE f n = E at cF cG
  have q : ((bs S).toList == (bs S).toList) = true := by simp
  have q' : ((bs S).toList != (bs S).toList) = false := by simp
  have p1 : (E != E) = false := by simp
  have p2 : (a != a) = false := by simp
  have p3 : (b != b) = false := by simp
  go_enter Tryd.func3, Tryd.ntmps3
  go_wp2_with (first | (go_at_call 12; (with_reducible refine (cR _).mono ?_); rintro e w' ⟨rfl, rfl⟩) | (go_at_call 13; (with_reducible refine (cS _).mono ?_); rintro e w' ⟨rfl, rfl⟩))
  refine (cF _ hW).mono ?_
  rintro e w1 ⟨rfl, hb1⟩
  have hW1 := hW.below hb1
  go_wp2_with fail
  refine (cG _).mono ?_
  rintro e w2 ⟨rfl, hb2⟩
  have hW2 := hW1.below hb2
  go_wp2_with (go_at_call 16; (with_reducible refine (known_any _ hW2).mono ?_); rintro e w3 ⟨rfl, hb3⟩)
  go_ret
  exact ⟨rfl, chain3 hb1 hb2 hb3⟩
theorem law_formats (f n : Int) (w : World) (hW : LaidW w) : Calls Tryd.prog 3 #[.int .i64 f, .int .i64 n] w (TrueB w) := by
  by_cases h : Nu9.kindOk f
  · exact formats_yes f n h w hW
  · exact formats_no f n h w hW
set_option maxRecDepth 100000 in
set_option maxHeartbeats 2000000 in
theorem law_parses (f : Int) (hwf : (Lit.int .i64 f).wf = true) (s : ByteArray) (hs : s.size ≤ maxLen) (w : World) (hW : LaidW w) : Calls Tryd.prog 4 #[.int .i64 f, .string s] w (TrueB w) := by
  obtain ⟨l, rfl⟩ := bs_ex s
  unfold maxLen at hs
  rw [bs_size] at hs
  have cC := fun w' => cut_any l hs w'
  have cP := fun w' (h : LaidW w') => parse_any f (l.take 40) hwf (take40 l) w' h
  have cQ := fun w' => rparse_any f (l.take 40) (take40 l) w'
  unfold ParR at cP cQ
  generalize (prs f (l.take 40)).1 = N at cP cQ
  generalize (prs f (l.take 40)).2 = E at cP cQ
  generalize l.take 40 = m at cC cP cQ
  have p1 : (N == N) = true := by simp
  have p2 : (E == E) = true := by simp
  go_enter Tryd.func4, Tryd.ntmps4
  go_wp2_with (go_at_call 17; (with_reducible refine (cC _).mono ?_); rintro e w' ⟨rfl, rfl⟩)
  refine (cP _ hW).mono ?_
  rintro e w1 ⟨rfl, hb1⟩
  have hW1 := hW.below hb1
  go_wp2_with fail
  refine (cQ _).mono ?_
  rintro e w2 ⟨rfl, hb2⟩
  have hW2 := hW1.below hb2
  go_wp2_with (go_at_call 16; (with_reducible refine (known_any _ hW2).mono ?_); rintro e w3 ⟨rfl, hb3⟩)
  go_ret
  exact ⟨by simp, chain3 hb1 hb2 hb3⟩
theorem fmt_len (f n : Int) (hf : f ≠ 7) (h : fmtE f n = 0) : 0 < (fmtS f n).length ∧ (fmtS f n).length ≤ 40 ∧ (1 ≤ f ∧ f ≤ 6) := by
  have hk : Nu9.kindOk f := by
    unfold fmtE at h
    by_cases hk : Nu9.kindOk f
    · exact hk
    · rw [if_neg hk] at h; omega
  have hk' : 1 ≤ f ∧ f ≤ 7 := hk
  have hf6 : 1 ≤ f ∧ f ≤ 6 := by omega
  refine ⟨?_, ?_, hf6⟩
  all_goals
    obtain ⟨N, rfl, h1, h2, h3⟩ := isNum_open ⟨hf6, h, rfl⟩
    rw [← h3]
    rcases (show f = 1 ∨ f = 2 ∨ f = 3 ∨ f = 4 ∨ f = 5 ∨ f = 6 by omega) with rfl | rfl | rfl | rfl | rfl | rfl
  · exact dec_pos N
  · rw [show least 2 = 1 from rfl] at h1; exact ltr_ne (by omega)
  · rw [show least 3 = 1 from rfl] at h1; show 0 < ((ltr N).map up).length; rw [List.length_map]; exact ltr_ne (by omega)
  · rw [show least 4 = 1 from rfl] at h1; exact rmn_pos N (by omega)
  · rw [show least 5 = 1 from rfl] at h1; show 0 < ((rmn N).map up).length; rw [List.length_map]; exact rmn_pos N (by omega)
  · show 0 < (dec N ++ sfx N).length; have := dec_pos N; simp; omega
  · rw [show most 1 = 999999 from rfl] at h2; have := dec_len 5 N (by omega); show (dec N).length ≤ 40; omega
  · rw [show most 2 = 999999 from rfl] at h2; have := ltr_len 5 N (by omega); show (ltr N).length ≤ 40; omega
  · rw [show most 3 = 999999 from rfl] at h2; have := ltr_len 5 N (by omega); show ((ltr N).map up).length ≤ 40; rw [List.length_map]; omega
  · rw [show most 4 = 3999 from rfl] at h2; have := rmn_len N (by omega); show (rmn N).length ≤ 40; omega
  · rw [show most 5 = 3999 from rfl] at h2; have := rmn_len N (by omega); show ((rmn N).map up).length ≤ 40; rw [List.length_map]; omega
  · rw [show most 6 = 999999 from rfl] at h2; have := dec_len 5 N (by omega); show (dec N ++ sfx N).length ≤ 40; rw [List.length_append, sfx_len]; omega
set_option maxRecDepth 100000 in
set_option maxHeartbeats 2000000 in
theorem law_inverse (f n : Int) (hwf : (Lit.int .i64 f).wf = true) (w : World) (hW : LaidW w) : Calls Tryd.prog 5 #[.int .i64 f, .int .i64 n] w (TrueB w) := by
  have cF := fun w' (h : LaidW w') => format_any f n w' h
  unfold FmtR at cF
  by_cases hgo : fmtE f n = 0 ∧ f ≠ 7
  · obtain ⟨hE, h7⟩ := hgo
    obtain ⟨l1, l2, l3⟩ := fmt_len f n h7 hE
    have hnum : isNum f (fmtS f n) n := ⟨l3, hE, rfl⟩
    have cP := fun w' (h : LaidW w') => parse_any f (fmtS f n) hwf l2 w' h
    unfold ParR at cP
    rw [prs_num (List.ne_nil_of_length_pos l1) hnum] at cP
    rw [hE] at cF
    have hz : 0 < (bs (fmtS f n)).size := by rw [bs_size]; exact l1
    have b7 : (f == 7) = false := neB h7
    have p1 : (n == n) = true := by simp
    clear hnum l1 l2 l3 h7 hE
    generalize fmtS f n = S at cF cP hz
    go_enter Tryd.func5, Tryd.ntmps5
    go_wp2_with fail
    refine (cF _ hW).mono ?_
    rintro e w1 ⟨rfl, hb1⟩
    have hW1 := hW.below hb1
    go_wp2_with fail
    refine (known_any _ hW1).mono ?_
    rintro e w2 ⟨rfl, hb2⟩
    have hW2 := hW1.below hb2
    go_wp2_with (go_at_call 18; (with_reducible refine (cP _ hW2).mono ?_); rintro e w3 ⟨rfl, hb3⟩)
    go_ret
    exact ⟨by simp, chain3 hb1 hb2 hb3⟩
  · generalize fmtS f n = S at cF
    generalize fmtE f n = E at cF hgo
    by_cases hE : E = 0
    · subst hE
      have h7 : f = 7 := Classical.byContradiction fun h => hgo ⟨rfl, h⟩
      have b7 : (f == 7) = true := by rw [h7]; rfl
      clear hgo h7
      go_enter Tryd.func5, Tryd.ntmps5
      go_wp2_with fail
      refine (cF _ hW).mono ?_
      rintro e w1 ⟨rfl, hb1⟩
      have hW1 := hW.below hb1
      go_wp2_with fail
      refine (known_any _ hW1).mono ?_
      rintro e w2 ⟨rfl, hb2⟩
      have hW2 := hW1.below hb2
      go_wp2_with (go_at_call 16; (with_reducible refine (known_any _ hW2).mono ?_); rintro e w3 ⟨rfl, hb3⟩)
      go_ret
      exact ⟨rfl, chain3 hb1 hb2 hb3⟩
    · have q' : (E != 0) = true := by simpa using hE
      clear hgo hE
      go_enter Tryd.func5, Tryd.ntmps5
      go_wp2_with fail
      refine (cF _ hW).mono ?_
      rintro e w1 ⟨rfl, hb1⟩
      have hW1 := hW.below hb1
      go_wp2_with fail
      refine (known_any _ hW1).mono ?_
      rintro e w2 ⟨rfl, hb2⟩
      have hW2 := hW1.below hb2
      go_wp2_with (go_at_call 16; (with_reducible refine (known_any _ hW2).mono ?_); rintro e w3 ⟨rfl, hb3⟩)
      go_ret
      exact ⟨rfl, chain3 hb1 hb2 hb3⟩
end Go.Proofs.YteahingapnijcaaDoor
