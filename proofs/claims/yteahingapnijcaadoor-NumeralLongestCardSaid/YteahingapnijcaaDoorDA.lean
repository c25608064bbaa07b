/- Layer 9: the law Longest. -/
import Derived.Test.YteahingapnijcaaDoorD9
namespace Go.Proofs.YteahingapnijcaaDoor
open Go.RowKit Go.Lib Go.Shelf Nu9

set_option maxRecDepth 100000 in
set_option maxHeartbeats 2000000 in
theorem lgst_err1 (f n : Int) (hn : n ≤ 2000) (hE : fmtE f n ≠ 0) (w : World) (hW : LaidW w) : Calls Tryd.prog 10 #[.int .i64 f, .int .i64 n] w (TrueB w) := by
  have c1 := fun w' (h : LaidW w') => longest_err f n hE w' h
  have c2 := fun w' => rformat_any f n w'
  have c3 := fun w' => rrange_any f w'
  unfold FmtR at c2
  unfold RRngR rrngV at c3
  generalize fmtS f n = S at c2
  generalize fmtE f n = E at c1 c2 hE
  generalize least f = a at c3
  generalize most f = b at c3
  generalize decide (Nu9.kindOk f) = k at c3
  have q' : (E != 0) = true := by simpa using hE
  have q2 : (E == E) = true := by simp
  clear hE
  go_enter Tryd.func10, Tryd.ntmps10
  go_wp2_with fail
  refine (c1 _ hW).mono ?_
  rintro e w1 ⟨rfl, hb1⟩
  have hW1 := hW.below hb1
  go_wp2_with fail
  refine (known_any _ hW1).mono ?_
  rintro e w2 ⟨rfl, hb2⟩
  go_wp2_with fail
  refine (c3 _).mono ?_
  rintro e w' ⟨rfl, rfl⟩
  go_wp2_with (go_at_call 15; (with_reducible refine (c2 _).mono ?_); rintro e w3 ⟨rfl, hb3⟩)
  go_ret
  exact ⟨by simp, chain3 hb1 hb2 hb3⟩
set_option maxRecDepth 100000 in
set_option maxHeartbeats 2000000 in
theorem lgst_err2 (f n : Int) (hn : 2000 < n) (v : Int) (hv : n % 2000 = v) (hE : fmtE f v ≠ 0) (w : World) (hW : LaidW w) : Calls Tryd.prog 10 #[.int .i64 f, .int .i64 n] w (TrueB w) := by
  have c1 := fun w' (h : LaidW w') => longest_err f v hE w' h
  have c2 := fun w' => rformat_any f v w'
  have c3 := fun w' => rrange_any f w'
  unfold FmtR at c2
  unfold RRngR rrngV at c3
  generalize fmtS f v = S at c2
  generalize fmtE f v = E at c1 c2 hE
  generalize least f = a at c3
  generalize most f = b at c3
  generalize decide (Nu9.kindOk f) = k at c3
  have q' : (E != 0) = true := by simpa using hE
  have q2 : (E == E) = true := by simp
  clear hE
  go_enter Tryd.func10, Tryd.ntmps10
  go_wp2_with fail
  refine (c1 _ hW).mono ?_
  rintro e w1 ⟨rfl, hb1⟩
  have hW1 := hW.below hb1
  go_wp2_with fail
  refine (known_any _ hW1).mono ?_
  rintro e w2 ⟨rfl, hb2⟩
  go_wp2_with fail
  refine (c3 _).mono ?_
  rintro e w' ⟨rfl, rfl⟩
  go_wp2_with (go_at_call 15; (with_reducible refine (c2 _).mono ?_); rintro e w3 ⟨rfl, hb3⟩)
  go_ret
  exact ⟨by simp, chain3 hb1 hb2 hb3⟩
set_option maxRecDepth 100000 in
set_option maxHeartbeats 4000000 in
theorem lgst_ok1 (f : Int) (m L : Nat) (hk : Nu9.kindOk f) (hL : least f = (L : Int)) (h1 : L ≤ m) (h2 : (m : Int) ≤ most f) (hm : m ≤ 2000) (w : World) (hW : LaidW w) : Calls Tryd.prog 10 #[.int .i64 f, .int .i64 (m : Int)] w (TrueB w) := by
  have c1 := fun w' (h : LaidW w') => longest_ok f m hk (by omega) h2 hm w' h
  rw [hL, show ((L : Nat) : Int).toNat = L by simp] at c1
  unfold LgstR at c1
  have c2 := fun w' => rformat_any f (m : Int) w'
  have hq := num_eq f m hk (by omega) h2
  unfold FmtR at c2
  rw [hq.2] at c2
  have c3 := fun w' => rrange_any f w'
  unfold RRngR rrngV at c3
  rw [hL] at c3
  have HB := Lib.hid (show ∀ k, L + k ≤ m → (num f (L + k)).length ≤ 40 from fun k hk' => num_le f (L + k) hk (by omega) (by omega))
  have HG := Lib.hid (show ∀ k, k ≤ m + 1 - L → (lg f L k).length ≤ 40 from fun k hk' => lg_len f L k 40 fun j hj => num_le f (L + j) hk (by omega) (by omega))
  have HC := Lib.hid (show ∀ k (w' : World), L + k ≤ m → Calls Tryd.prog 15 #[.int .i64 f, .int .i64 ((L : Int) + (k : Int))] w' (fun e w'' => e = .returned (.tuple #[.string (bs (num f (L + k))), .int .i64 0]) ∧ Below w'.heap.size w' w'') from fun k w' hk' => by
    have := rformat_any f ((L + k : Nat) : Int) w'
    unfold FmtR at this
    have hq := num_eq f (L + k) hk (by omega) (by omega)
    rw [hq.1, hq.2] at this
    rwa [show ((L + k : Nat) : Int) = (L : Int) + (k : Int) by omega] at this)
  generalize fmtS f (m : Int) = S0 at c2 hq
  generalize most f = b at c3 h2
  generalize decide (Nu9.kindOk f) = kk at c3
  have hLs : L ≤ 2000 := by omega
  clear hq hL hk h2
  go_enter Tryd.func10, Tryd.ntmps10
  go_wp2_with fail
  refine (c1 _ hW).mono ?_
  rintro e w1 ⟨rfl, hb1⟩
  have hW1 := hW.below hb1
  go_wp2_with fail
  refine (known_any _ hW1).mono ?_
  rintro e w2 ⟨rfl, hb2⟩
  go_wp2_with fail
  refine (c3 _).mono ?_
  rintro e w' ⟨rfl, rfl⟩
  go_wp2_with (go_at_call 15; (with_reducible refine (c2 _).mono ?_); rintro e w3 ⟨rfl, hb3⟩)
  have hb := chain3 hb1 hb2 hb3
  clear hb1 hb2 hb3 hW1 c1 c2 c3 hW
  go_loopw [12, 13, 14, 15] (fun s n _ _ wr => ∃ k : Nat, n = .int .i64 ((L : Int) + (k : Int)) ∧ k ≤ m + 1 - L ∧ s = .string (bs (lg f L k)) ∧ Below w.heap.size w wr) (fun _ n _ _ _ => (m + 1 - intOf n).toNat)
  case atStart => exact ⟨0, by simp, Nat.zero_le _, rfl, hb⟩
  case round =>
    clear hb
    obtain ⟨k, rfl, hkm, rfl, hbw⟩ := hrel
    have hsz := hbw.size
    by_cases hlt : L + k ≤ m
    · have z1 := HB.out k hlt
      have z2 := HG.out k hkm
      have cW := HC.out k wr hlt
      have hle : (L : Int) + (k : Int) ≤ (m : Int) := by omega
      by_cases hl : (lg f L k).length < (num f (L + k)).length
      · have HX := Lib.hid (lg_yes hl)
        rw [← bs_size] at z1 z2
        rw [← bs_size, ← bs_size] at hl
        generalize num f (L + k) = T at z1 cW hl HX
        generalize lg f L k = S at z2 hl
        go_wp2_with (go_at_call 15; (with_reducible refine cW.mono ?_); rintro e w2 ⟨rfl, hb2⟩)
        have HBB := Lib.hid (hbw.trans (hb2.mono hsz))
        go_roundw
        case rel => exact ⟨k + 1, by go_num, by omega, by rw [HX.out], HBB.out⟩
        case measure => simp [intOf]; omega
      · have HX := Lib.hid (lg_no hl)
        rw [← bs_size] at z1 z2
        rw [← bs_size, ← bs_size] at hl
        have hl' : decide ((bs (lg f L k)).size < (bs (num f (L + k))).size) = false := decide_eq_false hl
        generalize num f (L + k) = T at z1 cW hl hl'
        generalize lg f L k = S at z2 hl hl' HX
        go_wp2_with (go_at_call 15; (with_reducible refine cW.mono ?_); rintro e w2 ⟨rfl, hb2⟩)
        have HBB := Lib.hid (hbw.trans (hb2.mono hsz))
        go_roundw
        case rel => exact ⟨k + 1, by go_num, by omega, by rw [HX.out], HBB.out⟩
        case measure => simp [intOf]; omega
    · obtain rfl : k = m + 1 - L := by omega
      have hle : (m : Int) < (L : Int) + ((m + 1 - L : Nat) : Int) := by omega
      generalize lg f L (m + 1 - L) = S
      have p : ((bs S).toList == (bs S).toList) = true := by simp
      go_wp2
      go_ret
      exact ⟨by simp, hbw⟩
set_option maxRecDepth 100000 in
set_option maxHeartbeats 4000000 in
theorem lgst_ok2 (f n : Int) (m L : Nat) (hn : 2000 < n) (hv : n % 2000 = (m : Int)) (hk : Nu9.kindOk f) (hL : least f = (L : Int)) (h1 : L ≤ m) (h2 : (m : Int) ≤ most f) (hm : m ≤ 2000) (w : World) (hW : LaidW w) : Calls Tryd.prog 10 #[.int .i64 f, .int .i64 n] w (TrueB w) := by
  have c1 := fun w' (h : LaidW w') => longest_ok f m hk (by omega) h2 hm w' h
  rw [hL, show ((L : Nat) : Int).toNat = L by simp] at c1
  unfold LgstR at c1
  have c2 := fun w' => rformat_any f (m : Int) w'
  have hq := num_eq f m hk (by omega) h2
  unfold FmtR at c2
  rw [hq.2] at c2
  have c3 := fun w' => rrange_any f w'
  unfold RRngR rrngV at c3
  rw [hL] at c3
  have HB := Lib.hid (show ∀ k, L + k ≤ m → (num f (L + k)).length ≤ 40 from fun k hk' => num_le f (L + k) hk (by omega) (by omega))
  have HG := Lib.hid (show ∀ k, k ≤ m + 1 - L → (lg f L k).length ≤ 40 from fun k hk' => lg_len f L k 40 fun j hj => num_le f (L + j) hk (by omega) (by omega))
  have HC := Lib.hid (show ∀ k (w' : World), L + k ≤ m → Calls Tryd.prog 15 #[.int .i64 f, .int .i64 ((L : Int) + (k : Int))] w' (fun e w'' => e = .returned (.tuple #[.string (bs (num f (L + k))), .int .i64 0]) ∧ Below w'.heap.size w' w'') from fun k w' hk' => by
    have := rformat_any f ((L + k : Nat) : Int) w'
    unfold FmtR at this
    have hq := num_eq f (L + k) hk (by omega) (by omega)
    rw [hq.1, hq.2] at this
    rwa [show ((L + k : Nat) : Int) = (L : Int) + (k : Int) by omega] at this)
  generalize fmtS f (m : Int) = S0 at c2 hq
  generalize most f = b at c3 h2
  generalize decide (Nu9.kindOk f) = kk at c3
  have hLs : L ≤ 2000 := by omega
  clear hq hL hk h2
  go_enter Tryd.func10, Tryd.ntmps10
  go_wp2_with fail
  refine (c1 _ hW).mono ?_
  rintro e w1 ⟨rfl, hb1⟩
  have hW1 := hW.below hb1
  go_wp2_with fail
  refine (known_any _ hW1).mono ?_
  rintro e w2 ⟨rfl, hb2⟩
  go_wp2_with fail
  refine (c3 _).mono ?_
  rintro e w' ⟨rfl, rfl⟩
  go_wp2_with (go_at_call 15; (with_reducible refine (c2 _).mono ?_); rintro e w3 ⟨rfl, hb3⟩)
  have hb := chain3 hb1 hb2 hb3
  clear hb1 hb2 hb3 hW1 c1 c2 c3 hW
  go_loopw [12, 13, 14, 15] (fun s n _ _ wr => ∃ k : Nat, n = .int .i64 ((L : Int) + (k : Int)) ∧ k ≤ m + 1 - L ∧ s = .string (bs (lg f L k)) ∧ Below w.heap.size w wr) (fun _ n _ _ _ => (m + 1 - intOf n).toNat)
  case atStart => exact ⟨0, by simp, Nat.zero_le _, rfl, hb⟩
  case round =>
    clear hb
    obtain ⟨k, rfl, hkm, rfl, hbw⟩ := hrel
    have hsz := hbw.size
    by_cases hlt : L + k ≤ m
    · have z1 := HB.out k hlt
      have z2 := HG.out k hkm
      have cW := HC.out k wr hlt
      have hle : (L : Int) + (k : Int) ≤ (m : Int) := by omega
      by_cases hl : (lg f L k).length < (num f (L + k)).length
      · have HX := Lib.hid (lg_yes hl)
        rw [← bs_size] at z1 z2
        rw [← bs_size, ← bs_size] at hl
        generalize num f (L + k) = T at z1 cW hl HX
        generalize lg f L k = S at z2 hl
        go_wp2_with (go_at_call 15; (with_reducible refine cW.mono ?_); rintro e w2 ⟨rfl, hb2⟩)
        have HBB := Lib.hid (hbw.trans (hb2.mono hsz))
        go_roundw
        case rel => exact ⟨k + 1, by go_num, by omega, by rw [HX.out], HBB.out⟩
        case measure => simp [intOf]; omega
      · have HX := Lib.hid (lg_no hl)
        rw [← bs_size] at z1 z2
        rw [← bs_size, ← bs_size] at hl
        have hl' : decide ((bs (lg f L k)).size < (bs (num f (L + k))).size) = false := decide_eq_false hl
        generalize num f (L + k) = T at z1 cW hl hl'
        generalize lg f L k = S at z2 hl hl' HX
        go_wp2_with (go_at_call 15; (with_reducible refine cW.mono ?_); rintro e w2 ⟨rfl, hb2⟩)
        have HBB := Lib.hid (hbw.trans (hb2.mono hsz))
        go_roundw
        case rel => exact ⟨k + 1, by go_num, by omega, by rw [HX.out], HBB.out⟩
        case measure => simp [intOf]; omega
    · obtain rfl : k = m + 1 - L := by omega
      have hle : (m : Int) < (L : Int) + ((m + 1 - L : Nat) : Int) := by omega
      generalize lg f L (m + 1 - L) = S
      have p : ((bs S).toList == (bs S).toList) = true := by simp
      go_wp2
      go_ret
      exact ⟨by simp, hbw⟩
theorem law_longest (f n : Int) (w : World) (hW : LaidW w) : Calls Tryd.prog 10 #[.int .i64 f, .int .i64 n] w (TrueB w) := by
  have hlo : ∀ v : Int, fmtE f v = 0 → Nu9.kindOk f ∧ least f ≤ v ∧ v ≤ most f := by
    intro v h
    unfold fmtE at h
    by_cases hk : Nu9.kindOk f
    · rw [if_pos hk] at h
      by_cases hn : least f ≤ v ∧ v ≤ most f
      · exact ⟨hk, hn⟩
      · rw [if_neg hn] at h; omega
    · rw [if_neg hk] at h; omega
  have hl0 : 0 ≤ least f := by unfold least; split <;> decide
  obtain ⟨L, hL⟩ := Int.eq_ofNat_of_zero_le hl0
  by_cases hn : n ≤ 2000
  · by_cases hE : fmtE f n = 0
    · obtain ⟨hk, h1, h2⟩ := hlo n hE
      obtain ⟨m, rfl⟩ := Int.eq_ofNat_of_zero_le (show 0 ≤ n by omega)
      exact lgst_ok1 f m L hk hL (by omega) h2 (by omega) w hW
    · exact lgst_err1 f n hn hE w hW
  · by_cases hE : fmtE f (n % 2000) = 0
    · obtain ⟨hk, h1, h2⟩ := hlo _ hE
      obtain ⟨m, hm⟩ := Int.eq_ofNat_of_zero_le (show 0 ≤ n % 2000 by omega)
      exact lgst_ok2 f n m L (by omega) hm hk hL (by omega) (by omega) (by omega) w hW
    · exact lgst_err2 f n (by omega) _ rfl hE w hW
end Go.Proofs.YteahingapnijcaaDoor
