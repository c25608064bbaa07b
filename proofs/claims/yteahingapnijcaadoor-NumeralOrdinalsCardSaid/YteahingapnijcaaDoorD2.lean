/- Layer 9: Next, Convert; the laws Nexts and Ordinals. -/
import Derived.Test.YteahingapnijcaaDoorD1
namespace Go.Proofs.YteahingapnijcaaDoor
open Go.RowKit Go.Lib Go.Shelf Nu9

theorem prs_cases (f : Int) (l : List UInt8) : (prs f l).2 ≠ 0 ∨ ((prs f l).2 = 0 ∧ isNum f l (prs f l).1) := by
  by_cases hf : 1 ≤ f ∧ f ≤ 6
  · by_cases hl : l = []
    · left; rw [hl, prs_empty hf]; decide
    · by_cases h : ∃ N, isNum f l N
      · obtain ⟨N, hN⟩ := h
        right
        rw [prs_num hl hN]
        exact ⟨rfl, hN⟩
      · left; rw [prs_none hf hl h]; decide
  · left; rw [prs_kind l hf]; decide
theorem isNum_bd {f : Int} {l : List UInt8} {N : Int} (h : isNum f l N) : 0 ≤ N ∧ N ≤ 999999 := by
  obtain ⟨n, rfl, _, h2, _⟩ := isNum_open h
  have : most f ≤ 999999 := by unfold most; split <;> (try split) <;> decide
  omega
set_option maxRecDepth 100000 in
theorem next_err (f : Int) (l : List UInt8) (hwf : (Lit.int .i64 f).wf = true) (hl : l.length ≤ 40) (N E : Int) (hP : prs f l = (N, E)) (hE : E ≠ 0) (w : World) (hW : LaidW w) :
    Calls Tryd.prog 20 #[.int .i64 f, .string (bs l)] w fun e w' => e = .returned (.tuple #[.string ⟨#[]⟩, .int .i64 E]) ∧ Below w.heap.size w w' := by
  have cP := fun w' (h : LaidW w') => parse_any f l hwf hl w' h
  unfold ParR at cP
  rw [hP] at cP
  have q' : (E != 0) = true := by simpa using hE
  clear hP hE
  go_enter Tryd.func20, Tryd.ntmps20
  go_wp2_with (go_at_call 18; (with_reducible refine (cP _ hW).mono ?_); rintro e w1 ⟨rfl, hb1⟩)
  go_ret2
  exact ⟨rfl, hb1⟩
set_option maxRecDepth 100000 in
theorem next_ok (f : Int) (l : List UInt8) (hwf : (Lit.int .i64 f).wf = true) (hl : l.length ≤ 40) (N : Int) (hP : prs f l = (N, 0)) (h0 : 0 ≤ N) (h1 : N ≤ 999999) (w : World) (hW : LaidW w) :
    Calls Tryd.prog 20 #[.int .i64 f, .string (bs l)] w (FmtR f (N + 1) w) := by
  have cP := fun w' (h : LaidW w') => parse_any f l hwf hl w' h
  unfold ParR at cP
  rw [hP] at cP
  clear hP
  go_enter Tryd.func20, Tryd.ntmps20
  go_wp2_with fail
  refine (cP _ hW).mono ?_
  rintro e w1 ⟨rfl, hb1⟩
  have hW1 := hW.below hb1
  go_wp2_with (go_at_call 14; (with_reducible refine (format_any f (N + 1) _ hW1).mono ?_); rintro e w2 ⟨rfl, hb2⟩)
  go_ret2
  exact ⟨rfl, chain hb1 hb2⟩
set_option maxRecDepth 100000 in
theorem convert_err (f t : Int) (l : List UInt8) (hwf : (Lit.int .i64 f).wf = true) (hl : l.length ≤ 40) (N E : Int) (hP : prs f l = (N, E)) (hE : E ≠ 0) (w : World) (hW : LaidW w) :
    Calls Tryd.prog 21 #[.int .i64 f, .int .i64 t, .string (bs l)] w fun e w' => e = .returned (.tuple #[.string ⟨#[]⟩, .int .i64 E]) ∧ Below w.heap.size w w' := by
  have cP := fun w' (h : LaidW w') => parse_any f l hwf hl w' h
  unfold ParR at cP
  rw [hP] at cP
  have q' : (E != 0) = true := by simpa using hE
  clear hP hE
  go_enter Tryd.func21, Tryd.ntmps21
  go_wp2_with (go_at_call 18; (with_reducible refine (cP _ hW).mono ?_); rintro e w1 ⟨rfl, hb1⟩)
  go_ret2
  exact ⟨rfl, hb1⟩
set_option maxRecDepth 100000 in
theorem convert_ok (f t : Int) (l : List UInt8) (hwf : (Lit.int .i64 f).wf = true) (hl : l.length ≤ 40) (N : Int) (hP : prs f l = (N, 0)) (w : World) (hW : LaidW w) :
    Calls Tryd.prog 21 #[.int .i64 f, .int .i64 t, .string (bs l)] w (FmtR t N w) := by
  have cP := fun w' (h : LaidW w') => parse_any f l hwf hl w' h
  unfold ParR at cP
  rw [hP] at cP
  clear hP
  go_enter Tryd.func21, Tryd.ntmps21
  go_wp2_with fail
  refine (cP _ hW).mono ?_
  rintro e w1 ⟨rfl, hb1⟩
  have hW1 := hW.below hb1
  go_wp2_with (go_at_call 14; (with_reducible refine (format_any t N _ hW1).mono ?_); rintro e w2 ⟨rfl, hb2⟩)
  go_ret2
  exact ⟨rfl, chain hb1 hb2⟩
set_option maxRecDepth 100000 in
set_option maxHeartbeats 4000000 in
theorem law_nexts (f t : Int) (hwf : (Lit.int .i64 f).wf = true) (s : ByteArray) (hs : s.size ≤ maxLen) (w : World) (hW : LaidW w) : Calls Tryd.prog 6 #[.int .i64 f, .int .i64 t, .string s] w (TrueB w) := by
  obtain ⟨l, rfl⟩ := bs_ex s
  unfold maxLen at hs
  rw [bs_size] at hs
  have cC := fun w' => cut_any l hs w'
  have h40 := take40 l
  have cQ := fun w' => rparse_any f (l.take 40) h40 w'
  unfold ParR at cQ
  rcases prs_cases f (l.take 40) with hE | ⟨hE, hN⟩
  · obtain ⟨N, hNe⟩ : ∃ N, (prs f (l.take 40)).1 = N := ⟨_, rfl⟩
    obtain ⟨E, hEe⟩ : ∃ E, (prs f (l.take 40)).2 = E := ⟨_, rfl⟩
    have hP : prs f (l.take 40) = (N, E) := by rw [← hNe, ← hEe]
    rw [hEe] at hE
    have c1 := fun w' (h : LaidW w') => next_err f (l.take 40) hwf h40 N E hP hE w' h
    have c2 := fun w' (h : LaidW w') => convert_err f t (l.take 40) hwf h40 N E hP hE w' h
    rw [hP] at cQ
    have q' : (E != 0) = true := by simpa using hE
    have q2 : (E == E) = true := by simp
    clear hP hE hNe hEe h40
    generalize l.take 40 = m at cC cQ c1 c2
    go_enter Tryd.func6, Tryd.ntmps6
    go_wp2_with (go_at_call 17; (with_reducible refine (cC _).mono ?_); rintro e w' ⟨rfl, rfl⟩)
    refine (c1 _ hW).mono ?_
    rintro e w1 ⟨rfl, hb1⟩
    have hW1 := hW.below hb1
    go_wp2_with fail
    refine (c2 _ hW1).mono ?_
    rintro e w2 ⟨rfl, hb2⟩
    have hW2 := hW1.below hb2
    go_wp2_with fail
    refine (cQ _).mono ?_
    rintro e w3 ⟨rfl, hb3⟩
    have hW3 := hW2.below hb3
    go_wp2_with (go_at_call 16; (with_reducible refine (known_any _ hW3).mono ?_); rintro e w4 ⟨rfl, hb4⟩)
    go_ret
    exact ⟨by simp, chain4 hb1 hb2 hb3 hb4⟩
  · have hbd := isNum_bd hN
    obtain ⟨N, hNe⟩ : ∃ N, (prs f (l.take 40)).1 = N := ⟨_, rfl⟩
    have hP : prs f (l.take 40) = (N, 0) := by rw [← hNe, ← hE]
    rw [hNe] at hbd
    obtain ⟨n0, n1⟩ := hbd
    have c1 := fun w' (h : LaidW w') => next_ok f (l.take 40) hwf h40 N hP n0 n1 w' h
    have c2 := fun w' (h : LaidW w') => convert_ok f t (l.take 40) hwf h40 N hP w' h
    have c3 := fun w' => rformat_any f (N + 1) w'
    have c4 := fun w' => rformat_any t N w'
    unfold FmtR at c1 c2 c3 c4
    rw [hP] at cQ
    clear hP hE hNe hN h40
    generalize l.take 40 = m at cC cQ c1 c2
    generalize fmtS f (N + 1) = S1 at c1 c3
    generalize fmtE f (N + 1) = E1 at c1 c3
    generalize fmtS t N = S2 at c2 c4
    generalize fmtE t N = E2 at c2 c4
    have p1 : ((bs S1).toList == (bs S1).toList) = true := by simp
    have p2 : ((bs S2).toList == (bs S2).toList) = true := by simp
    have p3 : (E1 == E1) = true := by simp
    have p4 : (E2 == E2) = true := by simp
    go_enter Tryd.func6, Tryd.ntmps6
    go_wp2_with (go_at_call 17; (with_reducible refine (cC _).mono ?_); rintro e w' ⟨rfl, rfl⟩)
    refine (c1 _ hW).mono ?_
    rintro e w1 ⟨rfl, hb1⟩
    have hW1 := hW.below hb1
    go_wp2_with fail
    refine (c2 _ hW1).mono ?_
    rintro e w2 ⟨rfl, hb2⟩
    have hW2 := hW1.below hb2
    go_wp2_with fail
    refine (cQ _).mono ?_
    rintro e w3 ⟨rfl, hb3⟩
    have hW3 := hW2.below hb3
    go_wp2_with fail
    refine (known_any _ hW3).mono ?_
    rintro e w4 ⟨rfl, hb4⟩
    go_wp2_with fail
    refine (c3 _).mono ?_
    rintro e w5 ⟨rfl, hb5⟩
    go_wp2_with fail
    refine (c4 _).mono ?_
    rintro e w6 ⟨rfl, hb6⟩
    go_wp2
    go_ret
    exact ⟨by simp, chain (chain (chain4 hb1 hb2 hb3 hb4) hb5) hb6⟩
theorem fmt_out (f n : Int) (hf : f = 1 ∨ f = 6) (h : ¬ (least f ≤ n ∧ n ≤ 999999)) : fmtS f n = [] ∧ fmtE f n = 2 := by
  have hk : Nu9.kindOk f := by rcases hf with rfl | rfl <;> decide
  have hm : most f = 999999 := by rcases hf with rfl | rfl <;> rfl
  unfold fmtS fmtE
  rw [hm, if_neg (fun q => h q.2), if_pos hk, if_neg h]
  exact ⟨rfl, rfl⟩
theorem fmt_in (f : Int) (N : Nat) (hf : f = 1 ∨ f = 6) (h0 : 1 ≤ N) (h1 : N ≤ 999999) : fmtS f N = num f N ∧ fmtE f N = 0 := by
  have hk : Nu9.kindOk f := by rcases hf with rfl | rfl <;> decide
  have hm : most f = 999999 := by rcases hf with rfl | rfl <;> rfl
  have hl : least f ≤ 1 := by rcases hf with rfl | rfl <;> decide
  unfold fmtS fmtE
  rw [hm, if_pos ⟨hk, by omega, by omega⟩, if_pos hk, if_pos ⟨by omega, by omega⟩]
  exact ⟨rfl, rfl⟩
set_option maxRecDepth 100000 in
set_option maxHeartbeats 2000000 in
theorem ordinals_out (n : Int) (h : n < 1 ∨ 999999 < n) (w : World) (hW : LaidW w) : Calls Tryd.prog 11 #[.int .i64 n] w (TrueB w) := by
  have h6 := fmt_out 6 n (.inr rfl) (by rw [show least 6 = 1 from rfl]; omega)
  have c6 := fun w' (h : LaidW w') => format_any 6 n w' h
  have c1 := fun w' (h : LaidW w') => format_any 1 n w' h
  unfold FmtR at c6 c1
  rw [h6.1, h6.2] at c6
  clear h6
  generalize fmtS 1 n = S at c1
  generalize fmtE 1 n = E at c1
  rcases h with h | h
  all_goals
    go_enter Tryd.func11, Tryd.ntmps11
    go_wp2_with fail
    refine (c6 _ hW).mono ?_
    rintro e w1 ⟨rfl, hb1⟩
    have hW1 := hW.below hb1
    go_wp2_with fail
    refine (c1 _ hW1).mono ?_
    rintro e w2 ⟨rfl, hb2⟩
    have hW2 := hW1.below hb2
    go_wp2_with fail
    refine (known_any _ hW2).mono ?_
    rintro e w3 ⟨rfl, hb3⟩
    have hW3 := hW2.below hb3
    go_wp2_with (go_at_call 16; (with_reducible refine (known_any _ hW3).mono ?_); rintro e w4 ⟨rfl, hb4⟩)
    go_ret
    exact ⟨by simp, chain4 hb1 hb2 hb3 hb4⟩
theorem ext_tail (a b : List UInt8) : (bs (a ++ b)).extract (bs a).size (bs (a ++ b)).size = bs b := by
  apply ByteArray.ext
  apply Array.ext'
  rw [drop_ext, bs_list, bs_list, bs_size, List.drop_left]
theorem ext_head (a b : List UInt8) : (bs (a ++ b)).extract 0 (bs a).size = bs a := by
  rw [ext_bs, bs_size, List.take_left]
section
variable (N : Nat) (A B : ByteArray) (hd : B.size ≤ 6) (ha : A.size ≤ B.size + 2) (hb : B.size + 2 ≤ A.size) (hH : A.extract 0 B.size = B) (c6 : ∀ w', LaidW w' → Calls Tryd.prog 14 #[.int .i64 6, .int .i64 (N : Int)] w' fun e w'' => e = .returned (.tuple #[.string A, .int .i64 0]) ∧ Below w'.heap.size w' w'')
  (c1 : ∀ w', LaidW w' → Calls Tryd.prog 14 #[.int .i64 1, .int .i64 (N : Int)] w' fun e w'' => e = .returned (.tuple #[.string B, .int .i64 0]) ∧ Below w'.heap.size w' w'') (h1 : N ≤ 999999)
  include hd ha hb hH c6 c1 h1
set_option maxRecDepth 100000 in
set_option maxHeartbeats 2000000 in
theorem ord_ten (hT : A.extract B.size A.size = ⟨#[116, 104]⟩) (h : N / 10 % 10 = 1) (w : World) (hW : LaidW w) : Calls Tryd.prog 11 #[.int .i64 (N : Int)] w (TrueB w) := by
  have q1 : ((N : Int) / 10 % 10 != 1) = false := by have : (N : Int) / 10 % 10 = 1 := by omega
                                                     rw [this]; rfl
  clear h
  have q0 : ((A.size : Int) != (B.size : Int) + 2) = false := by simp; omega
  go_enter Tryd.func11, Tryd.ntmps11
  go_wp2_with fail
  refine (c6 _ hW).mono ?_
  rintro e w1 ⟨rfl, hb1⟩
  have hW1 := hW.below hb1
  go_wp2_with fail
  refine (c1 _ hW1).mono ?_
  rintro e w2 ⟨rfl, hb2⟩
  have hW2 := hW1.below hb2
  clear c6 c1
  go_wp2_with (go_at_call 16; (with_reducible refine (known_any _ hW2).mono ?_); rintro e w3 ⟨rfl, hb3⟩)
  go_ret
  exact ⟨by simp, chain3 hb1 hb2 hb3⟩
set_option maxRecDepth 100000 in
set_option maxHeartbeats 2000000 in
theorem ord_1 (hT : A.extract B.size A.size = ⟨#[115, 116]⟩) (h : ¬ N / 10 % 10 = 1) (h2 : N % 10 = 1) (w : World) (hW : LaidW w) : Calls Tryd.prog 11 #[.int .i64 (N : Int)] w (TrueB w) := by
  have q1 : ((N : Int) / 10 % 10 != 1) = true := by simp; omega
  have q2 : (N : Int) % 10 = 1 := by omega
  clear h h2
  have q0 : ((A.size : Int) != (B.size : Int) + 2) = false := by simp; omega
  go_enter Tryd.func11, Tryd.ntmps11
  go_wp2_with fail
  refine (c6 _ hW).mono ?_
  rintro e w1 ⟨rfl, hb1⟩
  have hW1 := hW.below hb1
  go_wp2_with fail
  refine (c1 _ hW1).mono ?_
  rintro e w2 ⟨rfl, hb2⟩
  have hW2 := hW1.below hb2
  clear c6 c1
  go_wp2_with (go_at_call 16; (with_reducible refine (known_any _ hW2).mono ?_); rintro e w3 ⟨rfl, hb3⟩)
  go_ret
  exact ⟨by simp, (chain3 hb1 hb2 hb3).alloc (by have := (chain3 hb1 hb2 hb3).size; omega) _⟩
set_option maxRecDepth 100000 in
set_option maxHeartbeats 2000000 in
theorem ord_2 (hT : A.extract B.size A.size = ⟨#[110, 100]⟩) (h : ¬ N / 10 % 10 = 1) (h2 : N % 10 = 2) (w : World) (hW : LaidW w) : Calls Tryd.prog 11 #[.int .i64 (N : Int)] w (TrueB w) := by
  have q1 : ((N : Int) / 10 % 10 != 1) = true := by simp; omega
  have q2 : (N : Int) % 10 = 2 := by omega
  clear h h2
  have q0 : ((A.size : Int) != (B.size : Int) + 2) = false := by simp; omega
  go_enter Tryd.func11, Tryd.ntmps11
  go_wp2_with fail
  refine (c6 _ hW).mono ?_
  rintro e w1 ⟨rfl, hb1⟩
  have hW1 := hW.below hb1
  go_wp2_with fail
  refine (c1 _ hW1).mono ?_
  rintro e w2 ⟨rfl, hb2⟩
  have hW2 := hW1.below hb2
  clear c6 c1
  go_wp2_with (go_at_call 16; (with_reducible refine (known_any _ hW2).mono ?_); rintro e w3 ⟨rfl, hb3⟩)
  go_ret
  exact ⟨by simp, (chain3 hb1 hb2 hb3).alloc (by have := (chain3 hb1 hb2 hb3).size; omega) _⟩
set_option maxRecDepth 100000 in
set_option maxHeartbeats 2000000 in
theorem ord_3 (hT : A.extract B.size A.size = ⟨#[114, 100]⟩) (h : ¬ N / 10 % 10 = 1) (h2 : N % 10 = 3) (w : World) (hW : LaidW w) : Calls Tryd.prog 11 #[.int .i64 (N : Int)] w (TrueB w) := by
  have q1 : ((N : Int) / 10 % 10 != 1) = true := by simp; omega
  have q2 : (N : Int) % 10 = 3 := by omega
  clear h h2
  have q0 : ((A.size : Int) != (B.size : Int) + 2) = false := by simp; omega
  go_enter Tryd.func11, Tryd.ntmps11
  go_wp2_with fail
  refine (c6 _ hW).mono ?_
  rintro e w1 ⟨rfl, hb1⟩
  have hW1 := hW.below hb1
  go_wp2_with fail
  refine (c1 _ hW1).mono ?_
  rintro e w2 ⟨rfl, hb2⟩
  have hW2 := hW1.below hb2
  clear c6 c1
  go_wp2_with (go_at_call 16; (with_reducible refine (known_any _ hW2).mono ?_); rintro e w3 ⟨rfl, hb3⟩)
  go_ret
  exact ⟨by simp, (chain3 hb1 hb2 hb3).alloc (by have := (chain3 hb1 hb2 hb3).size; omega) _⟩
set_option maxRecDepth 100000 in
set_option maxHeartbeats 2000000 in
theorem ord_lo (hT : A.extract B.size A.size = ⟨#[116, 104]⟩) (h : ¬ N / 10 % 10 = 1) (h2 : N % 10 = 0) (w : World) (hW : LaidW w) : Calls Tryd.prog 11 #[.int .i64 (N : Int)] w (TrueB w) := by
  have q1 : ((N : Int) / 10 % 10 != 1) = true := by simp; omega
  have q2 : (N : Int) % 10 = 0 := by omega
  clear h h2
  have q0 : ((A.size : Int) != (B.size : Int) + 2) = false := by simp; omega
  go_enter Tryd.func11, Tryd.ntmps11
  go_wp2_with fail
  refine (c6 _ hW).mono ?_
  rintro e w1 ⟨rfl, hb1⟩
  have hW1 := hW.below hb1
  go_wp2_with fail
  refine (c1 _ hW1).mono ?_
  rintro e w2 ⟨rfl, hb2⟩
  have hW2 := hW1.below hb2
  clear c6 c1
  go_wp2_with (go_at_call 16; (with_reducible refine (known_any _ hW2).mono ?_); rintro e w3 ⟨rfl, hb3⟩)
  go_ret
  exact ⟨by simp, chain3 hb1 hb2 hb3⟩
set_option maxRecDepth 100000 in
set_option maxHeartbeats 2000000 in
theorem ord_hi (hT : A.extract B.size A.size = ⟨#[116, 104]⟩) (h : ¬ N / 10 % 10 = 1) (h2 : 3 < N % 10) (w : World) (hW : LaidW w) : Calls Tryd.prog 11 #[.int .i64 (N : Int)] w (TrueB w) := by
  have q1 : ((N : Int) / 10 % 10 != 1) = true := by simp; omega
  have q2 : 3 < (N : Int) % 10 := by omega
  clear h h2
  have q0 : ((A.size : Int) != (B.size : Int) + 2) = false := by simp; omega
  go_enter Tryd.func11, Tryd.ntmps11
  go_wp2_with fail
  refine (c6 _ hW).mono ?_
  rintro e w1 ⟨rfl, hb1⟩
  have hW1 := hW.below hb1
  go_wp2_with fail
  refine (c1 _ hW1).mono ?_
  rintro e w2 ⟨rfl, hb2⟩
  have hW2 := hW1.below hb2
  clear c6 c1
  go_wp2_with (go_at_call 16; (with_reducible refine (known_any _ hW2).mono ?_); rintro e w3 ⟨rfl, hb3⟩)
  go_ret
  exact ⟨by simp, chain3 hb1 hb2 hb3⟩
end
theorem ordinals_in (N : Nat) (h0 : 1 ≤ N) (h1 : N ≤ 999999) (w : World) (hW : LaidW w) : Calls Tryd.prog 11 #[.int .i64 (N : Int)] w (TrueB w) := by
  have h6 := fmt_in 6 N (.inr rfl) h0 h1
  have h1' := fmt_in 1 N (.inl rfl) h0 h1
  have c6 := fun w' (h : LaidW w') => format_any 6 N w' h
  have c1 := fun w' (h : LaidW w') => format_any 1 N w' h
  unfold FmtR at c6 c1
  rw [h6.1, h6.2, show num 6 N = dec N ++ sfx N from rfl] at c6
  rw [h1'.1, h1'.2, show num 1 N = dec N from rfl] at c1
  have hd := dec_len 5 N (by omega)
  have hsz : (bs (dec N ++ sfx N)).size = (bs (dec N)).size + 2 := by rw [bs_size, bs_size, List.length_append, sfx_len]
  have hT := ext_tail (dec N) (sfx N)
  have hH := ext_head (dec N) (sfx N)
  rw [← bs_size] at hd
  by_cases q1 : N / 10 % 10 = 1
  · rw [show sfx N = [116, 104] by unfold sfx; rw [if_pos q1]] at hT c6 hH hsz
    exact ord_ten N _ _ hd (by omega) (by omega) hH c6 c1 h1 hT q1 w hW
  · by_cases r1 : N % 10 = 1
    · rw [show sfx N = [115, 116] by unfold sfx; rw [if_neg q1, if_pos r1]] at hT c6 hH hsz
      exact ord_1 N _ _ hd (by omega) (by omega) hH c6 c1 h1 hT q1 r1 w hW
    by_cases r2 : N % 10 = 2
    · rw [show sfx N = [110, 100] by unfold sfx; rw [if_neg q1, if_neg r1, if_pos r2]] at hT c6 hH hsz
      exact ord_2 N _ _ hd (by omega) (by omega) hH c6 c1 h1 hT q1 r2 w hW
    by_cases r3 : N % 10 = 3
    · rw [show sfx N = [114, 100] by unfold sfx; rw [if_neg q1, if_neg r1, if_neg r2, if_pos r3]] at hT c6 hH hsz
      exact ord_3 N _ _ hd (by omega) (by omega) hH c6 c1 h1 hT q1 r3 w hW
    rw [show sfx N = [116, 104] from sfx_th r1 r2 r3] at hT c6 hH hsz
    by_cases r0 : N % 10 = 0
    · exact ord_lo N _ _ hd (by omega) (by omega) hH c6 c1 h1 hT q1 r0 w hW
    · exact ord_hi N _ _ hd (by omega) (by omega) hH c6 c1 h1 hT q1 (by omega) w hW
theorem law_ordinals (n : Int) (w : World) (hW : LaidW w) : Calls Tryd.prog 11 #[.int .i64 n] w (TrueB w) := by
  by_cases h : n < 1 ∨ 999999 < n
  · exact ordinals_out n h w hW
  · obtain ⟨N, rfl⟩ := Int.eq_ofNat_of_zero_le (show 0 ≤ n by omega)
    exact ordinals_in N (by omega) (by omega) w hW
end Go.Proofs.YteahingapnijcaaDoor
