/- Layer 9: Parse. -/
import Derived.Test.YteahingapnijcaaDoorC3
namespace Go.Proofs.YteahingapnijcaaDoor
open Go.RowKit Go.Lib Go.Shelf Nu9

theorem bs_toList (l : List UInt8) : (bs l).toList = l := by rw [Lib.toList_data, bs_list]
theorem chain3 {w a b c : World} (h1 : Below w.heap.size w a) (h2 : Below a.heap.size a b) (h3 : Below b.heap.size b c) : Below w.heap.size w c := chain (chain h1 h2) h3
set_option maxRecDepth 100000 in
set_option maxHeartbeats 1000000 in
theorem parse_no (f : Int) (l : List UInt8) (hwf : (Lit.int .i64 f).wf = true) (h : ¬ (1 ≤ f ∧ f ≤ 6)) (w : World) : Calls Tryd.prog 18 #[.int .i64 f, .string (bs l)] w (ParR f l w) := by
  have HP := Lib.hid (prs_kind l h)
  have HN := Lib.hid (has_no h)
  clear h
  go_enter Tryd.func18, Tryd.ntmps18
  go_wp2_with fail
  refine (readers_any _).mono ?_
  rintro e w1 ⟨b, n, rfl, ho, hb1⟩
  obtain ⟨v, hlk⟩ := look_rn ho hwf HN.out
  clear ho
  go_wp2
  go_ret2
  unfold ParR
  rw [HP.out]
  exact ⟨rfl, hb1⟩
set_option maxRecDepth 100000 in
set_option maxHeartbeats 1000000 in
theorem parse_e1 (w : World) : Calls Tryd.prog 18 #[.int .i64 1, .string (bs [])] w (ParR 1 [] w) := by
  have HP := Lib.hid (prs_empty (f := 1) (by decide))
  have hie : (bs []).toList.isEmpty = true := by rw [bs_toList]; rfl
  go_enter Tryd.func18, Tryd.ntmps18
  go_wp2_with fail
  refine (readers_any _).mono ?_
  rintro e w1 ⟨b, n, rfl, ho, hb1⟩
  have hlk := look_r ho (f := 1) (by decide) (g := 44) rfl rfl
  clear ho
  go_wp2
  go_ret2
  unfold ParR
  rw [HP.out]
  exact ⟨rfl, hb1⟩
set_option maxRecDepth 100000 in
set_option maxHeartbeats 1000000 in
theorem parse_1 (l : List UInt8) (hl : l.length ≤ 40) (hne : l ≠ []) (w : World) (hW : LaidW w) : Calls Tryd.prog 18 #[.int .i64 1, .string (bs l)] w (ParR 1 l w) := by
  have hie : (bs l).toList.isEmpty = false := by rw [bs_toList]; simpa using hne
  have HNE := Lib.hid hne
  clear hne
  go_enter Tryd.func18, Tryd.ntmps18
  go_wp2_with fail
  refine (readers_any _).mono ?_
  rintro e w1 ⟨b, n, rfl, ho, hb1⟩
  have hlk := look_r ho (f := 1) (by decide) (g := 44) rfl rfl
  have hW1 := hW.below hb1
  clear ho
  go_wp2_with fail
  refine (r1_any l hl _).mono ?_
  rintro e w2 ⟨z, rfl, hz, hb2⟩
  have hW2 := hW1.below hb2
  have HZ := Lib.hid (prs_read (f := 1) (l := l) (z := z) (by decide) HNE.out (fun N hN => (hz (num1 hN).1).trans (num1 hN).2))
  clear hz
  go_wp2_with fail
  refine (format_any 1 z _ hW2).mono ?_
  rintro e w3 ⟨rfl, hb3⟩
  generalize fmtE 1 z = E at HZ ⊢
  generalize fmtS 1 z = S at HZ ⊢
  have HB := Lib.hid (chain3 hb1 hb2 hb3)
  by_cases hE : E = 0
  · subst hE
    by_cases hS : S = l
    · have HP := Lib.hid (HZ.out.trans (if_pos ⟨rfl, hS⟩))
      have q : ((bs S).toList == (bs l).toList) = true := by rw [hS]; simp
      have q' : ((bs S).toList != (bs l).toList) = false := by rw [hS]; simp
      clear HZ hS hb1 hb2 hb3 hW hW1 hW2 hlk
      go_wp2
      go_ret2
      unfold ParR
      rw [HP.out]
      exact ⟨rfl, HB.out⟩
    · have HP := Lib.hid (HZ.out.trans (if_neg (fun q => hS q.2)))
      have q : ((bs S).toList == (bs l).toList) = false := by rw [bs_toList, bs_toList]; simpa using hS
      have q' : ((bs S).toList != (bs l).toList) = true := by rw [bs_toList, bs_toList]; simpa using hS
      clear HZ hS hb1 hb2 hb3 hW hW1 hW2 hlk
      go_wp2
      go_ret2
      unfold ParR
      rw [HP.out]
      exact ⟨rfl, HB.out⟩
  · have HP := Lib.hid (HZ.out.trans (if_neg (fun q => hE q.1)))
    have q : (E == 0) = false := by simpa using hE
    have q' : (E != 0) = true := by simpa using hE
    clear HZ hE hb1 hb2 hb3 hW hW1 hW2 hlk
    go_wp2
    go_ret2
    unfold ParR
    rw [HP.out]
    exact ⟨rfl, HB.out⟩
set_option maxRecDepth 100000 in
set_option maxHeartbeats 1000000 in
theorem parse_e2 (w : World) : Calls Tryd.prog 18 #[.int .i64 2, .string (bs [])] w (ParR 2 [] w) := by
  have HP := Lib.hid (prs_empty (f := 2) (by decide))
  have hie : (bs []).toList.isEmpty = true := by rw [bs_toList]; rfl
  go_enter Tryd.func18, Tryd.ntmps18
  go_wp2_with fail
  refine (readers_any _).mono ?_
  rintro e w1 ⟨b, n, rfl, ho, hb1⟩
  have hlk := look_r ho (f := 2) (by decide) (g := 45) rfl rfl
  clear ho
  go_wp2
  go_ret2
  unfold ParR
  rw [HP.out]
  exact ⟨rfl, hb1⟩
set_option maxRecDepth 100000 in
set_option maxHeartbeats 1000000 in
theorem parse_2 (l : List UInt8) (hl : l.length ≤ 40) (hne : l ≠ []) (w : World) (hW : LaidW w) : Calls Tryd.prog 18 #[.int .i64 2, .string (bs l)] w (ParR 2 l w) := by
  have hie : (bs l).toList.isEmpty = false := by rw [bs_toList]; simpa using hne
  have HNE := Lib.hid hne
  clear hne
  go_enter Tryd.func18, Tryd.ntmps18
  go_wp2_with fail
  refine (readers_any _).mono ?_
  rintro e w1 ⟨b, n, rfl, ho, hb1⟩
  have hlk := look_r ho (f := 2) (by decide) (g := 45) rfl rfl
  have hW1 := hW.below hb1
  clear ho
  go_wp2_with fail
  refine (r2_any l (by omega) _).mono ?_
  rintro e w2 ⟨z, rfl, hz, hb2⟩
  have hW2 := hW1.below hb2
  have HZ := Lib.hid (prs_read (f := 2) (l := l) (z := z) (by decide) HNE.out (fun N hN => (hz (num2 hN).1).trans (num2 hN).2))
  clear hz
  go_wp2_with fail
  refine (format_any 2 z _ hW2).mono ?_
  rintro e w3 ⟨rfl, hb3⟩
  generalize fmtE 2 z = E at HZ ⊢
  generalize fmtS 2 z = S at HZ ⊢
  have HB := Lib.hid (chain3 hb1 hb2 hb3)
  by_cases hE : E = 0
  · subst hE
    by_cases hS : S = l
    · have HP := Lib.hid (HZ.out.trans (if_pos ⟨rfl, hS⟩))
      have q : ((bs S).toList == (bs l).toList) = true := by rw [hS]; simp
      have q' : ((bs S).toList != (bs l).toList) = false := by rw [hS]; simp
      clear HZ hS hb1 hb2 hb3 hW hW1 hW2 hlk
      go_wp2
      go_ret2
      unfold ParR
      rw [HP.out]
      exact ⟨rfl, HB.out⟩
    · have HP := Lib.hid (HZ.out.trans (if_neg (fun q => hS q.2)))
      have q : ((bs S).toList == (bs l).toList) = false := by rw [bs_toList, bs_toList]; simpa using hS
      have q' : ((bs S).toList != (bs l).toList) = true := by rw [bs_toList, bs_toList]; simpa using hS
      clear HZ hS hb1 hb2 hb3 hW hW1 hW2 hlk
      go_wp2
      go_ret2
      unfold ParR
      rw [HP.out]
      exact ⟨rfl, HB.out⟩
  · have HP := Lib.hid (HZ.out.trans (if_neg (fun q => hE q.1)))
    have q : (E == 0) = false := by simpa using hE
    have q' : (E != 0) = true := by simpa using hE
    clear HZ hE hb1 hb2 hb3 hW hW1 hW2 hlk
    go_wp2
    go_ret2
    unfold ParR
    rw [HP.out]
    exact ⟨rfl, HB.out⟩
set_option maxRecDepth 100000 in
set_option maxHeartbeats 1000000 in
theorem parse_e3 (w : World) : Calls Tryd.prog 18 #[.int .i64 3, .string (bs [])] w (ParR 3 [] w) := by
  have HP := Lib.hid (prs_empty (f := 3) (by decide))
  have hie : (bs []).toList.isEmpty = true := by rw [bs_toList]; rfl
  go_enter Tryd.func18, Tryd.ntmps18
  go_wp2_with fail
  refine (readers_any _).mono ?_
  rintro e w1 ⟨b, n, rfl, ho, hb1⟩
  have hlk := look_r ho (f := 3) (by decide) (g := 46) rfl rfl
  clear ho
  go_wp2
  go_ret2
  unfold ParR
  rw [HP.out]
  exact ⟨rfl, hb1⟩
set_option maxRecDepth 100000 in
set_option maxHeartbeats 1000000 in
theorem parse_3 (l : List UInt8) (hl : l.length ≤ 40) (hne : l ≠ []) (w : World) (hW : LaidW w) : Calls Tryd.prog 18 #[.int .i64 3, .string (bs l)] w (ParR 3 l w) := by
  have hie : (bs l).toList.isEmpty = false := by rw [bs_toList]; simpa using hne
  have HNE := Lib.hid hne
  clear hne
  go_enter Tryd.func18, Tryd.ntmps18
  go_wp2_with fail
  refine (readers_any _).mono ?_
  rintro e w1 ⟨b, n, rfl, ho, hb1⟩
  have hlk := look_r ho (f := 3) (by decide) (g := 46) rfl rfl
  have hW1 := hW.below hb1
  clear ho
  go_wp2_with fail
  refine (r3_any l hl _ hW1).mono ?_
  rintro e w2 ⟨z, rfl, hz, hb2⟩
  have hW2 := hW1.below hb2
  have HZ := Lib.hid (prs_read (f := 3) (l := l) (z := z) (by decide) HNE.out (fun N hN => (hz (num3 hN).1).trans (num3 hN).2))
  clear hz
  go_wp2_with fail
  refine (format_any 3 z _ hW2).mono ?_
  rintro e w3 ⟨rfl, hb3⟩
  generalize fmtE 3 z = E at HZ ⊢
  generalize fmtS 3 z = S at HZ ⊢
  have HB := Lib.hid (chain3 hb1 hb2 hb3)
  by_cases hE : E = 0
  · subst hE
    by_cases hS : S = l
    · have HP := Lib.hid (HZ.out.trans (if_pos ⟨rfl, hS⟩))
      have q : ((bs S).toList == (bs l).toList) = true := by rw [hS]; simp
      have q' : ((bs S).toList != (bs l).toList) = false := by rw [hS]; simp
      clear HZ hS hb1 hb2 hb3 hW hW1 hW2 hlk
      go_wp2
      go_ret2
      unfold ParR
      rw [HP.out]
      exact ⟨rfl, HB.out⟩
    · have HP := Lib.hid (HZ.out.trans (if_neg (fun q => hS q.2)))
      have q : ((bs S).toList == (bs l).toList) = false := by rw [bs_toList, bs_toList]; simpa using hS
      have q' : ((bs S).toList != (bs l).toList) = true := by rw [bs_toList, bs_toList]; simpa using hS
      clear HZ hS hb1 hb2 hb3 hW hW1 hW2 hlk
      go_wp2
      go_ret2
      unfold ParR
      rw [HP.out]
      exact ⟨rfl, HB.out⟩
  · have HP := Lib.hid (HZ.out.trans (if_neg (fun q => hE q.1)))
    have q : (E == 0) = false := by simpa using hE
    have q' : (E != 0) = true := by simpa using hE
    clear HZ hE hb1 hb2 hb3 hW hW1 hW2 hlk
    go_wp2
    go_ret2
    unfold ParR
    rw [HP.out]
    exact ⟨rfl, HB.out⟩
set_option maxRecDepth 100000 in
set_option maxHeartbeats 1000000 in
theorem parse_e4 (w : World) : Calls Tryd.prog 18 #[.int .i64 4, .string (bs [])] w (ParR 4 [] w) := by
  have HP := Lib.hid (prs_empty (f := 4) (by decide))
  have hie : (bs []).toList.isEmpty = true := by rw [bs_toList]; rfl
  go_enter Tryd.func18, Tryd.ntmps18
  go_wp2_with fail
  refine (readers_any _).mono ?_
  rintro e w1 ⟨b, n, rfl, ho, hb1⟩
  have hlk := look_r ho (f := 4) (by decide) (g := 48) rfl rfl
  clear ho
  go_wp2
  go_ret2
  unfold ParR
  rw [HP.out]
  exact ⟨rfl, hb1⟩
set_option maxRecDepth 100000 in
set_option maxHeartbeats 1000000 in
theorem parse_4 (l : List UInt8) (hl : l.length ≤ 40) (hne : l ≠ []) (w : World) (hW : LaidW w) : Calls Tryd.prog 18 #[.int .i64 4, .string (bs l)] w (ParR 4 l w) := by
  have hie : (bs l).toList.isEmpty = false := by rw [bs_toList]; simpa using hne
  have HNE := Lib.hid hne
  clear hne
  go_enter Tryd.func18, Tryd.ntmps18
  go_wp2_with fail
  refine (readers_any _).mono ?_
  rintro e w1 ⟨b, n, rfl, ho, hb1⟩
  have hlk := look_r ho (f := 4) (by decide) (g := 48) rfl rfl
  have hW1 := hW.below hb1
  clear ho
  go_wp2_with fail
  refine (r4_any l (by omega) _ hW1).mono ?_
  rintro e w2 ⟨z, rfl, hz, hb2⟩
  have hW2 := hW1.below hb2
  have HZ := Lib.hid (prs_read (f := 4) (l := l) (z := z) (by decide) HNE.out (fun N hN => (hz (num4 hN).1).trans (num4 hN).2))
  clear hz
  go_wp2_with fail
  refine (format_any 4 z _ hW2).mono ?_
  rintro e w3 ⟨rfl, hb3⟩
  generalize fmtE 4 z = E at HZ ⊢
  generalize fmtS 4 z = S at HZ ⊢
  have HB := Lib.hid (chain3 hb1 hb2 hb3)
  by_cases hE : E = 0
  · subst hE
    by_cases hS : S = l
    · have HP := Lib.hid (HZ.out.trans (if_pos ⟨rfl, hS⟩))
      have q : ((bs S).toList == (bs l).toList) = true := by rw [hS]; simp
      have q' : ((bs S).toList != (bs l).toList) = false := by rw [hS]; simp
      clear HZ hS hb1 hb2 hb3 hW hW1 hW2 hlk
      go_wp2
      go_ret2
      unfold ParR
      rw [HP.out]
      exact ⟨rfl, HB.out⟩
    · have HP := Lib.hid (HZ.out.trans (if_neg (fun q => hS q.2)))
      have q : ((bs S).toList == (bs l).toList) = false := by rw [bs_toList, bs_toList]; simpa using hS
      have q' : ((bs S).toList != (bs l).toList) = true := by rw [bs_toList, bs_toList]; simpa using hS
      clear HZ hS hb1 hb2 hb3 hW hW1 hW2 hlk
      go_wp2
      go_ret2
      unfold ParR
      rw [HP.out]
      exact ⟨rfl, HB.out⟩
  · have HP := Lib.hid (HZ.out.trans (if_neg (fun q => hE q.1)))
    have q : (E == 0) = false := by simpa using hE
    have q' : (E != 0) = true := by simpa using hE
    clear HZ hE hb1 hb2 hb3 hW hW1 hW2 hlk
    go_wp2
    go_ret2
    unfold ParR
    rw [HP.out]
    exact ⟨rfl, HB.out⟩
set_option maxRecDepth 100000 in
set_option maxHeartbeats 1000000 in
theorem parse_e5 (w : World) : Calls Tryd.prog 18 #[.int .i64 5, .string (bs [])] w (ParR 5 [] w) := by
  have HP := Lib.hid (prs_empty (f := 5) (by decide))
  have hie : (bs []).toList.isEmpty = true := by rw [bs_toList]; rfl
  go_enter Tryd.func18, Tryd.ntmps18
  go_wp2_with fail
  refine (readers_any _).mono ?_
  rintro e w1 ⟨b, n, rfl, ho, hb1⟩
  have hlk := look_r ho (f := 5) (by decide) (g := 49) rfl rfl
  clear ho
  go_wp2
  go_ret2
  unfold ParR
  rw [HP.out]
  exact ⟨rfl, hb1⟩
set_option maxRecDepth 100000 in
set_option maxHeartbeats 1000000 in
theorem parse_5 (l : List UInt8) (hl : l.length ≤ 40) (hne : l ≠ []) (w : World) (hW : LaidW w) : Calls Tryd.prog 18 #[.int .i64 5, .string (bs l)] w (ParR 5 l w) := by
  have hie : (bs l).toList.isEmpty = false := by rw [bs_toList]; simpa using hne
  have HNE := Lib.hid hne
  clear hne
  go_enter Tryd.func18, Tryd.ntmps18
  go_wp2_with fail
  refine (readers_any _).mono ?_
  rintro e w1 ⟨b, n, rfl, ho, hb1⟩
  have hlk := look_r ho (f := 5) (by decide) (g := 49) rfl rfl
  have hW1 := hW.below hb1
  clear ho
  go_wp2_with fail
  refine (r5_any l hl _ hW1).mono ?_
  rintro e w2 ⟨z, rfl, hz, hb2⟩
  have hW2 := hW1.below hb2
  have HZ := Lib.hid (prs_read (f := 5) (l := l) (z := z) (by decide) HNE.out (fun N hN => (hz (num5 hN).1).trans (num5 hN).2))
  clear hz
  go_wp2_with fail
  refine (format_any 5 z _ hW2).mono ?_
  rintro e w3 ⟨rfl, hb3⟩
  generalize fmtE 5 z = E at HZ ⊢
  generalize fmtS 5 z = S at HZ ⊢
  have HB := Lib.hid (chain3 hb1 hb2 hb3)
  by_cases hE : E = 0
  · subst hE
    by_cases hS : S = l
    · have HP := Lib.hid (HZ.out.trans (if_pos ⟨rfl, hS⟩))
      have q : ((bs S).toList == (bs l).toList) = true := by rw [hS]; simp
      have q' : ((bs S).toList != (bs l).toList) = false := by rw [hS]; simp
      clear HZ hS hb1 hb2 hb3 hW hW1 hW2 hlk
      go_wp2
      go_ret2
      unfold ParR
      rw [HP.out]
      exact ⟨rfl, HB.out⟩
    · have HP := Lib.hid (HZ.out.trans (if_neg (fun q => hS q.2)))
      have q : ((bs S).toList == (bs l).toList) = false := by rw [bs_toList, bs_toList]; simpa using hS
      have q' : ((bs S).toList != (bs l).toList) = true := by rw [bs_toList, bs_toList]; simpa using hS
      clear HZ hS hb1 hb2 hb3 hW hW1 hW2 hlk
      go_wp2
      go_ret2
      unfold ParR
      rw [HP.out]
      exact ⟨rfl, HB.out⟩
  · have HP := Lib.hid (HZ.out.trans (if_neg (fun q => hE q.1)))
    have q : (E == 0) = false := by simpa using hE
    have q' : (E != 0) = true := by simpa using hE
    clear HZ hE hb1 hb2 hb3 hW hW1 hW2 hlk
    go_wp2
    go_ret2
    unfold ParR
    rw [HP.out]
    exact ⟨rfl, HB.out⟩
set_option maxRecDepth 100000 in
set_option maxHeartbeats 1000000 in
theorem parse_e6 (w : World) : Calls Tryd.prog 18 #[.int .i64 6, .string (bs [])] w (ParR 6 [] w) := by
  have HP := Lib.hid (prs_empty (f := 6) (by decide))
  have hie : (bs []).toList.isEmpty = true := by rw [bs_toList]; rfl
  go_enter Tryd.func18, Tryd.ntmps18
  go_wp2_with fail
  refine (readers_any _).mono ?_
  rintro e w1 ⟨b, n, rfl, ho, hb1⟩
  have hlk := look_r ho (f := 6) (by decide) (g := 50) rfl rfl
  clear ho
  go_wp2
  go_ret2
  unfold ParR
  rw [HP.out]
  exact ⟨rfl, hb1⟩
set_option maxRecDepth 100000 in
set_option maxHeartbeats 1000000 in
theorem parse_6 (l : List UInt8) (hl : l.length ≤ 40) (hne : l ≠ []) (w : World) (hW : LaidW w) : Calls Tryd.prog 18 #[.int .i64 6, .string (bs l)] w (ParR 6 l w) := by
  have hie : (bs l).toList.isEmpty = false := by rw [bs_toList]; simpa using hne
  have HNE := Lib.hid hne
  clear hne
  go_enter Tryd.func18, Tryd.ntmps18
  go_wp2_with fail
  refine (readers_any _).mono ?_
  rintro e w1 ⟨b, n, rfl, ho, hb1⟩
  have hlk := look_r ho (f := 6) (by decide) (g := 50) rfl rfl
  have hW1 := hW.below hb1
  clear ho
  go_wp2_with fail
  refine (r6_any l hl _).mono ?_
  rintro e w2 ⟨z, rfl, hz, hb2⟩
  have hW2 := hW1.below hb2
  have HZ := Lib.hid (prs_read (f := 6) (l := l) (z := z) (by decide) HNE.out (fun N hN => (hz (num6 hN).1).trans (num6 hN).2))
  clear hz
  go_wp2_with fail
  refine (format_any 6 z _ hW2).mono ?_
  rintro e w3 ⟨rfl, hb3⟩
  generalize fmtE 6 z = E at HZ ⊢
  generalize fmtS 6 z = S at HZ ⊢
  have HB := Lib.hid (chain3 hb1 hb2 hb3)
  by_cases hE : E = 0
  · subst hE
    by_cases hS : S = l
    · have HP := Lib.hid (HZ.out.trans (if_pos ⟨rfl, hS⟩))
      have q : ((bs S).toList == (bs l).toList) = true := by rw [hS]; simp
      have q' : ((bs S).toList != (bs l).toList) = false := by rw [hS]; simp
      clear HZ hS hb1 hb2 hb3 hW hW1 hW2 hlk
      go_wp2
      go_ret2
      unfold ParR
      rw [HP.out]
      exact ⟨rfl, HB.out⟩
    · have HP := Lib.hid (HZ.out.trans (if_neg (fun q => hS q.2)))
      have q : ((bs S).toList == (bs l).toList) = false := by rw [bs_toList, bs_toList]; simpa using hS
      have q' : ((bs S).toList != (bs l).toList) = true := by rw [bs_toList, bs_toList]; simpa using hS
      clear HZ hS hb1 hb2 hb3 hW hW1 hW2 hlk
      go_wp2
      go_ret2
      unfold ParR
      rw [HP.out]
      exact ⟨rfl, HB.out⟩
  · have HP := Lib.hid (HZ.out.trans (if_neg (fun q => hE q.1)))
    have q : (E == 0) = false := by simpa using hE
    have q' : (E != 0) = true := by simpa using hE
    clear HZ hE hb1 hb2 hb3 hW hW1 hW2 hlk
    go_wp2
    go_ret2
    unfold ParR
    rw [HP.out]
    exact ⟨rfl, HB.out⟩
theorem parse_any (f : Int) (l : List UInt8) (hwf : (Lit.int .i64 f).wf = true) (hl : l.length ≤ 40) (w : World) (hW : LaidW w) : Calls Tryd.prog 18 #[.int .i64 f, .string (bs l)] w (ParR f l w) := by
  by_cases h : 1 ≤ f ∧ f ≤ 6
  · by_cases hne : l = []
    · subst hne
      rcases (show f = 1 ∨ f = 2 ∨ f = 3 ∨ f = 4 ∨ f = 5 ∨ f = 6 by omega) with rfl | rfl | rfl | rfl | rfl | rfl
      · exact parse_e1 w
      · exact parse_e2 w
      · exact parse_e3 w
      · exact parse_e4 w
      · exact parse_e5 w
      · exact parse_e6 w
    · rcases (show f = 1 ∨ f = 2 ∨ f = 3 ∨ f = 4 ∨ f = 5 ∨ f = 6 by omega) with rfl | rfl | rfl | rfl | rfl | rfl
      · exact parse_1 l hl hne w hW
      · exact parse_2 l hl hne w hW
      · exact parse_3 l hl hne w hW
      · exact parse_4 l hl hne w hW
      · exact parse_5 l hl hne w hW
      · exact parse_6 l hl hne w hW
  · exact parse_no f l hwf h w
end Go.Proofs.YteahingapnijcaaDoor
