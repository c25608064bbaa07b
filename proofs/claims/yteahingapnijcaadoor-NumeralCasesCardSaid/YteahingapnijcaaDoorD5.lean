/- Layer 9: the law Cases, walked. -/
import Derived.Test.YteahingapnijcaaDoorD4
import Derived.IntWalk
namespace Go.Proofs.YteahingapnijcaaDoor
open Go.RowKit Go.Lib Go.Shelf Nu9

theorem fmt_pair (f g n : Int) (h : (f = 2 ∧ g = 3) ∨ (f = 4 ∧ g = 5)) : fmtE g n = fmtE f n ∧ fmtS g n = (fmtS f n).map up ∧ ltrs (fmtS f n) ∧ (f = 4 → runs4 (fmtS f n) 0 0 = true) := by
  have hf : Nu9.kindOk f := by rcases h with ⟨rfl, _⟩ | ⟨rfl, _⟩ <;> decide
  have hg : Nu9.kindOk g := by rcases h with ⟨_, rfl⟩ | ⟨_, rfl⟩ <;> decide
  have hl : least g = least f := by rcases h with ⟨rfl, rfl⟩ | ⟨rfl, rfl⟩ <;> rfl
  have hm : most g = most f := by rcases h with ⟨rfl, rfl⟩ | ⟨rfl, rfl⟩ <;> rfl
  unfold fmtE fmtS
  rw [if_pos hf, if_pos hg, hl, hm]
  refine ⟨rfl, ?_⟩
  by_cases hn : least f ≤ n ∧ n ≤ most f
  · rw [if_pos ⟨hg, hn⟩, if_pos ⟨hf, hn⟩]
    rcases h with ⟨rfl, rfl⟩ | ⟨rfl, rfl⟩
    · exact ⟨rfl, ltr_ltrs _, fun e => by cases e⟩
    · refine ⟨rfl, rmn_ltrs _, fun _ => rmn_runs _ ?_⟩
      have := hn.2
      rw [show most 4 = 3999 from rfl] at this
      omega
  · rw [if_neg (fun q => hn q.2), if_neg (fun q => hn q.2)]
    exact ⟨rfl, fun c hc => by simp at hc, fun _ => rfl⟩
/-- What the law is told of a format. -/
def PairR (f g n : Int) (s t : ByteArray) (E : Int) : Prop :=
  (∀ w', LaidW w' → Calls Tryd.prog 14 #[.int .i64 f, .int .i64 n] w' fun e w'' => e = .returned (.tuple #[.string s, .int .i64 E]) ∧ Below w'.heap.size w' w'') ∧
  (∀ w', LaidW w' → Calls Tryd.prog 14 #[.int .i64 g, .int .i64 n] w' fun e w'' => e = .returned (.tuple #[.string t, .int .i64 E]) ∧ Below w'.heap.size w' w'') ∧ Pair s t ∧ s.size ≤ 40 ∧ ltrs s.data.toList ∧ (f = 4 → runs4 s.data.toList 0 0 = true)
theorem pairR (f g n : Int) (h : (f = 2 ∧ g = 3) ∨ (f = 4 ∧ g = 5)) : ∃ s t E, PairR f g n s t E := by
  obtain ⟨h1, h2, h3, h4⟩ := fmt_pair f g n h
  refine ⟨bs (fmtS f n), bs ((fmtS f n).map up), fmtE f n, fun w' hW => format_any f n w' hW, fun w' hW => ?_, pair_bs _ h3, ?_, by rw [bs_list]; exact h3, by rw [bs_list]; exact h4⟩
  · have := format_any g n w' hW
    unfold FmtR at this
    rw [h1, h2] at this
    exact this
  · rw [bs_size]
    by_cases hE : fmtE f n = 0
    · exact (fmt_len f n (by omega) hE).2.1
    · unfold fmtS
      by_cases hc : Nu9.kindOk f ∧ least f ≤ n ∧ n ≤ most f
      · unfold fmtE at hE
        rw [if_pos hc.1, if_pos hc.2] at hE
        exact absurd rfl hE
      · rw [if_neg hc]; simp
theorem below_drewN {w wr : World} (h : Below w.heap.size w wr) (q : Nat) : Below w.heap.size w (wr.drewN q) := h.trans ⟨rfl, rfl, rfl, Nat.le_refl _, fun _ _ => rfl⟩
set_option maxRecDepth 100000 in
set_option maxHeartbeats 16000000 in
theorem law_cases (n : Int) (w : World) (hW : LaidW w) : Calls Tryd.prog 9 #[.int .i64 n] w (TrueB w) := by
  go_enter Tryd.func9, Tryd.ntmps9
  go_wp2_with fail
  refine (known_any _ hW).mono ?_
  rintro e w1 ⟨rfl, hb1⟩
  go_wp2
  go_loopw [3, 4, 5, 6, 7, 8, 9] (fun i _ _ _ _ _ _ wr => ∃ j : Nat, j ≤ 2 ∧ i = .int .i64 (j : Nat) ∧ Below w.heap.size w wr) (fun i _ _ _ _ _ _ _ => (2 - intOf i).toNat)
  case atStart => exact ⟨0, by omega, rfl, hb1⟩
  case round =>
    clear hb1
    obtain ⟨j, hj, rfl, hbw⟩ := hrel
    have hsz := hbw.size
    rcases (show j = 0 ∨ j = 1 ∨ j = 2 by omega) with rfl | rfl | rfl
    · obtain ⟨s, t, E, cA, cB, hP, hbig, hl, hr⟩ := pairR 2 3 n (by omega)
      have HLT := Lib.hid hl
      have HR := Lib.hid hr
      have HP := Lib.hid hP
      clear hl hr
      have hst := hP.size
      clear hP
      have p1 : (E != E) = false := by simp
      have hWr := hW.below hbw
      go_wp2_with fail
      refine (cA _ hWr).mono ?_
      rintro e w2 ⟨rfl, hb2⟩
      have hW2 := hWr.below hb2
      go_wp2_with (go_at_call 14; (with_reducible refine (cB _ hW2).mono ?_); rintro e w3 ⟨rfl, hb3⟩)
      have HST := Lib.hid hst
      have hb3' := hbw.trans ((chain hb2 hb3).mono hsz)
      clear hst cA cB hWr hW2 hb2 hb3 hbw hsz
      go_loopw [8, 9] (fun x y wr => ∃ (k m q : Nat), y = .int .i64 (k : Nat) ∧ x = .int .i64 (m : Nat) ∧ k ≤ s.size ∧ m ≤ 40 ∧ m ≤ k ∧ wr = w3.drewN q) (fun _ y _ => s.size - (intOf y).toNat)
      case atStart => exact ⟨0, 0, 0, rfl, rfl, Nat.zero_le _, by omega, Nat.le_refl _, rfl⟩
      case round =>
        obtain ⟨k, m, q, rfl, rfl, hk, hm40, hm, rfl⟩ := hrel
        by_cases hlt : k < s.size
        · have hlt' : k < t.size := by rw [← HST.out]; exact hlt
          have l1 := (HP.out.lo k hlt).1
          have l2 := (HP.out.lo k hlt).2
          have hhi := HP.out.hi k hlt hlt'
          have c1 : decide (((s[k]'hlt).toNat : Int) < 97) = false := decide_eq_false (by omega)
          have c2 : decide ((122 : Int) < ((s[k]'hlt).toNat : Int)) = false := decide_eq_false (by omega)
          have hkl : k < s.data.toList.length := by simpa using hlt
          rcases Nat.eq_zero_or_pos k with rfl | hk0
          · obtain ⟨hm0, HN⟩ : m = 0 ∧ Hid (True) := ⟨by omega, Lib.hid trivial⟩
            subst hm0
            clear hm
            go_wp2
            go_quiet (fail)
            all_goals
              go_wp2
              go_quiet (fail)
              all_goals
                go_wp2
                go_roundw
                case rel => exact ⟨1, 1, _, rfl, rfl, by omega, by omega, by omega, by first | rfl | simp only [World.drewN_drewN]⟩
                case measure => simp [intOf]; omega
          · have hp1 : k - 1 < s.size := by omega
            have hk1 : (1 : Int) ≤ (k : Int) := by omega
            have hk2 : (0 : Int) ≤ (k : Int) - 1 := by omega
            have hk3 : (k : Int) - 1 < (s.size : Int) := by omega
            have hk4 : (0 : Int) < (k : Int) := by omega
            have i1 : IntKind.i64.wrap ((k : Int) - 1) = (k : Int) - 1 := IntWalk.i64_in _ (by omega)
            have i3 : ((k : Int) - 1).toNat = k - 1 := by omega
            by_cases heq : (s[k]'hlt).toNat = (s[k - 1]'hp1).toNat
            · have q1 : (((s[k]'hlt).toNat : Int) != ((s[k - 1]'hp1).toNat : Int)) = false := by rw [heq]; simp
              have q2 : ((s[k]'hlt).toNat != (s[k - 1]'hp1).toNat) = false := by rw [heq]; simp
              obtain ⟨hm2, HN⟩ : m + 1 ≤ 40 ∧ Hid (m + 1 ≤ k + 1) := ⟨by omega, Lib.hid (by omega)⟩
              skip
              clear heq hm
              go_wp2
              go_quiet (fail)
              all_goals
                go_wp2
                go_quiet (fail)
                all_goals
                  go_wp2
                  go_roundw
                  case rel => exact ⟨k + 1, m + 1, _, by go_num, by go_num, by omega, by omega, HN.out, by first | rfl | simp only [World.drewN_drewN]⟩
                  case measure => simp [intOf]; omega
            · have q1 : (((s[k]'hlt).toNat : Int) != ((s[k - 1]'hp1).toNat : Int)) = true := by simp only [bne_iff_ne, ne_eq, Int.natCast_inj]; exact heq
              have q2 : ((s[k]'hlt).toNat != (s[k - 1]'hp1).toNat) = true := by simpa using heq
              have HN : True := trivial
              clear heq hm
              go_wp2
              go_quiet (fail)
              all_goals
                go_wp2
                go_quiet (fail)
                all_goals
                  go_wp2
                  go_roundw
                  case rel => exact ⟨k + 1, 1, _, by go_num, rfl, by omega, by omega, by omega, by first | rfl | simp only [World.drewN_drewN]⟩
                  case measure => simp [intOf]; omega
        · go_wp2
          go_roundw
          case rel => exact ⟨1, by omega, rfl, below_drewN hb3' q⟩
          case measure => simp [intOf]
    · obtain ⟨s, t, E, cA, cB, hP, hbig, hl, hr⟩ := pairR 4 5 n (by omega)
      have HLT := Lib.hid hl
      have HR := Lib.hid hr
      have HP := Lib.hid hP
      clear hl hr
      have hst := hP.size
      clear hP
      have p1 : (E != E) = false := by simp
      have hWr := hW.below hbw
      go_wp2_with fail
      refine (cA _ hWr).mono ?_
      rintro e w2 ⟨rfl, hb2⟩
      have hW2 := hWr.below hb2
      go_wp2_with (go_at_call 14; (with_reducible refine (cB _ hW2).mono ?_); rintro e w3 ⟨rfl, hb3⟩)
      have HST := Lib.hid hst
      have hb3' := hbw.trans ((chain hb2 hb3).mono hsz)
      clear hst cA cB hWr hW2 hb2 hb3 hbw hsz
      go_loopw [8, 9] (fun x y wr => ∃ (k m q : Nat), y = .int .i64 (k : Nat) ∧ x = .int .i64 (m : Nat) ∧ k ≤ s.size ∧ m ≤ 40 ∧ Hid (RunAt s.data.toList k m) ∧ wr = w3.drewN q) (fun _ y _ => s.size - (intOf y).toNat)
      case atStart => exact ⟨0, 0, 0, rfl, rfl, Nat.zero_le _, by omega, Lib.hid (.inl ⟨rfl, rfl, HR.out (by trivial)⟩), rfl⟩
      case round =>
        obtain ⟨k, m, q, rfl, rfl, hk, hm40, hm, rfl⟩ := hrel
        by_cases hlt : k < s.size
        · have hlt' : k < t.size := by rw [← HST.out]; exact hlt
          have l1 := (HP.out.lo k hlt).1
          have l2 := (HP.out.lo k hlt).2
          have hhi := HP.out.hi k hlt hlt'
          have c1 : decide (((s[k]'hlt).toNat : Int) < 97) = false := decide_eq_false (by omega)
          have c2 : decide ((122 : Int) < ((s[k]'hlt).toNat : Int)) = false := decide_eq_false (by omega)
          have hkl : k < s.data.toList.length := by simpa using hlt
          rcases Nat.eq_zero_or_pos k with rfl | hk0
          · obtain ⟨hm0, HN⟩ : m = 0 ∧ Hid (RunAt s.data.toList 1 1) := by
              rcases run_next HLT.out hm.out hkl with ⟨_, h2, h3⟩ | ⟨h0, _⟩
              · exact ⟨h2, Lib.hid h3⟩
              · omega
            subst hm0
            clear hm
            go_wp2
            go_quiet (fail)
            all_goals
              go_wp2
              go_quiet (fail)
              all_goals
                go_wp2
                go_roundw
                case rel => exact ⟨1, 1, _, rfl, rfl, by omega, by omega, HN, by first | rfl | simp only [World.drewN_drewN]⟩
                case measure => simp [intOf]; omega
          · have hp1 : k - 1 < s.size := by omega
            have hk1 : (1 : Int) ≤ (k : Int) := by omega
            have hk2 : (0 : Int) ≤ (k : Int) - 1 := by omega
            have hk3 : (k : Int) - 1 < (s.size : Int) := by omega
            have hk4 : (0 : Int) < (k : Int) := by omega
            have i1 : IntKind.i64.wrap ((k : Int) - 1) = (k : Int) - 1 := IntWalk.i64_in _ (by omega)
            have i3 : ((k : Int) - 1).toNat = k - 1 := by omega
            by_cases heq : (s[k]'hlt).toNat = (s[k - 1]'hp1).toNat
            · have q1 : (((s[k]'hlt).toNat : Int) != ((s[k - 1]'hp1).toNat : Int)) = false := by rw [heq]; simp
              have q2 : ((s[k]'hlt).toNat != (s[k - 1]'hp1).toNat) = false := by rw [heq]; simp
              obtain ⟨hm2, HN⟩ : m + 1 ≤ 40 ∧ (m ≤ 2 ∧ Hid (RunAt s.data.toList (k + 1) (m + 1))) := by
                rcases run_next HLT.out hm.out hkl with ⟨h0, _, _⟩ | ⟨h0, h1, h3, ⟨_, h5, h6⟩ | ⟨h4, _⟩⟩
                · omega
                · exact ⟨by omega, h5, Lib.hid h6⟩
                · exact absurd (UInt8.toNat_inj.1 heq) h4
              obtain ⟨hm3, HN⟩ := HN
              clear heq hm
              go_wp2
              go_quiet (fail)
              all_goals
                go_wp2
                go_quiet (fail)
                all_goals
                  go_wp2
                  go_roundw
                  case rel => exact ⟨k + 1, m + 1, _, by go_num, by go_num, by omega, by omega, HN, by first | rfl | simp only [World.drewN_drewN]⟩
                  case measure => simp [intOf]; omega
            · have q1 : (((s[k]'hlt).toNat : Int) != ((s[k - 1]'hp1).toNat : Int)) = true := by simp only [bne_iff_ne, ne_eq, Int.natCast_inj]; exact heq
              have q2 : ((s[k]'hlt).toNat != (s[k - 1]'hp1).toNat) = true := by simpa using heq
              have HN : Hid (RunAt s.data.toList (k + 1) 1) := by
                rcases run_next HLT.out hm.out hkl with ⟨h0, _, _⟩ | ⟨h0, h1, h3, ⟨h4, _, _⟩ | ⟨_, h6⟩⟩
                · omega
                · exact absurd (congrArg UInt8.toNat h4) heq
                · exact Lib.hid h6
              clear heq hm
              go_wp2
              go_quiet (fail)
              all_goals
                go_wp2
                go_quiet (fail)
                all_goals
                  go_wp2
                  go_roundw
                  case rel => exact ⟨k + 1, 1, _, by go_num, rfl, by omega, by omega, HN, by first | rfl | simp only [World.drewN_drewN]⟩
                  case measure => simp [intOf]; omega
        · go_wp2
          go_roundw
          case rel => exact ⟨2, by omega, rfl, below_drewN hb3' q⟩
          case measure => simp [intOf]
    · go_wp2
      go_ret
      exact ⟨rfl, hbw⟩
end Go.Proofs.YteahingapnijcaaDoor
