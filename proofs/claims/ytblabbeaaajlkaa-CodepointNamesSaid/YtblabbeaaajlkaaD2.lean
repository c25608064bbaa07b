import Derived.Test.YtblabbeaaajlkaaD1
namespace Go.Proofs.Ytblabbeaaajlkaa
open Go.RowKit
open U

theorem okB_yes {i b : Nat} (h : Let b ∨ (i ≠ 0 ∧ (Dig b ∨ b = 45 ∨ b = 95))) : okB i b = true := by
  unfold okB
  rcases h with h | ⟨h, h' | h' | h'⟩
  · simp [h]
  · simp [h, h']
  · simp [h, h']
  · simp [h, h']
theorem okB_no {i b : Nat} (h : ¬ (Let b ∨ (i ≠ 0 ∧ (Dig b ∨ b = 45 ∨ b = 95)))) : okB i b = false := by
  unfold okB
  by_cases h1 : Let b
  · exact absurd (.inl h1) h
  rw [decide_eq_false h1, Bool.false_or]
  by_cases h2 : i = 0
  · simp [h2]
  · have h3 : ¬ Dig b := fun q => h (.inr ⟨h2, .inl q⟩)
    have h4 : b ≠ 45 := fun q => h (.inr ⟨h2, .inr (.inl q)⟩)
    have h5 : b ≠ 95 := fun q => h (.inr ⟨h2, .inr (.inr q)⟩)
    simp [h3, h4, h5]
theorem nameB_no {s : ByteArray} {k : Nat} {c : UInt8} (h : OkAt s.data.toList 0 k) (hh : s.data.toList.drop k = c :: s.data.toList.drop (k + 1)) (hc : okB k c.toNat = false) : nameB s = false := by
  unfold OkAt at h
  unfold nameB
  rw [List.drop_zero] at h
  rw [← h, hh, okFrom, hc]; simp

set_option maxRecDepth 100000 in
set_option maxHeartbeats 4000000 in
theorem refIsName_any (s : ByteArray) (hs : s.size ≤ 1000000) (w : World) :
    Calls Try.prog 36 #[.string s] w fun e w' => e = .returned (.bool (nameB s)) ∧ w = w' := by
  have HLen := Lib.hid (show s.data.toList.length = s.size by simp)
  go_enter Try.func36, Try.ntmps36
  go_wp2
  go_loop [2, 3, 4, 5] (fun _ i _ _ => ∃ k : Nat, k ≤ s.size ∧ i = .int .i64 (k : Nat) ∧ OkAt s.data.toList 0 k) (fun _ i _ _ => s.size - (intOf i).toNat)
  case atStart => exact ⟨0, Nat.zero_le _, rfl, rfl⟩
  case round =>
    obtain ⟨k, hk, rfl, hok⟩ := hrel
    have HO := Lib.hid hok
    clear hok
    by_cases hlt : k < s.size
    · have hc8 := s[k].toNat_lt
      have HH := Lib.hid (scan_head s k hlt)
      by_cases r1 : 122 < s[k].toNat
      · by_cases k0 : k = 0
        · subst k0
          have HB := Lib.hid (show okB 0 s[0].toNat = false from okB_no (by unfold Let Dig; omega))
          have d1 : decide ((s[0].toNat : Int) ≤ 122) = false := by simp; omega
          have d2 : decide (97 ≤ (s[0].toNat : Int)) = true := by simp; omega
          have d3 : decide ((s[0].toNat : Int) ≤ 90) = false := by simp; omega
          have d4 : decide (65 ≤ (s[0].toNat : Int)) = true := by simp; omega
          have d5 : decide ((s[0].toNat : Int) < 48) = false := by simp; omega
          have d6 : decide (57 < (s[0].toNat : Int)) = true := by simp; omega
          have HE := Lib.hid (nameB_no HO.out HH.out HB.out)
          go_wp2
          go_ret
          exact ⟨ret_bool HE.out.symm, rfl⟩
        · have q0 : ((k : Int) == 0) = false := by rw [beq_eq_false_iff_ne]; omega
          have q1 : ((s[k].toNat : Int) != 45) = true := by rw [bne_iff_ne]; omega
          have q2 : ((s[k].toNat : Int) != 95) = true := by rw [bne_iff_ne]; omega
          have HB := Lib.hid (show okB k s[k].toNat = false from okB_no (by unfold Let Dig; omega))
          have d1 : decide ((s[k].toNat : Int) ≤ 122) = false := by simp; omega
          have d2 : decide (97 ≤ (s[k].toNat : Int)) = true := by simp; omega
          have d3 : decide ((s[k].toNat : Int) ≤ 90) = false := by simp; omega
          have d4 : decide (65 ≤ (s[k].toNat : Int)) = true := by simp; omega
          have d5 : decide ((s[k].toNat : Int) < 48) = false := by simp; omega
          have d6 : decide (57 < (s[k].toNat : Int)) = true := by simp; omega
          have HE := Lib.hid (nameB_no HO.out HH.out HB.out)
          go_wp2
          go_ret
          exact ⟨ret_bool HE.out.symm, rfl⟩
      by_cases r2 : 97 ≤ s[k].toNat
      · have HB := Lib.hid (show okB k s[k].toNat = true from okB_yes (by unfold Let Dig; omega))
        have d1 : decide ((s[k].toNat : Int) ≤ 122) = true := by simp; omega
        have d2 : decide (97 ≤ (s[k].toNat : Int)) = true := by simp; omega
        have d3 : decide ((s[k].toNat : Int) ≤ 90) = false := by simp; omega
        have d4 : decide (65 ≤ (s[k].toNat : Int)) = true := by simp; omega
        have d5 : decide ((s[k].toNat : Int) < 48) = false := by simp; omega
        have d6 : decide (57 < (s[k].toNat : Int)) = true := by simp; omega
        go_wp2
        go_round
        case rel => exact ⟨k + 1, by omega, by go_num, okAt_next HO.out HH.out HB.out⟩
        case measure => simp [intOf]; omega
      by_cases r3 : 90 < s[k].toNat
      · by_cases k0 : k = 0
        · subst k0
          have HB := Lib.hid (show okB 0 s[0].toNat = false from okB_no (by unfold Let Dig; omega))
          have d1 : decide ((s[0].toNat : Int) ≤ 122) = true := by simp; omega
          have d2 : decide (97 ≤ (s[0].toNat : Int)) = false := by simp; omega
          have d3 : decide ((s[0].toNat : Int) ≤ 90) = false := by simp; omega
          have d4 : decide (65 ≤ (s[0].toNat : Int)) = true := by simp; omega
          have d5 : decide ((s[0].toNat : Int) < 48) = false := by simp; omega
          have d6 : decide (57 < (s[0].toNat : Int)) = true := by simp; omega
          have HE := Lib.hid (nameB_no HO.out HH.out HB.out)
          go_wp2
          go_ret
          exact ⟨ret_bool HE.out.symm, rfl⟩
        · have q0 : ((k : Int) == 0) = false := by rw [beq_eq_false_iff_ne]; omega
          have q1 : ((s[k].toNat : Int) != 45) = true := by rw [bne_iff_ne]; omega
          by_cases c4 : s[k].toNat = 95
          · have q2 : ((s[k].toNat : Int) != 95) = false := by rw [bne_eq_false_iff_eq]; omega
            have HB := Lib.hid (show okB k s[k].toNat = true from okB_yes (by unfold Let Dig; omega))
            have d1 : decide ((s[k].toNat : Int) ≤ 122) = true := by simp; omega
            have d2 : decide (97 ≤ (s[k].toNat : Int)) = false := by simp; omega
            have d3 : decide ((s[k].toNat : Int) ≤ 90) = false := by simp; omega
            have d4 : decide (65 ≤ (s[k].toNat : Int)) = true := by simp; omega
            have d5 : decide ((s[k].toNat : Int) < 48) = false := by simp; omega
            have d6 : decide (57 < (s[k].toNat : Int)) = true := by simp; omega
            clear c4
            go_wp2
            go_round
            case rel => exact ⟨k + 1, by omega, by go_num, okAt_next HO.out HH.out HB.out⟩
            case measure => simp [intOf]; omega
          · have q2 : ((s[k].toNat : Int) != 95) = true := by rw [bne_iff_ne]; omega
            have HB := Lib.hid (show okB k s[k].toNat = false from okB_no (by unfold Let Dig; omega))
            have d1 : decide ((s[k].toNat : Int) ≤ 122) = true := by simp; omega
            have d2 : decide (97 ≤ (s[k].toNat : Int)) = false := by simp; omega
            have d3 : decide ((s[k].toNat : Int) ≤ 90) = false := by simp; omega
            have d4 : decide (65 ≤ (s[k].toNat : Int)) = true := by simp; omega
            have d5 : decide ((s[k].toNat : Int) < 48) = false := by simp; omega
            have d6 : decide (57 < (s[k].toNat : Int)) = true := by simp; omega
            have HE := Lib.hid (nameB_no HO.out HH.out HB.out)
            go_wp2
            go_ret
            exact ⟨ret_bool HE.out.symm, rfl⟩
      by_cases r4 : 65 ≤ s[k].toNat
      · have HB := Lib.hid (show okB k s[k].toNat = true from okB_yes (by unfold Let Dig; omega))
        have d1 : decide ((s[k].toNat : Int) ≤ 122) = true := by simp; omega
        have d2 : decide (97 ≤ (s[k].toNat : Int)) = false := by simp; omega
        have d3 : decide ((s[k].toNat : Int) ≤ 90) = true := by simp; omega
        have d4 : decide (65 ≤ (s[k].toNat : Int)) = true := by simp; omega
        have d5 : decide ((s[k].toNat : Int) < 48) = false := by simp; omega
        have d6 : decide (57 < (s[k].toNat : Int)) = true := by simp; omega
        go_wp2
        go_round
        case rel => exact ⟨k + 1, by omega, by go_num, okAt_next HO.out HH.out HB.out⟩
        case measure => simp [intOf]; omega
      by_cases k0 : k = 0
      · subst k0
        have HB := Lib.hid (show okB 0 s[0].toNat = false from okB_no (by unfold Let Dig; omega))
        have d1 : decide ((s[0].toNat : Int) ≤ 122) = true := by simp; omega
        have d2 : decide (97 ≤ (s[0].toNat : Int)) = false := by simp; omega
        have d3 : decide ((s[0].toNat : Int) ≤ 90) = true := by simp; omega
        have d4 : decide (65 ≤ (s[0].toNat : Int)) = false := by simp; omega
        have HE := Lib.hid (nameB_no HO.out HH.out HB.out)
        go_wp2
        go_ret
        exact ⟨ret_bool HE.out.symm, rfl⟩
      have q0 : ((k : Int) == 0) = false := by rw [beq_eq_false_iff_ne]; omega
      have q2 : ((s[k].toNat : Int) != 95) = true := by rw [bne_iff_ne]; omega
      by_cases r5 : 57 < s[k].toNat
      · have q1 : ((s[k].toNat : Int) != 45) = true := by rw [bne_iff_ne]; omega
        have HB := Lib.hid (show okB k s[k].toNat = false from okB_no (by unfold Let Dig; omega))
        have d1 : decide ((s[k].toNat : Int) ≤ 122) = true := by simp; omega
        have d2 : decide (97 ≤ (s[k].toNat : Int)) = false := by simp; omega
        have d3 : decide ((s[k].toNat : Int) ≤ 90) = true := by simp; omega
        have d4 : decide (65 ≤ (s[k].toNat : Int)) = false := by simp; omega
        have d5 : decide ((s[k].toNat : Int) < 48) = false := by simp; omega
        have d6 : decide (57 < (s[k].toNat : Int)) = true := by simp; omega
        have HE := Lib.hid (nameB_no HO.out HH.out HB.out)
        go_wp2
        go_ret
        exact ⟨ret_bool HE.out.symm, rfl⟩
      by_cases r6 : 48 ≤ s[k].toNat
      · have HB := Lib.hid (show okB k s[k].toNat = true from okB_yes (by unfold Let Dig; omega))
        have d1 : decide ((s[k].toNat : Int) ≤ 122) = true := by simp; omega
        have d2 : decide (97 ≤ (s[k].toNat : Int)) = false := by simp; omega
        have d3 : decide ((s[k].toNat : Int) ≤ 90) = true := by simp; omega
        have d4 : decide (65 ≤ (s[k].toNat : Int)) = false := by simp; omega
        have d5 : decide ((s[k].toNat : Int) < 48) = false := by simp; omega
        have d6 : decide (57 < (s[k].toNat : Int)) = false := by simp; omega
        go_wp2
        go_round
        case rel => exact ⟨k + 1, by omega, by go_num, okAt_next HO.out HH.out HB.out⟩
        case measure => simp [intOf]; omega
      by_cases c3 : s[k].toNat = 45
      · have q1 : ((s[k].toNat : Int) != 45) = false := by rw [bne_eq_false_iff_eq]; omega
        have HB := Lib.hid (show okB k s[k].toNat = true from okB_yes (by unfold Let Dig; omega))
        have d1 : decide ((s[k].toNat : Int) ≤ 122) = true := by simp; omega
        have d2 : decide (97 ≤ (s[k].toNat : Int)) = false := by simp; omega
        have d3 : decide ((s[k].toNat : Int) ≤ 90) = true := by simp; omega
        have d4 : decide (65 ≤ (s[k].toNat : Int)) = false := by simp; omega
        have d5 : decide ((s[k].toNat : Int) < 48) = true := by simp; omega
        have d6 : decide (57 < (s[k].toNat : Int)) = false := by simp; omega
        clear c3
        go_wp2
        go_round
        case rel => exact ⟨k + 1, by omega, by go_num, okAt_next HO.out HH.out HB.out⟩
        case measure => simp [intOf]; omega
      · have q1 : ((s[k].toNat : Int) != 45) = true := by rw [bne_iff_ne]; omega
        have HB := Lib.hid (show okB k s[k].toNat = false from okB_no (by unfold Let Dig; omega))
        have d1 : decide ((s[k].toNat : Int) ≤ 122) = true := by simp; omega
        have d2 : decide (97 ≤ (s[k].toNat : Int)) = false := by simp; omega
        have d3 : decide ((s[k].toNat : Int) ≤ 90) = true := by simp; omega
        have d4 : decide (65 ≤ (s[k].toNat : Int)) = false := by simp; omega
        have d5 : decide ((s[k].toNat : Int) < 48) = true := by simp; omega
        have d6 : decide (57 < (s[k].toNat : Int)) = false := by simp; omega
        have HE := Lib.hid (nameB_no HO.out HH.out HB.out)
        go_wp2
        go_ret
        exact ⟨ret_bool HE.out.symm, rfl⟩
    · have HE := Lib.hid (show okFrom 0 s.data.toList = true by
        have h1 := HO.out
        unfold OkAt at h1
        rw [List.drop_zero] at h1
        rw [← h1, List.drop_eq_nil_of_le (by rw [HLen.out]; omega)]; rfl)
      by_cases z0 : s.size = 0
      · have HF := Lib.hid (show nameB s = false by unfold nameB; rw [z0]; rfl)
        go_wp2
        go_ret
        exact ⟨ret_bool HF.out.symm, rfl⟩
      · by_cases z1 : s.size ≤ 40
        · have HF := Lib.hid (show nameB s = true by unfold nameB; rw [HE.out, decide_eq_true (show 1 ≤ s.size by omega), decide_eq_true z1]; rfl)
          go_wp2
          go_ret
          exact ⟨ret_bool (by rw [HF.out]; first | rfl | (simp; omega)), rfl⟩
        · have HF := Lib.hid (show nameB s = false by unfold nameB; rw [decide_eq_false z1]; simp)
          go_wp2
          go_ret
          exact ⟨ret_bool (by rw [HF.out]; first | rfl | (simp; omega)), rfl⟩
end Go.Proofs.Ytblabbeaaajlkaa
