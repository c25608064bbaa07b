import Derived.Test.YtblabbeaaajlkaaA4
namespace Go.Proofs.Ytblabbeaaajlkaa
open Go.RowKit
open U

def Let (b : Nat) : Prop := (97 ≤ b ∧ b ≤ 122) ∨ (65 ≤ b ∧ b ≤ 90)
instance (b : Nat) : Decidable (Let b) := by unfold Let; infer_instance
def Dig (b : Nat) : Prop := 48 ≤ b ∧ b ≤ 57
instance (b : Nat) : Decidable (Dig b) := by unfold Dig; infer_instance
/-- A byte that a name may have at a place. -/
def okB (i : Nat) (b : Nat) : Bool := decide (Let b) || (decide (i ≠ 0) && (decide (Dig b) || decide (b = 45) || decide (b = 95)))
def okFrom : Nat → List UInt8 → Bool
  | _, [] => true
  | i, c :: t => okB i c.toNat && okFrom (i + 1) t
def nameB (s : ByteArray) : Bool := decide (1 ≤ s.size) && decide (s.size ≤ 40) && okFrom 0 s.data.toList
theorem okFrom_cons {l : List UInt8} {k : Nat} {c : UInt8} (h : l.drop k = c :: l.drop (k + 1)) (hc : okB k c.toNat = true) : okFrom k (l.drop k) = okFrom (k + 1) (l.drop (k + 1)) := by
  rw [h, okFrom, hc, Bool.true_and]
def OkAt (l : List UInt8) (k j : Nat) : Prop := okFrom j (l.drop j) = okFrom k (l.drop k)

theorem okAt_next {l : List UInt8} {j k : Nat} {c : UInt8} (h : OkAt l j k) (hh : l.drop k = c :: l.drop (k + 1)) (hc : okB k c.toNat = true) : OkAt l j (k + 1) := by
  unfold OkAt at *
  rw [← okFrom_cons hh hc]; exact h
set_option maxRecDepth 100000 in
set_option maxHeartbeats 1000000 in
theorem letter_yes (b : Nat) (_hb : b < 256) (h : Let b) (w : World) : Calls Try.prog 45 #[.int .u8 b] w fun e w' => e = .returned (.bool true) ∧ w = w' := by
  by_cases h1 : 97 ≤ b
  · by_cases h2 : b ≤ 122
    · clear h
      go_enter Try.func45, Try.ntmps45
      go_wp2
      go_ret
      exact ⟨ret_bool (by first | rfl | (simp; omega)), rfl⟩
    · unfold Let at h; omega
  · have h3 : 65 ≤ b ∧ b ≤ 90 := by unfold Let at h; omega
    obtain ⟨h3, h4⟩ := h3
    clear h
    go_enter Try.func45, Try.ntmps45
    go_wp2
    go_ret
    exact ⟨ret_bool (by first | rfl | (simp; omega)), rfl⟩
set_option maxRecDepth 100000 in
set_option maxHeartbeats 1000000 in
theorem letter_no (b : Nat) (_hb : b < 256) (h : ¬ Let b) (w : World) : Calls Try.prog 45 #[.int .u8 b] w fun e w' => e = .returned (.bool false) ∧ w = w' := by
  have h' : 122 < b ∨ (90 < b ∧ b < 97) ∨ b < 65 := by unfold Let at h; omega
  clear h
  rcases h' with h | ⟨h1, h2⟩ | h
  · go_enter Try.func45, Try.ntmps45
    go_wp2
    go_ret
    exact ⟨ret_bool (by first | rfl | (simp; omega)), rfl⟩
  · go_enter Try.func45, Try.ntmps45
    go_wp2
    go_ret
    exact ⟨ret_bool (by first | rfl | (simp; omega)), rfl⟩
  · go_enter Try.func45, Try.ntmps45
    go_wp2
    go_ret
    exact ⟨ret_bool (by first | rfl | (simp; omega)), rfl⟩
set_option maxRecDepth 100000 in
set_option maxHeartbeats 1000000 in
theorem digit_yes (b : Nat) (_hb : b < 256) (h : Dig b) (w : World) : Calls Try.prog 46 #[.int .u8 b] w fun e w' => e = .returned (.bool true) ∧ w = w' := by
  obtain ⟨h1, h2⟩ := h
  go_enter Try.func46, Try.ntmps46
  go_wp2
  go_ret
  exact ⟨ret_bool (by first | rfl | (simp; omega)), rfl⟩
set_option maxRecDepth 100000 in
set_option maxHeartbeats 1000000 in
theorem digit_no (b : Nat) (_hb : b < 256) (h : ¬ Dig b) (w : World) : Calls Try.prog 46 #[.int .u8 b] w fun e w' => e = .returned (.bool false) ∧ w = w' := by
  have h' : b < 48 ∨ 57 < b := by unfold Dig at h; omega
  clear h
  rcases h' with h | h
  · go_enter Try.func46, Try.ntmps46
    go_wp2
    go_ret
    exact ⟨ret_bool (by first | rfl | (simp; omega)), rfl⟩
  · go_enter Try.func46, Try.ntmps46
    go_wp2
    go_ret
    exact ⟨ret_bool (by first | rfl | (simp; omega)), rfl⟩

set_option maxRecDepth 100000 in
set_option maxHeartbeats 2000000 in
theorem isName_any (s : ByteArray) (hs : s.size ≤ 1000000) (w : World) :
    Calls Try.prog 35 #[.string s] w fun e w' => e = .returned (.bool (nameB s)) ∧ w = w' := by
  by_cases h0 : s.size = 0
  · have HF := Lib.hid (show nameB s = false by unfold nameB; rw [h0]; rfl)
    have k1 : ((s.size : Int) == 0) = true := by rw [beq_iff_eq]; omega
    clear h0
    go_enter Try.func35, Try.ntmps35
    go_wp2
    go_ret
    exact ⟨ret_bool HF.out.symm, rfl⟩
  have hpos : 0 < s.size := by omega
  have k1 : ((s.size : Int) == 0) = false := by rw [beq_eq_false_iff_ne]; omega
  clear h0
  by_cases h40 : 40 < s.size
  · have HF := Lib.hid (show nameB s = false by unfold nameB; rw [decide_eq_false (show ¬ s.size ≤ 40 by omega)]; simp)
    go_enter Try.func35, Try.ntmps35
    go_wp2
    go_ret
    exact ⟨ret_bool HF.out.symm, rfl⟩
  have hh : s.data.toList = s[0] :: s.data.toList.drop 1 := scan_head s 0 hpos
  have h8 := s[0].toNat_lt
  by_cases hl : Let s[0].toNat
  · have hF : nameB s = okFrom 1 (s.data.toList.drop 1) := by
      unfold nameB
      rw [decide_eq_true (show 1 ≤ s.size by omega), decide_eq_true (show s.size ≤ 40 by omega)]
      conv => lhs; rw [hh]
      simp only [okFrom, okB, decide_eq_true hl, Bool.true_or, Bool.true_and]
    have HF := Lib.hid hF
    have HLen := Lib.hid (show s.data.toList.length = s.size by simp)
    clear hh hF
    go_enter Try.func35, Try.ntmps35
    go_wp2_with (go_at_call 45; refine (letter_yes _ h8 hl _).mono ?_; rintro e w' ⟨rfl, rfl⟩)
    go_loop [2, 3] (fun _ i => ∃ k : Nat, 1 ≤ k ∧ k ≤ s.size ∧ i = .int .i64 (k : Nat) ∧ OkAt s.data.toList 1 k) (fun _ i => s.size - (intOf i).toNat)
    case atStart => exact ⟨1, Nat.le_refl _, by omega, rfl, rfl⟩
    case round =>
      obtain ⟨k, hk0, hk, rfl, hok⟩ := hrel
      have HO := Lib.hid hok
      clear hok
      by_cases hlt : k < s.size
      · have hc8 := s[k].toNat_lt
        have HH := Lib.hid (scan_head s k hlt)
        by_cases c1 : Let s[k].toNat
        · have HB := Lib.hid (show okB k s[k].toNat = true by unfold okB; rw [decide_eq_true c1]; rfl)
          go_wp2_with (go_at_call 45; refine (letter_yes _ hc8 c1 _).mono ?_; rintro e w' ⟨rfl, rfl⟩)
          go_round
          case rel => exact ⟨k + 1, by omega, by omega, by go_num, okAt_next HO.out HH.out HB.out⟩
          case measure => simp [intOf]; omega
        · by_cases c2 : Dig s[k].toNat
          · have HB := Lib.hid (show okB k s[k].toNat = true by unfold okB; rw [decide_eq_true c2, decide_eq_true (show k ≠ 0 by omega)]; simp)
            go_wp2_with (first | (go_at_call 45; refine (letter_no _ hc8 c1 _).mono ?_; rintro e w' ⟨rfl, rfl⟩) | (go_at_call 46; refine (digit_yes _ hc8 c2 _).mono ?_; rintro e w' ⟨rfl, rfl⟩))
            go_round
            case rel => exact ⟨k + 1, by omega, by omega, by go_num, okAt_next HO.out HH.out HB.out⟩
            case measure => simp [intOf]; omega
          · by_cases c3 : s[k].toNat = 45
            · have HB := Lib.hid (show okB k s[k].toNat = true by unfold okB; rw [decide_eq_true c3, decide_eq_true (show k ≠ 0 by omega)]; simp)
              have k3 : ((s[k].toNat : Int) != 45) = false := by rw [bne_eq_false_iff_eq]; omega
              clear c3
              go_wp2_with (first | (go_at_call 45; refine (letter_no _ hc8 c1 _).mono ?_; rintro e w' ⟨rfl, rfl⟩) | (go_at_call 46; refine (digit_no _ hc8 c2 _).mono ?_; rintro e w' ⟨rfl, rfl⟩))
              go_round
              case rel => exact ⟨k + 1, by omega, by omega, by go_num, okAt_next HO.out HH.out HB.out⟩
              case measure => simp [intOf]; omega
            · have k3 : ((s[k].toNat : Int) != 45) = true := by rw [bne_iff_ne]; omega
              by_cases c4 : s[k].toNat = 95
              · have HB := Lib.hid (show okB k s[k].toNat = true by unfold okB; rw [decide_eq_true c4, decide_eq_true (show k ≠ 0 by omega)]; simp)
                have k4 : ((s[k].toNat : Int) != 95) = false := by rw [bne_eq_false_iff_eq]; omega
                clear c4 c3
                go_wp2_with (first | (go_at_call 45; refine (letter_no _ hc8 c1 _).mono ?_; rintro e w' ⟨rfl, rfl⟩) | (go_at_call 46; refine (digit_no _ hc8 c2 _).mono ?_; rintro e w' ⟨rfl, rfl⟩))
                go_round
                case rel => exact ⟨k + 1, by omega, by omega, by go_num, okAt_next HO.out HH.out HB.out⟩
                case measure => simp [intOf]; omega
              · have k4 : ((s[k].toNat : Int) != 95) = true := by rw [bne_iff_ne]; omega
                have HE := Lib.hid (show nameB s = false by
                  have h1 := HO.out
                  unfold OkAt at h1
                  rw [HF.out, ← h1, HH.out, okFrom, okB, decide_eq_false c1, decide_eq_false c2, decide_eq_false c3, decide_eq_false c4]; simp)
                clear c4 c3
                go_wp2_with (first | (go_at_call 45; refine (letter_no _ hc8 c1 _).mono ?_; rintro e w' ⟨rfl, rfl⟩) | (go_at_call 46; refine (digit_no _ hc8 c2 _).mono ?_; rintro e w' ⟨rfl, rfl⟩))
                go_ret
                exact ⟨ret_bool HE.out.symm, rfl⟩
      · have HE := Lib.hid (show nameB s = true by
          have h1 := HO.out
          unfold OkAt at h1
          rw [HF.out, ← h1, List.drop_eq_nil_of_le (by rw [HLen.out]; omega)]; rfl)
        go_wp2
        go_ret
        exact ⟨ret_bool HE.out.symm, rfl⟩
  · have HF := Lib.hid (show nameB s = false by
      unfold nameB
      rw [decide_eq_true (show 1 ≤ s.size by omega), decide_eq_true (show s.size ≤ 40 by omega)]
      conv => lhs; rw [hh]
      simp only [okFrom, okB, decide_eq_false hl]; rfl)
    clear hh
    go_enter Try.func35, Try.ntmps35
    go_wp2_with (go_at_call 45; refine (letter_no _ h8 hl _).mono ?_; rintro e w' ⟨rfl, rfl⟩)
    go_ret
    exact ⟨ret_bool HF.out.symm, rfl⟩
end Go.Proofs.Ytblabbeaaajlkaa
