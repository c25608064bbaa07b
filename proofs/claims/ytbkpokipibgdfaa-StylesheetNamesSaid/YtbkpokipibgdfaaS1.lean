/- Layer 8: names of styles (17, 18). -/
import Derived.Test.YtbkpokipibgdfaaJ6
import Derived.Test.YtbkpokipibgdfaaH9
namespace Go.Proofs.Ytbkpokipibgdfaa
open Go.RowKit Go.Lib
set_option linter.unusedVariables false

/-- The name of a style. -/
def NmOk (s : ByteArray) : Prop := 1 ≤ s.size ∧ s.size ≤ 40 ∧ (∀ h : 0 < s.size, s[0].toNat ≠ 32) ∧ (∀ k (h : k < s.size), k + 1 = s.size → s[k].toNat ≠ 32) ∧ ∀ k (h : k < s.size), 32 ≤ s[k].toNat ∧ s[k].toNat ≤ 126
noncomputable def nmB (s : ByteArray) : Bool := @decide (NmOk s) (Classical.propDecidable _)
theorem nmB_no {s : ByteArray} (h : ¬ NmOk s) : nmB s = false := by unfold nmB; exact @decide_eq_false _ (Classical.propDecidable _) h
theorem nmB_yes {s : ByteArray} (h : NmOk s) : nmB s = true := by unfold nmB; exact @decide_eq_true _ (Classical.propDecidable _) h
theorem nmB_iff {s : ByteArray} : nmB s = true ↔ NmOk s := by unfold nmB; exact @decide_eq_true_iff _ (Classical.propDecidable _)

set_option maxRecDepth 100000 in
set_option maxHeartbeats 8000000 in
theorem isname_any (s : ByteArray) (hs : s.size ≤ 1000000) (w : World) :
    Calls Try.prog 17 #[.string s] w fun e w' => e = .returned (.bool (nmB s)) ∧ w' = w := by
  go_enter Try.func17, Try.ntmps17
  by_cases h0 : s.size = 0
  · have e0 : ((s.size : Int) == 0) = true := by rw [beq_iff_eq]; omega
    have HE := Lib.hid (nmB_no (s := s) (fun h => by have := h.1; omega))
    clear h0
    go_wp2
    go_ret
    exact ⟨ret_bool' HE.out.symm, rfl⟩
  have e0 : ((s.size : Int) == 0) = false := by rw [beq_eq_false_iff_ne]; omega
  by_cases h40 : 40 < s.size
  · have e1 : decide ((40 : Int) < (s.size : Int)) = true := by simp; omega
    have HE := Lib.hid (nmB_no (s := s) (fun h => by have := h.2.1; omega))
    go_wp2
    go_ret
    exact ⟨ret_bool' HE.out.symm, rfl⟩
  have e1 : decide ((40 : Int) < (s.size : Int)) = false := by simp; omega
  have p0 : 0 < s.size := by omega
  by_cases hf : s[0].toNat = 32
  · have e2 : ((s[0].toNat : Int) == 32) = true := by rw [beq_iff_eq]; omega
    have HE := Lib.hid (nmB_no (s := s) (fun h => h.2.2.1 p0 hf))
    go_wp2
    go_ret
    exact ⟨ret_bool' HE.out.symm, rfl⟩
  have e2 : ((s[0].toNat : Int) == 32) = false := by rw [beq_eq_false_iff_ne]; omega
  obtain ⟨m, hm⟩ : ∃ m, m + 1 = s.size := ⟨s.size - 1, by omega⟩
  have pm : m < s.size := by omega
  have em : (s.size : Int) - 1 = (m : Int) := by omega
  have pm0 : (0 : Int) ≤ (m : Int) := by omega
  by_cases hl : s[m].toNat = 32
  · have e3 : ((s[m].toNat : Int) == 32) = true := by rw [beq_iff_eq]; omega
    have HE := Lib.hid (nmB_no (s := s) (fun h => h.2.2.2.1 m pm hm hl))
    go_wp2
    go_ret
    exact ⟨ret_bool' HE.out.symm, rfl⟩
  have e3 : ((s[m].toNat : Int) == 32) = false := by rw [beq_eq_false_iff_ne]; omega
  have HF := Lib.hid hf
  have hl2 : ∀ k (h : k < s.size), k + 1 = s.size → s[k].toNat ≠ 32 := by
    intro k h e
    obtain rfl : k = m := by omega
    exact hl
  have HL := Lib.hid hl2
  have HS := Lib.hid (show 1 ≤ s.size ∧ s.size ≤ 40 from ⟨p0, by omega⟩)
  clear hf hl hl2
  go_wp2
  go_loopw [3, 27] (fun _ i wr => ∃ k : Nat, k ≤ s.size ∧ i = .int .i64 (k : Nat) ∧ Hid (∀ j (h : j < s.size), j < k → 32 ≤ s[j].toNat ∧ s[j].toNat ≤ 126) ∧ wr = w) (fun _ i _ => s.size - (intOf i).toNat)
  case atStart => exact ⟨0, Nat.zero_le _, rfl, Lib.hid (fun j _ h => absurd h (Nat.not_lt_zero _)), rfl⟩
  case round =>
    obtain ⟨k, hk, rfl, HM, rfl⟩ := hrel
    by_cases hlt : k < s.size
    · by_cases h1 : s[k].toNat < 32
      · have d1 : decide ((s[k].toNat : Int) < 32) = true := by simp; omega
        have HE := Lib.hid (nmB_no (s := s) (fun h => by have := (h.2.2.2.2 k hlt).1; omega))
        go_wp2
        go_ret
        exact ⟨ret_bool' HE.out.symm, rfl⟩
      · have d1 : decide ((s[k].toNat : Int) < 32) = false := by simp; omega
        by_cases h2 : 126 < s[k].toNat
        · have d2 : decide ((126 : Int) < (s[k].toNat : Int)) = true := by simp; omega
          have HE := Lib.hid (nmB_no (s := s) (fun h => by have := (h.2.2.2.2 k hlt).2; omega))
          go_wp2
          go_ret
          exact ⟨ret_bool' HE.out.symm, rfl⟩
        · have d2 : decide ((126 : Int) < (s[k].toNat : Int)) = false := by simp; omega
          have HN := Lib.hid (show ∀ j (h : j < s.size), j < k + 1 → 32 ≤ s[j].toNat ∧ s[j].toNat ≤ 126 from fun j h hj => if e : j = k then by subst e; exact ⟨by omega, by omega⟩ else HM.out j h (by omega))
          clear h1 h2
          go_wp2
          go_roundw
          case rel => exact ⟨k + 1, by omega, by go_num, HN, trivial⟩
          case measure => simp [intOf]; omega
    · obtain rfl : k = s.size := by omega
      have HE := Lib.hid (nmB_yes (s := s) ⟨HS.out.1, HS.out.2, fun _ => HF.out, HL.out, fun j h => HM.out j h h⟩)
      go_wp2
      go_ret
      exact ⟨ret_bool' HE.out.symm, rfl⟩
set_option maxRecDepth 100000 in
set_option maxHeartbeats 8000000 in
theorem risname_any (s : ByteArray) (hs : s.size ≤ 1000000) (w : World) :
    Calls Try.prog 18 #[.string s] w fun e w' => e = .returned (.bool (nmB s)) ∧ w' = w := by
  go_enter Try.func18, Try.ntmps18
  by_cases h0 : s.size = 0
  · have e0 : decide ((s.size : Int) < 1) = true := by simp; omega
    have HE := Lib.hid (nmB_no (s := s) (fun h => by have := h.1; omega))
    clear h0
    go_wp2
    go_ret
    exact ⟨ret_bool' HE.out.symm, rfl⟩
  have e0 : decide ((s.size : Int) < 1) = false := by simp; omega
  by_cases h40 : 40 < s.size
  · have e1 : decide ((40 : Int) < (s.size : Int)) = true := by simp; omega
    have HE := Lib.hid (nmB_no (s := s) (fun h => by have := h.2.1; omega))
    go_wp2
    go_ret
    exact ⟨ret_bool' HE.out.symm, rfl⟩
  have e1 : decide ((40 : Int) < (s.size : Int)) = false := by simp; omega
  have p0 : 0 < s.size := by omega
  by_cases hf : s[0].toNat = 32
  · have e2 : ((s[0].toNat : Int) == 32) = true := by rw [beq_iff_eq]; omega
    have HE := Lib.hid (nmB_no (s := s) (fun h => h.2.2.1 p0 hf))
    go_wp2
    go_ret
    exact ⟨ret_bool' HE.out.symm, rfl⟩
  have e2 : ((s[0].toNat : Int) == 32) = false := by rw [beq_eq_false_iff_ne]; omega
  obtain ⟨m, hm⟩ : ∃ m, m + 1 = s.size := ⟨s.size - 1, by omega⟩
  have pm : m < s.size := by omega
  have em : (s.size : Int) - 1 = (m : Int) := by omega
  have pm0 : (0 : Int) ≤ (m : Int) := by omega
  by_cases hl : s[m].toNat = 32
  · have e3 : ((s[m].toNat : Int) == 32) = true := by rw [beq_iff_eq]; omega
    have HE := Lib.hid (nmB_no (s := s) (fun h => h.2.2.2.1 m pm hm hl))
    go_wp2
    go_ret
    exact ⟨ret_bool' HE.out.symm, rfl⟩
  have e3 : ((s[m].toNat : Int) == 32) = false := by rw [beq_eq_false_iff_ne]; omega
  have HF := Lib.hid hf
  have hl2 : ∀ k (h : k < s.size), k + 1 = s.size → s[k].toNat ≠ 32 := by
    intro k h e
    obtain rfl : k = m := by omega
    exact hl
  have HL := Lib.hid hl2
  have HS := Lib.hid (show 1 ≤ s.size ∧ s.size ≤ 40 from ⟨p0, by omega⟩)
  clear hf hl hl2
  go_wp2
  go_loopw [3] (fun i wr => ∃ k : Nat, k ≤ s.size ∧ i = .int .i64 (k : Nat) ∧ Hid (∀ j (h : j < s.size), j < k → 32 ≤ s[j].toNat ∧ s[j].toNat ≤ 126) ∧ wr = w) (fun i _ => s.size - (intOf i).toNat)
  case atStart => exact ⟨0, Nat.zero_le _, rfl, Lib.hid (fun j _ h => absurd h (Nat.not_lt_zero _)), rfl⟩
  case round =>
    obtain ⟨k, hk, rfl, HM, rfl⟩ := hrel
    by_cases hlt : k < s.size
    · by_cases h1 : s[k].toNat < 32
      · have d1 : decide ((s[k].toNat : Int) < 32) = true := by simp; omega
        have HE := Lib.hid (nmB_no (s := s) (fun h => by have := (h.2.2.2.2 k hlt).1; omega))
        go_wp2
        go_ret
        exact ⟨ret_bool' HE.out.symm, rfl⟩
      · have d1 : decide ((s[k].toNat : Int) < 32) = false := by simp; omega
        by_cases h2 : 126 < s[k].toNat
        · have d2 : decide ((126 : Int) < (s[k].toNat : Int)) = true := by simp; omega
          have HE := Lib.hid (nmB_no (s := s) (fun h => by have := (h.2.2.2.2 k hlt).2; omega))
          go_wp2
          go_ret
          exact ⟨ret_bool' HE.out.symm, rfl⟩
        · have d2 : decide ((126 : Int) < (s[k].toNat : Int)) = false := by simp; omega
          have HN := Lib.hid (show ∀ j (h : j < s.size), j < k + 1 → 32 ≤ s[j].toNat ∧ s[j].toNat ≤ 126 from fun j h hj => if e : j = k then by subst e; exact ⟨by omega, by omega⟩ else HM.out j h (by omega))
          clear h1 h2
          go_wp2
          go_roundw
          case rel => exact ⟨k + 1, by omega, by go_num, HN, trivial⟩
          case measure => simp [intOf]; omega
    · obtain rfl : k = s.size := by omega
      have HE := Lib.hid (nmB_yes (s := s) ⟨HS.out.1, HS.out.2, fun _ => HF.out, HL.out, fun j h => HM.out j h h⟩)
      go_wp2
      go_ret
      exact ⟨ret_bool' HE.out.symm, rfl⟩
end Go.Proofs.Ytbkpokipibgdfaa
