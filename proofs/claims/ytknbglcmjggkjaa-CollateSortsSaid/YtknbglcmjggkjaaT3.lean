/- Layer 6: isDigit (73), isSilent (75), base (74), letter (76), Check (17), the weights of an element (61, 63, 65). -/
import Derived.Test.YtknbglcmjggkjaaT2
namespace Go.Proofs.Ytknbglcmjggkjaa
open Go.RowKit Go.Lib Co

theorem ret_bool {a b : Bool} (h : a = b) : Ending.returned (Value.bool a) = Ending.returned (Value.bool b) := by rw [h]
set_option maxRecDepth 100000 in
set_option maxHeartbeats 4000000 in
theorem digit_any (c : Nat) (w : World) (hc : c ≤ 2000000) : Calls Try.prog 73 #[.int .i64 (c : Nat)] w fun e w' => e = .returned (.bool (dig c)) ∧ w' = w := by
  by_cases h1 : 48 ≤ c
  · by_cases h2 : c ≤ 57
    · have hd := Go.Lib.hid (show dig c = true by simp [dig, h1, h2])
      go_enter Try.func73, Try.ntmps73
      go_wp2
      go_ret
      exact ⟨ret_bool (by first | (rw [hd.out]; done) | (rw [hd.out]; simp; done) | (rw [hd.out]; simp; omega)), rfl⟩
    · have hd := Go.Lib.hid (show dig c = false by simp [dig, h2])
      go_enter Try.func73, Try.ntmps73
      go_wp2
      go_ret
      exact ⟨ret_bool (by first | (rw [hd.out]; done) | (rw [hd.out]; simp; done) | (rw [hd.out]; simp; omega)), rfl⟩
  · have hd := Go.Lib.hid (show dig c = false by simp [dig, h1])
    go_enter Try.func73, Try.ntmps73
    go_wp2
    go_ret
    exact ⟨ret_bool (by first | (rw [hd.out]; done) | (rw [hd.out]; simp; done) | (rw [hd.out]; simp; omega)), rfl⟩
set_option maxRecDepth 100000 in
set_option maxHeartbeats 4000000 in
theorem silent_any (c : Nat) (w : World) (hc : c ≤ 2000000) : Calls Try.prog 75 #[.int .i64 (c : Nat)] w fun e w' => e = .returned (.bool (silent c)) ∧ w' = w := by
  by_cases h1 : c < 32
  · have hd := Go.Lib.hid (show silent c = true by simp [silent, h1])
    go_enter Try.func75, Try.ntmps75
    go_wp2
    go_ret
    exact ⟨ret_bool (by first | (rw [hd.out]; done) | (rw [hd.out]; simp; done) | (rw [hd.out]; simp; omega)), rfl⟩
  · by_cases h2 : 127 ≤ c
    · by_cases h3 : c ≤ 159
      · have hd := Go.Lib.hid (show silent c = true by simp [silent, h2, h3])
        go_enter Try.func75, Try.ntmps75
        go_wp2
        go_ret
        exact ⟨ret_bool (by first | (rw [hd.out]; done) | (rw [hd.out]; simp; done) | (rw [hd.out]; simp; omega)), rfl⟩
      · have hd := Go.Lib.hid (show silent c = decide (c = 173) by simp [silent, h1, h3])
        by_cases h4 : c = 173
        · have i4 : (c : Int) = 173 := by omega
          rw [decide_eq_true h4] at hd
          go_enter Try.func75, Try.ntmps75
          go_wp2
          go_ret
          exact ⟨ret_bool (by first | (rw [hd.out]; done) | (rw [hd.out]; simp; done) | (rw [hd.out]; simp; omega)), rfl⟩
        · have i4 : ¬ (c : Int) = 173 := by omega
          rw [decide_eq_false h4] at hd
          go_enter Try.func75, Try.ntmps75
          go_wp2
          go_ret
          exact ⟨ret_bool (by first | (rw [hd.out]; done) | (rw [hd.out]; simp; done) | (rw [hd.out]; simp; omega)), rfl⟩
    · have hd := Go.Lib.hid (show silent c = false by simp [silent, h1, h2]; omega)
      have i4 : ¬ (c : Int) = 173 := by omega
      go_enter Try.func75, Try.ntmps75
      go_wp2
      go_ret
      exact ⟨ret_bool (by first | (rw [hd.out]; done) | (rw [hd.out]; simp; done) | (rw [hd.out]; simp; omega)), rfl⟩
/-- An element as a value. -/
def elV (e : El) : Value := .agg #[.int .i64 (e.1 : Nat), .int .i64 (e.2.1 : Nat), .int .i64 (e.2.2 : Nat)]
/-- An element that a call answers. -/
def ElR (e0 : El) (w : World) (e : Ending) (w' : World) : Prop := e = .returned (elV e0) ∧ Below w.heap.size w w'
set_option maxRecDepth 100000 in
set_option maxHeartbeats 4000000 in
theorem base_any (p : Nat) (w : World) : Calls Try.prog 74 #[.int .i64 (p : Nat)] w (ElR (p, 32, 2) w) := by
  go_enter Try.func74, Try.ntmps74
  go_wp2
  refine bodyPost_ret (v := elV (p, 32, 2)) ?_ rfl ⟨rfl, (Below.refl _ w).alloc (Nat.le_refl _) _⟩
  simp [results, Try.results74, go_sem, elV]
set_option maxRecDepth 100000 in
set_option maxHeartbeats 4000000 in
theorem letter_any (i t : Nat) (w : World) (hi : i ≤ 1000000) : Calls Try.prog 76 #[.int .i64 (i : Nat), .int .i64 (t : Nat)] w (ElR (32768 + 4 * i, 32, t) w) := by
  go_enter Try.func76, Try.ntmps76
  go_wp2
  refine bodyPost_ret (v := elV (32768 + 4 * i, 32, t)) ?_ rfl ⟨rfl, (Below.refl _ w).alloc (Nat.le_refl _) _⟩
  simp [results, Try.results76, go_sem, elV]
/-- Options as a value. -/
def opV (st : Int) (nu ig uf : Bool) : Value := .agg #[.int .i64 st, .bool nu, .bool ig, .bool uf]
set_option maxRecDepth 100000 in
set_option maxHeartbeats 4000000 in
theorem check_any (st : Int) (nu ig uf : Bool) (w : World) : Calls Try.prog 17 #[opV st nu ig uf] w fun e w' => e = .returned (.int .i64 (if st < 1 ∨ 4 < st then 5 else 0)) ∧ Below w.heap.size w w' := by
  unfold opV
  have hB : Below w.heap.size w (w.alloc (.cells #[.int .i64 st, .bool nu, .bool ig, .bool uf] 23)) := (Below.refl _ w).alloc (Nat.le_refl _) _
  by_cases h1 : st < 1
  · rw [if_pos (.inl h1)]
    go_enter Try.func17, Try.ntmps17
    go_wp2
    go_ret
    exact ⟨rfl, hB⟩
  · by_cases h2 : 4 < st
    · rw [if_pos (.inr h2)]
      go_enter Try.func17, Try.ntmps17
      go_wp2
      go_ret
      exact ⟨rfl, hB⟩
    · rw [if_neg (by omega)]
      go_enter Try.func17, Try.ntmps17
      go_wp2
      go_ret
      exact ⟨rfl, hB⟩
set_option maxRecDepth 100000 in
set_option maxHeartbeats 4000000 in
theorem prim_any (x : El) (w : World) : Calls Try.prog 61 #[elV x] w fun e w' => e = .returned (.int .i64 (x.1 : Nat)) ∧ Below w.heap.size w w' := by
  unfold elV
  go_enter Try.func61, Try.ntmps61
  go_wp2
  go_ret
  exact ⟨rfl, (Below.refl _ w).alloc (Nat.le_refl _) _⟩
set_option maxRecDepth 100000 in
set_option maxHeartbeats 4000000 in
theorem sec_any (x : El) (w : World) : Calls Try.prog 63 #[elV x] w fun e w' => e = .returned (.int .i64 (x.2.1 : Nat)) ∧ Below w.heap.size w w' := by
  unfold elV
  go_enter Try.func63, Try.ntmps63
  go_wp2
  go_ret
  exact ⟨rfl, (Below.refl _ w).alloc (Nat.le_refl _) _⟩
set_option maxRecDepth 100000 in
set_option maxHeartbeats 4000000 in
theorem ter_any (x : El) (w : World) : Calls Try.prog 65 #[elV x] w fun e w' => e = .returned (.int .i64 (x.2.2 : Nat)) ∧ Below w.heap.size w w' := by
  unfold elV
  go_enter Try.func65, Try.ntmps65
  go_wp2
  go_ret
  exact ⟨rfl, (Below.refl _ w).alloc (Nat.le_refl _) _⟩
end Go.Proofs.Ytknbglcmjggkjaa
