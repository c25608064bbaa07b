/- Layer 5: check; the methods of a nil map; Set, Add, Splice that check refuses. -/
import Derived.Test.YtioehncdkdfcmaaA2
namespace Go.Proofs.Ytioehncdkdfcmaa
open Go.RowKit Go.Lib

set_option maxRecDepth 100000 in
theorem check_nil (a b : Int) (w : World) : Calls Try.prog 44 #[.pointer none, .int .i64 a, .int .i64 b] w fun e w' => e = .returned (.int .i64 1) ∧ Below w.heap.size w w' := by
  go_enter Try.func44, Try.ntmps44
  go_wp2
  go_ret
  exact ⟨by simp, by exact Below.refl _ _⟩
set_option maxRecDepth 100000 in
theorem len_nil  (w : World) : Calls Try.prog 17 #[.pointer none] w fun e w' => e = .returned (.int .i64 0) ∧ Below w.heap.size w w' := by
  go_enter Try.func17, Try.ntmps17
  go_wp2
  go_ret
  exact ⟨by simp, by exact Below.refl _ _⟩
set_option maxRecDepth 100000 in
theorem runs_nil  (w : World) : Calls Try.prog 16 #[.pointer none] w fun e w' => e = .returned (.slice none 0 0) ∧ Below w.heap.size w w' := by
  go_enter Try.func16, Try.ntmps16
  go_wp2
  go_ret
  exact ⟨by simp, by exact Below.refl _ _⟩
set_option maxRecDepth 100000 in
theorem at_nil (a : Int) (w : World) : Calls Try.prog 18 #[.pointer none, .int .i64 a] w fun e w' => e = .returned (.tuple #[.int .i64 0, .int .i64 1]) ∧ Below w.heap.size w w' := by
  go_enter Try.func18, Try.ntmps18
  go_wp2
  go_ret2
  exact ⟨by simp, by exact Below.refl _ _⟩
set_option maxRecDepth 100000 in
theorem next_nil (a : Int) (w : World) : Calls Try.prog 19 #[.pointer none, .int .i64 a] w fun e w' => e = .returned (.tuple #[.int .i64 0, .bool false]) ∧ Below w.heap.size w w' := by
  go_enter Try.func19, Try.ntmps19
  go_wp2
  go_ret2
  exact ⟨by simp, by exact Below.refl _ _⟩
set_option maxRecDepth 100000 in
theorem find_nil (a v : Int) (w : World) : Calls Try.prog 20 #[.pointer none, .int .i64 a, .int .i64 v] w fun e w' => e = .returned (.tuple #[.int .i64 0, .bool false]) ∧ Below w.heap.size w w' := by
  go_enter Try.func20, Try.ntmps20
  go_wp2
  refine bodyPost_ret (v := .tuple #[.int .i64 0, .bool false]) ?_ rfl ⟨rfl, (((Below.refl _ w).alloc (Nat.le_refl _) _).alloc (by simp) _).alloc (by simp; omega) _⟩
  simp [results, Try.results20, go_sem]
set_option maxRecDepth 100000 in
theorem clone_nil  (w : World) : Calls Try.prog 26 #[.pointer none] w fun e w' => e = .returned (.pointer none) ∧ Below w.heap.size w w' := by
  go_enter Try.func26, Try.ntmps26
  go_wp2
  go_ret
  exact ⟨by simp, by exact Below.refl _ _⟩
set_option maxRecDepth 100000 in
theorem equal_nil  (w : World) : Calls Try.prog 28 #[.pointer none, .pointer none] w fun e w' => e = .returned (.bool true) ∧ Below w.heap.size w w' := by
  go_enter Try.func28, Try.ntmps28
  go_wp2
  go_ret
  exact ⟨by simp, by exact Below.refl _ _⟩
set_option maxRecDepth 100000 in
theorem equal_nil_l (b : Nat) (w : World) : Calls Try.prog 28 #[.pointer none, .pointer (some ⟨b, 0, none⟩)] w fun e w' => e = .returned (.bool false) ∧ Below w.heap.size w w' := by
  go_enter Try.func28, Try.ntmps28
  have hq : ∀ w' : World, Sem.run Try.prog (binOp BinOp.eql 25 (Value.pointer none) (Value.pointer (some ⟨b, 0, none⟩))) w' = Result.ok (.bool false) w' := fun w' => by first | rfl | (simp [go_sem, binOp]; done) | (unfold binOp; rfl)
  go_wp2
  go_ret
  exact ⟨by simp, by exact Below.refl _ _⟩
set_option maxRecDepth 100000 in
theorem equal_nil_r (b : Nat) (w : World) : Calls Try.prog 28 #[.pointer (some ⟨b, 0, none⟩), .pointer none] w fun e w' => e = .returned (.bool false) ∧ Below w.heap.size w w' := by
  go_enter Try.func28, Try.ntmps28
  go_wp2
  go_ret
  exact ⟨by simp, by exact Below.refl _ _⟩
set_option maxRecDepth 100000 in
theorem zip_nil_l (p : Option Addr) (w : World) : Calls Try.prog 31 #[.pointer none, .pointer p] w fun e w' => e = .returned (.tuple #[.slice none 0 0, .int .i64 1]) ∧ Below w.heap.size w w' := by
  go_enter Try.func31, Try.ntmps31
  go_wp2
  go_ret2
  exact ⟨by simp, by exact Below.refl _ _⟩
set_option maxRecDepth 100000 in
theorem zip_nil_r (b : Nat) (w : World) : Calls Try.prog 31 #[.pointer (some ⟨b, 0, none⟩), .pointer none] w fun e w' => e = .returned (.tuple #[.slice none 0 0, .int .i64 1]) ∧ Below w.heap.size w w' := by
  go_enter Try.func31, Try.ntmps31
  go_wp2
  go_ret2
  exact ⟨by simp, by exact Below.refl _ _⟩
set_option maxRecDepth 100000 in
theorem total_nil (a b v : Int) (w : World) : Calls Try.prog 23 #[.pointer none, .int .i64 a, .int .i64 b, .int .i64 v] w fun e w' => e = .returned (.tuple #[.int .i64 0, .int .i64 1]) ∧ Below w.heap.size w w' := by
  go_enter Try.func23, Try.ntmps23
  go_wp2_with (go_at_call 44; refine (check_nil _ _ _).mono ?_; rintro e w2 ⟨rfl, hb2⟩)
  go_ret2
  exact ⟨by simp, by first | exact hb2 | exact ((Below.refl _ w).alloc (Nat.le_refl _) _).trans (hb2.mono (by simp))⟩
set_option maxRecDepth 100000 in
theorem set_nil (a b v : Int) (w : World) : Calls Try.prog 27 #[.pointer none, .int .i64 a, .int .i64 b, .int .i64 v] w fun e w' => e = .returned (.int .i64 1) ∧ Below w.heap.size w w' := by
  go_enter Try.func27, Try.ntmps27
  go_wp2_with (go_at_call 44; refine (check_nil _ _ _).mono ?_; rintro e w2 ⟨rfl, hb2⟩)
  go_ret
  exact ⟨by simp, by first | exact hb2 | exact ((Below.refl _ w).alloc (Nat.le_refl _) _).trans (hb2.mono (by simp))⟩
set_option maxRecDepth 100000 in
theorem add_nil (a b v : Int) (w : World) : Calls Try.prog 34 #[.pointer none, .int .i64 a, .int .i64 b, .int .i64 v] w fun e w' => e = .returned (.int .i64 1) ∧ Below w.heap.size w w' := by
  go_enter Try.func34, Try.ntmps34
  go_wp2_with (go_at_call 44; refine (check_nil _ _ _).mono ?_; rintro e w2 ⟨rfl, hb2⟩)
  go_ret
  exact ⟨by simp, by first | exact hb2 | exact ((Below.refl _ w).alloc (Nat.le_refl _) _).trans (hb2.mono (by simp))⟩
set_option maxRecDepth 100000 in
theorem splice_nil (a b c v : Int) (w : World) : Calls Try.prog 30 #[.pointer none, .int .i64 a, .int .i64 b, .int .i64 c, .int .i64 v] w fun e w' => e = .returned (.int .i64 1) ∧ Below w.heap.size w w' := by
  go_enter Try.func30, Try.ntmps30
  go_wp2_with (go_at_call 44; refine (check_nil _ _ _).mono ?_; rintro e w2 ⟨rfl, hb2⟩)
  go_ret
  exact ⟨by simp, by first | exact hb2 | exact ((Below.refl _ w).alloc (Nat.le_refl _) _).trans (hb2.mono (by simp))⟩
/-- What check says. -/
def chkR (n a b : Int) : Int := if 0 ≤ a ∧ a ≤ b ∧ b ≤ n then 0 else 2
set_option maxRecDepth 100000 in
set_option maxHeartbeats 4000000 in
theorem check_any (m : Nat) (R : List Rn) (a b : Int) (w : World) (h : MpAt w m R) : Calls Try.prog 44 #[.pointer (some ⟨m, 0, none⟩), .int .i64 a, .int .i64 b] w fun e w' => e = .returned (.int .i64 (chkR (lenR R) a b)) ∧ Below w.heap.size w w' := by
  have cL := fun w' h => len_any m R w' h
  unfold chkR
  generalize lenR R = n at cL
  by_cases h1 : 0 ≤ a
  · by_cases h2 : a ≤ b
    · by_cases h3 : b ≤ n
      · rw [if_pos ⟨h1, h2, h3⟩]
        go_enter Try.func44, Try.ntmps44
        go_wp2_with (go_at_call 17; refine (cL _ h).mono ?_; rintro e w2 ⟨rfl, hb2⟩)
        go_ret
        exact ⟨by simp, hb2⟩
      · rw [if_neg (fun h => h3 h.2.2)]
        go_enter Try.func44, Try.ntmps44
        go_wp2_with (go_at_call 17; refine (cL _ h).mono ?_; rintro e w2 ⟨rfl, hb2⟩)
        go_ret
        exact ⟨by simp, hb2⟩
    · rw [if_neg (fun h => h2 h.2.1)]
      clear cL
      go_enter Try.func44, Try.ntmps44
      go_wp2
      go_ret
      exact ⟨by simp, Below.refl _ _⟩
  · rw [if_neg (fun h => h1 h.1)]
    clear cL
    go_enter Try.func44, Try.ntmps44
    go_wp2
    go_ret
    exact ⟨by simp, Below.refl _ _⟩
end Go.Proofs.Ytioehncdkdfcmaa
