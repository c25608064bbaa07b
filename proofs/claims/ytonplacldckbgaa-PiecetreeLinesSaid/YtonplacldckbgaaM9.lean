/- Layer 4: check (35), New (22). -/
import Derived.Test.YtonplacldckbgaaM8
namespace Go.Proofs.Ytonplacldckbgaa
open Go.RowKit Go.Lib Pt

set_option maxRecDepth 100000 in
set_option maxHeartbeats 4000000 in
theorem check_nil (x y : Int) (w : World) : Calls Try.prog 35 #[.pointer none, .int .i64 x, .int .i64 y] w fun e w' => e = .returned (.int .i64 1) ∧ w' = w := by
  go_enter Try.func35, Try.ntmps35
  go_wp2
  go_ret
  exact ⟨rfl, rfl⟩
set_option maxRecDepth 100000 in
set_option maxHeartbeats 4000000 in
theorem check_ok {b : Nat} {t : Tr} (x y : Int) (w : World) (h : TAt w b t) (h1 : ¬ x < 0) (h2 : ¬ y < x) (h3 : ¬ ((t.bytes.length : Nat) : Int) < y) : Calls Try.prog 35 #[.pointer (some ⟨b, 0, none⟩), .int .i64 x, .int .i64 y] w fun e w' => e = .returned (.int .i64 0) ∧ Below w.heap.size w w' := by
  go_enter Try.func35, Try.ntmps35
  go_wp2_with (go_at_call 33; refine (len_any _ h).mono ?_; rintro e w1 ⟨rfl, k1⟩)
  go_ret
  exact ⟨rfl, k1⟩
set_option maxRecDepth 100000 in
set_option maxHeartbeats 4000000 in
theorem check_bad1 {b : Nat} (x y : Int) (w : World) (h1 : x < 0) : Calls Try.prog 35 #[.pointer (some ⟨b, 0, none⟩), .int .i64 x, .int .i64 y] w fun e w' => e = .returned (.int .i64 2) ∧ Below w.heap.size w w' := by
  go_enter Try.func35, Try.ntmps35
  go_wp2
  go_ret
  exact ⟨rfl, Below.refl _ _⟩
set_option maxRecDepth 100000 in
set_option maxHeartbeats 4000000 in
theorem check_bad2 {b : Nat} (x y : Int) (w : World) (h1 : ¬ x < 0) (h2 : y < x) : Calls Try.prog 35 #[.pointer (some ⟨b, 0, none⟩), .int .i64 x, .int .i64 y] w fun e w' => e = .returned (.int .i64 2) ∧ Below w.heap.size w w' := by
  go_enter Try.func35, Try.ntmps35
  go_wp2
  go_ret
  exact ⟨rfl, Below.refl _ _⟩
set_option maxRecDepth 100000 in
set_option maxHeartbeats 4000000 in
theorem check_bad3 {b : Nat} {t : Tr} (x y : Int) (w : World) (h : TAt w b t) (h1 : ¬ x < 0) (h2 : ¬ y < x) (h3 : ((t.bytes.length : Nat) : Int) < y) : Calls Try.prog 35 #[.pointer (some ⟨b, 0, none⟩), .int .i64 x, .int .i64 y] w fun e w' => e = .returned (.int .i64 2) ∧ Below w.heap.size w w' := by
  go_enter Try.func35, Try.ntmps35
  go_wp2_with (go_at_call 33; refine (len_any _ h).mono ?_; rintro e w1 ⟨rfl, k1⟩)
  go_ret
  exact ⟨rfl, k1⟩
/-- What check answers for a tree. -/
def chk (x y : Int) (n : Nat) : Int := if x < 0 ∨ y < x ∨ (n : Int) < y then 2 else 0
theorem check_any {b : Nat} {t : Tr} (x y : Int) (w : World) (h : TAt w b t) : Calls Try.prog 35 #[.pointer (some ⟨b, 0, none⟩), .int .i64 x, .int .i64 y] w fun e w' => e = .returned (.int .i64 (chk x y t.bytes.length)) ∧ Below w.heap.size w w' := by
  unfold chk
  by_cases h1 : x < 0
  · rw [if_pos (Or.inl h1)]; exact check_bad1 x y w h1
  · by_cases h2 : y < x
    · rw [if_pos (Or.inr (Or.inl h2))]; exact check_bad2 x y w h1 h2
    · by_cases h3 : ((t.bytes.length : Nat) : Int) < y
      · rw [if_pos (Or.inr (Or.inr h3))]; exact check_bad3 x y w h h1 h2 h3
      · rw [if_neg (by simp [h1, h2, h3])]; exact check_ok x y w h h1 h2 h3
/-- A string of one piece, or none. -/
def newT (s : List UInt8) : Tr := aroundT .nil s .nil
set_option maxRecDepth 100000 in
set_option maxHeartbeats 4000000 in
theorem new_any (s : List UInt8) (w : World) (hs : s.length ≤ 65536) : Calls Try.prog 22 #[.string (bs s)] w fun e w' => ∃ b, e = .returned (.tuple #[.pointer (some ⟨b, 0, none⟩), .int .i64 0]) ∧ w.heap.size ≤ b ∧ TAt w' b (newT s) ∧ Below w.heap.size w w' := by
  have hz : (bs s).size = s.length := bs_size s
  have hf : Fine (.node .nil s .nil) := ⟨by simp only [Tr.bytes, List.length_append, List.length_nil]; omega, by simp only [Tr.pcs]; omega⟩
  go_enter Try.func22, Try.ntmps22
  go_wp2_with fail
  refine (around_any w hf rfl rfl).mono ?_
  intro e w1 h1
  unfold RetN at h1
  obtain ⟨A, rfl, n, k1⟩ := h1
  go_wp2
  refine bodyPost_ret (results_tmp2 rfl _ _ _) rfl ?_
  refine ⟨w1.heap.size, rfl, k1.size, ?_, k1.alloc k1.size _⟩
  refine ⟨A, by rw [World.cell?_alloc_new]; rfl, by rw [World.cell?_alloc_new]; rfl, World.frozen?_alloc_new _ _ _ _, by rw [World.size_alloc]; exact Nat.lt_succ_self _, NAt.below ((Below.refl _ w1).alloc (Nat.le_refl _) _) n⟩
set_option maxRecDepth 100000 in
set_option maxHeartbeats 4000000 in
theorem new_long (s : List UInt8) (w : World) (hs : 65536 < s.length) (hs2 : s.length ≤ 1000000) : Calls Try.prog 22 #[.string (bs s)] w fun e w' => e = .returned (.tuple #[.pointer none, .int .i64 10]) ∧ w' = w := by
  have hz : (bs s).size = s.length := bs_size s
  go_enter Try.func22, Try.ntmps22
  go_wp2
  refine bodyPost_ret (results_tmp2 rfl _ _ _) rfl ?_
  exact ⟨rfl, rfl⟩
end Go.Proofs.Ytonplacldckbgaa
