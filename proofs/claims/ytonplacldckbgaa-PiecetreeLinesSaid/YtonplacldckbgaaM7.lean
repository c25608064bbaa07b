/- Layer 4: joinAround (40), New (22); the methods that only ask. -/
import Derived.Test.YtonplacldckbgaaM6
namespace Go.Proofs.Ytonplacldckbgaa
open Go.RowKit Go.Lib Pt

theorem aroundT_bp (l : Tr) (s : List UInt8) (r : Tr) : (aroundT l s r).bytes = l.bytes ++ s ++ r.bytes ∧ (aroundT l s r).pcs ≤ l.pcs + 1 + r.pcs := by
  unfold aroundT
  by_cases hs : s = []
  · subst hs
    simp only [ne_eq, not_true_eq_false, if_false]
    cases r with
    | nil => exact ⟨by simp [Tr.bytes], by simp only [Tr.pcs]; omega⟩
    | node a q b =>
      obtain ⟨t1, t2⟩ := takeF_bp (.node a q b) (by simp)
      simp only []
      refine ⟨?_, ?_⟩
      · rw [joinT_bytes, List.append_assoc, t1]; simp
      · rw [joinT_pcs]; omega
  · rw [if_pos hs]
    exact ⟨joinT_bytes _ _ _, by rw [joinT_pcs]; omega⟩
theorem bs_toList (l : List UInt8) : (bs l).toList = l := by rw [Lib.toList_data, bs_list]
theorem bs_ne {s : List UInt8} (h : s ≠ []) : (bs s).toList.isEmpty = false := by
  rw [bs_toList]
  cases s with
  | nil => exact absurd rfl h
  | cons _ _ => rfl
set_option maxRecDepth 100000 in
set_option maxHeartbeats 4000000 in
theorem around_s {l r : Tr} {s : List UInt8} {L R : Option Addr} (w : World) (hs : s ≠ []) (hf : Fine (.node l s r)) (hl : NAt w l L) (hr : NAt w r R) : Calls Try.prog 40 #[.pointer L, .string (bs s), .pointer R] w (RetN (aroundT l s r) w) := by
  have hb := bs_ne hs
  have hz : (bs s).size ≤ 281474976710656 := by rw [bs_size]; have := hf.piece; omega
  have HB := Lib.hid (show aroundT l s r = joinT l s r by unfold aroundT; rw [if_pos hs])
  go_enter Try.func40, Try.ntmps40
  go_wp2_with fail
  refine (clone_any _ w hz).mono ?_
  rintro e w1 ⟨rfl, k1⟩
  go_wp2_with fail
  refine (piece_any _ w1).mono ?_
  rintro e w2 ⟨rfl, k2⟩
  have hB := k1.trans (k2.mono k1.size)
  go_wp2_with fail
  refine (join_any w2 hf (NAt.below hB hl) (NAt.below hB hr)).mono ?_
  intro e w3 h3
  unfold RetN at h3
  obtain ⟨A, rfl, n, k3⟩ := h3
  go_wp2
  go_ret
  exact ⟨A, rfl, by rw [HB.out]; exact n, hB.trans (k3.mono (Nat.le_trans k1.size k2.size))⟩
set_option maxRecDepth 100000 in
set_option maxHeartbeats 4000000 in
theorem around_n {l : Tr} {L : Option Addr} (w : World) (hl : NAt w l L) : Calls Try.prog 40 #[.pointer L, .string (bs []), .pointer none] w (RetN (aroundT l [] .nil) w) := by
  have hb : (bs []).toList.isEmpty = true := by rw [bs_toList]; rfl
  go_enter Try.func40, Try.ntmps40
  go_wp2
  go_ret
  exact ⟨L, rfl, hl, Below.refl _ _⟩
set_option maxRecDepth 100000 in
set_option maxHeartbeats 4000000 in
theorem around_e {l r : Tr} {L R : Option Addr} (w : World) (hn : r ≠ .nil) (hf : Fine (.node l [] r)) (hl : NAt w l L) (hr : NAt w r R) : Calls Try.prog 40 #[.pointer L, .string (bs []), .pointer R] w (RetN (aroundT l [] r) w) := by
  have hb : (bs []).toList.isEmpty = true := by rw [bs_toList]; rfl
  have HB := Lib.hid (show aroundT l [] r = joinT l (takeF r).1 (takeF r).2 by cases r with
    | nil => exact absurd rfl hn
    | node _ _ _ => rfl)
  obtain ⟨g, rfl⟩ : ∃ g, R = some g := by
    cases r with
    | nil => exact absurd rfl hn
    | node _ _ _ => obtain ⟨g, _, _, e, _⟩ := hr; exact ⟨_, e⟩
  obtain ⟨u1, u2⟩ := takeF_bp r hn
  have c53 := first_any r (some g) w hf.right hn hr
  generalize (takeF r).1 = f at *
  generalize (takeF r).2 = s at *
  have f1 : Fine (.node l f s) := hf.of (by simp only [Tr.bytes, List.length_append]; rw [← u1]; simp only [List.length_append, List.length_nil]; omega) (by simp only [Tr.pcs]; omega)
  go_enter Try.func40, Try.ntmps40
  go_wp2_with fail
  refine c53.mono ?_
  intro e w1 h1
  unfold RetPN at h1
  obtain ⟨A1, rfl, n1, k1⟩ := h1
  unfold pcV
  have hB : Below w.heap.size w (w1.alloc (.cells #[.string (bs f), .int .i64 (lf f : Nat)] 92)) := k1.alloc k1.size _
  have hB1 : Below w1.heap.size w1 (w1.alloc (.cells #[.string (bs f), .int .i64 (lf f : Nat)] 92)) := (Below.refl _ w1).alloc (Nat.le_refl _) _
  go_wp2_with fail
  refine (join_any _ f1 (NAt.below hB hl) (NAt.below hB1 n1)).mono ?_
  intro e w3 h3
  unfold RetN at h3
  obtain ⟨A, rfl, n, k3⟩ := h3
  go_wp2
  go_ret
  exact ⟨A, rfl, by rw [HB.out]; exact n, hB.trans (k3.mono hB.size)⟩
theorem around_any {l r : Tr} {s : List UInt8} {L R : Option Addr} (w : World) (hf : Fine (.node l s r)) (hl : NAt w l L) (hr : NAt w r R) : Calls Try.prog 40 #[.pointer L, .string (bs s), .pointer R] w (RetN (aroundT l s r) w) := by
  by_cases hs : s = []
  · subst hs
    by_cases hn : r = .nil
    · subst hn
      obtain rfl : R = none := hr
      exact around_n w hl
    · exact around_e w hn hf hl hr
  · exact around_s w hs hf hl hr
end Go.Proofs.Ytonplacldckbgaa
