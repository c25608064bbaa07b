/- Layer 4: a line feed's offset: piece.feed (54), node.feed (41). -/
import Derived.Test.YtonplacldckbgaaMP
namespace Go.Proofs.Ytonplacldckbgaa
open Go.RowKit Go.Shelf Go.Lib Pt

theorem index_any (l : List UInt8) (w : World) : Calls Try.prog 61 #[.string (bs l), .string { data := #[10] }] w fun e w' => e = .returned (.int .i64 (indexByte l 10)) ∧ w' = w := by
  have := Try.strings_Index_one (bs l) 10 w
  rw [bs_list] at this
  exact this
/-- How far piece.feed has come. -/
def FeedAt (p : List UInt8) (k a : Nat) : Prop := ∃ pre : List Nat, posL p 0 = pre ++ a :: posL (p.drop (a + 1)) (a + 1) ∧ pre.length = k ∧ a < p.length
theorem FeedAt.next {p : List UInt8} {k a : Nat} (h : FeedAt p k a) (hk : k + 1 < lf p) : ∃ i : Nat, indexByte (p.drop (a + 1)) 10 = (i : Int) ∧ i < (p.drop (a + 1)).length ∧ FeedAt p (k + 1) (a + 1 + i) := by
  obtain ⟨pre, h1, h2, h3⟩ := h
  have hl : 0 < lf (p.drop (a + 1)) := by
    have := posL_len p 0
    rw [h1, List.length_append, List.length_cons, posL_len] at this
    omega
  obtain ⟨i, j1, j2, j3, j4⟩ := posL_head _ hl
  refine ⟨i, j1, j2, pre ++ [a], ?_, by simp [h2], by rw [List.length_drop] at j2; omega⟩
  rw [h1, posL_at (p.drop (a + 1)) (a + 1), j3, List.map_cons, List.append_assoc, List.singleton_append, List.drop_drop]
  congr 2
  have e1 : i + (a + 1) = a + 1 + i := by omega
  rw [e1, posL_at _ (i + 1), List.map_map, posL_at (p.drop (a + 1 + i + 1)) (a + 1 + i + 1), show a + 1 + (i + 1) = a + 1 + i + 1 by omega]
  congr 1
  apply List.map_congr_left
  intro x _
  simp only [Function.comp]
  omega
theorem FeedAt.get {p : List UInt8} {k a : Nat} (h : FeedAt p k a) : (posL p 0)[k]? = some a := by
  obtain ⟨pre, h1, h2, _⟩ := h
  rw [h1, List.getElem?_append_right (by omega), h2, Nat.sub_self]
  rfl
set_option maxRecDepth 100000 in
set_option maxHeartbeats 8000000 in
theorem pfeed_any (p : List UInt8) (k : Nat) (w : World) (hp : p.length ≤ 200000) (hk : k < lf p) : Calls Try.prog 54 #[pcV p, .int .i64 (k : Nat)] w fun e w' => ∃ a : Nat, e = .returned (.int .i64 (a : Nat)) ∧ (posL p 0)[k]? = some a ∧ Below w.heap.size w w' := by
  have oop := ObjAt.new w #[.string (bs p), .int .i64 (lf p : Nat)] 92
  have hb0 : Below w.heap.size w (w.alloc (.cells #[.string (bs p), .int .i64 (lf p : Nat)] 92)) := (Below.refl _ w).alloc (Nat.le_refl _) _
  have z0 := oop.a0
  have hz := bs_size p
  obtain ⟨i0, j1, j2, j3, j4⟩ := posL_head p (by omega)
  have hF0 : FeedAt p 0 i0 := ⟨[], j3, rfl, j2⟩
  have cI := index_any p (w.alloc (.cells #[.string (bs p), .int .i64 (lf p : Nat)] 92))
  rw [j1] at cI
  have hlf : lf p ≤ p.length := List.count_le_length
  clear j1 j2 j3 j4 oop
  unfold pcV
  go_enter Try.func54, Try.ntmps54
  go_wp2_with fail
  generalize w.alloc (.cells #[.string (bs p), .int .i64 (lf p : Nat)] 92) = W at *
  (with_reducible refine cI.mono ?_)
  rintro e W ⟨rfl, rfl⟩
  clear cI
  go_wp2_with fail
  go_loop [5, 10] (fun av iv => ∃ (i a : Nat), i ≤ k ∧ iv = .int .i64 (i : Nat) ∧ av = .int .i64 (a : Nat) ∧ FeedAt p i a) (fun _ iv => k - (RowKit.intOf iv).toNat)
  case atStart => exact ⟨0, i0, Nat.zero_le _, rfl, rfl, hF0⟩
  case round =>
    clear hF0
    obtain ⟨i, a, hi, rfl, rfl, hF⟩ := hrel
    have ha : a < p.length := by obtain ⟨_, _, _, h⟩ := hF; exact h
    by_cases hlt : i < k
    · obtain ⟨d, d1, d2, d3⟩ := hF.next (by omega)
      have hd : d ≤ 200000 := by rw [List.length_drop] at d2; omega
      have cI := index_any (p.drop (a + 1)) W
      rw [d1] at cI
      have q1 : (i : Int) < (k : Int) := by omega
      have q2 : a + 1 ≤ p.length := by omega
      have x1 : (bs p).extract (a + 1) p.length = bs (p.drop (a + 1)) := ext_drop p (a + 1)
      clear d1 d2 hF
      go_wp2_with fail
      (with_reducible refine cI.mono ?_)
      rintro e W ⟨rfl, rfl⟩
      clear cI
      go_wp2
      go_round
      case rel => exact ⟨i + 1, a + 1 + d, by omega, by go_num, by go_num, d3⟩
      case measure => simp [RowKit.intOf]; omega
    · obtain rfl : i = k := by omega
      have HG := Go.Lib.hid hF.get
      clear hF
      go_wp2
      go_ret
      exact ⟨a, rfl, HG.out, hb0⟩
end Go.Proofs.Ytonplacldckbgaa
