import Derived.Test.YtigbmhddkcgjfaaDoorRh
namespace Go.Proofs.YtigbmhddkcgjfaaDoor
open Go.RowKit Go.Shelf
open Gc

def str1 : ByteArray := ⟨#[101, 204, 129, 120]⟩
def str2 : ByteArray := ⟨#[240, 159, 135, 166, 240, 159, 135, 166, 240, 159, 135, 166, 240, 159, 135, 166, 240, 159, 135, 166]⟩
def str3 : ByteArray := ⟨#[240, 159, 145, 168, 226, 128, 141, 240, 159, 145, 169]⟩
theorem Cs.lt {w : World} {g : Nat} {cs : List Int} (h : Cs w g cs) : g < w.heap.size := h.1
theorem pts_of (P : List Nat) (h : (P.all fun p => decide (U.isPt p)) = true) : U.Pts P := fun p hp => by simpa using List.all_eq_true.1 h p hp
theorem s1_str : Str str1 [101, 769, 120] [] := ⟨pts_of _ (by decide), by decide, rfl, by decide⟩
theorem s2_str : Str str2 [127462, 127462, 127462, 127462, 127462] [] := ⟨pts_of _ (by decide), by decide, rfl, by decide⟩
theorem s3_str : Str str3 [128104, 8205, 128105] [] := ⟨pts_of _ (by decide), by decide, rfl, by decide⟩
theorem s1_bl : bl (cls (cp [101, 769, 120])) = [0, 2, 3] := by decide +kernel
theorem s2_bl : bl (cls (cp [127462, 127462, 127462, 127462, 127462])) = [0, 2, 4, 5] := by decide +kernel
theorem s3_cl : (cls (cp [128104, 8205, 128105])).length = 1 := by decide +kernel
theorem cl_lvt : classOf 44033 = 12 := by decide +kernel

/-- Boundaries' result in a block. -/
def BlkPost (l : List Int) (w : World) (e : Ending) (w' : World) : Prop := ∃ g cap, e = .returned (.tuple #[.slice (some ⟨g, 0, none⟩) l.length cap, .int .i64 0]) ∧ w.heap.size ≤ g ∧ Cs w' g l ∧ Below w.heap.size w w'
theorem blk_of {l : List Int} (hl : l ≠ []) {w : World} {e : Ending} {w' : World} (h : IntsPost l w e w') : BlkPost l w e w' := by
  obtain ⟨v, rfl, hv, hb⟩ := h
  rcases ints_cases hv with ⟨h0, _⟩ | ⟨g, cap, hg, rfl, hC⟩
  · exact absurd h0 hl
  · exact ⟨g, cap, rfl, hg, hC, hb⟩
theorem bl_ne (l : List (Nat × Nat)) : bl l ≠ [] := by unfold bl; simp
theorem bounds_blk {s : ByteArray} {P : List Nat} (h : Str s P []) (w : World) (hT : Tabs w) : Calls Tryd.prog 16 #[.string s] w (BlkPost (bl (cls (cp P))) w) :=
  (boundaries_any h w hT).mono fun _ _ hp => blk_of (bl_ne _) hp

theorem cs_three (w : World) (a b c : Int) : Cs (w.alloc (.cells #[.int .i64 a, .int .i64 b, .int .i64 c] 3)) w.heap.size [a, b, c] := by
  refine ⟨by simp, fun k hk => ?_⟩
  match k, hk with
  | 0, _ => simp
  | 1, _ => simp
  | 2, _ => simp
theorem cs_four (w : World) (a b c d : Int) : Cs (w.alloc (.cells #[.int .i64 a, .int .i64 b, .int .i64 c, .int .i64 d] 3)) w.heap.size [a, b, c, d] := by
  refine ⟨by simp, fun k hk => ?_⟩
  match k, hk with
  | 0, _ => simp
  | 1, _ => simp
  | 2, _ => simp
  | 3, _ => simp

set_option maxRecDepth 100000 in
set_option maxHeartbeats 4000000 in
theorem known_any (w : World) (hT : Tabs w) : Calls Tryd.prog 12 #[] w (BoolPost true w) := by
  have c1 := bounds_blk s1_str w hT
  rw [s1_bl] at c1
  have c2 := fun w' hT' => bounds_blk s2_str w' hT'
  rw [s2_bl] at c2
  have c3 := fun w' hT' => count_any s3_str w' hT'
  rw [s3_cl] at c3
  have c4 := fun w' => class_any 44033 w'
  rw [cl_lvt] at c4
  unfold str1 at c1
  unfold str2 at c2
  unfold str3 at c3
  have HT := Go.Lib.hid hT
  clear hT
  go_enter Tryd.func12, Tryd.ntmps12
  go_wp2_with (first
    | (go_at_call 16; (with_reducible refine c1.mono ?_); rintro e w1 ⟨g1, p1, rfl, hg1, C1, b1⟩; have K1 := Go.Lib.hid C1; have B1 := Go.Lib.hid b1; clear C1 b1 c1)
    | (go_at_call 16; (with_reducible refine (c2 w1 (HT.out.below B1.out)).mono ?_); rintro e w2 ⟨g2, p2, rfl, hg2, C2, b2⟩; have K2 := Go.Lib.hid C2; have B2 := Go.Lib.hid (B1.out.trans (b2.mono B1.out.size)); have K12 := Go.Lib.hid (K1.out.below b2 K1.out.1); clear C2 b2 c2)
    | (go_at_call 21; (with_reducible refine (c3 w2 (HT.out.below B2.out)).mono ?_); rintro e w3 ⟨rfl, b3⟩; have B3 := Go.Lib.hid (B2.out.trans (b3.mono B2.out.size)); have K13 := Go.Lib.hid (K12.out.below b3 K12.out.1); have K23 := Go.Lib.hid (K2.out.below b3 K2.out.1); clear b3)
    | (go_at_call 18; (with_reducible refine (same_any [0, 2, 3] 3 g1 p1 w3.heap.size 3 rfl (by decide) _ (K13.out.below ((Below.refl _ w3).alloc (Nat.le_refl _) _) K13.out.lt) (cs_three w3 0 2 3)).mono ?_); rintro e w4 ⟨rfl, b4⟩; have B4 := Go.Lib.hid ((B3.out.alloc B3.out.size _).trans (b4.mono (by have := B3.out.size; simp; omega))); have K24 := Go.Lib.hid ((K23.out.below ((Below.refl _ w3).alloc (Nat.le_refl _) _) K23.out.lt).below b4 (by have := K23.out.1; simp; omega)); clear b4)
    | (go_at_call 18; (with_reducible refine (same_any [0, 2, 4, 5] 4 g2 p2 w4.heap.size 4 rfl (by decide) _ (K24.out.below ((Below.refl _ w4).alloc (Nat.le_refl _) _) K24.out.lt) (cs_four w4 0 2 4 5)).mono ?_); rintro e w5 ⟨rfl, b5⟩; have B5 := Go.Lib.hid ((B4.out.alloc B4.out.size _).trans (b5.mono (by have := B4.out.size; simp; omega))); clear b5)
    | (go_at_call 13; (with_reducible refine (c4 _).mono ?_); rintro e w6 ⟨rfl, b6⟩; have B6 := Go.Lib.hid (B5.out.trans (b6.mono B5.out.size)); clear b6))
  go_ret
  exact ⟨rfl, B6.out⟩
end Go.Proofs.YtigbmhddkcgjfaaDoor
