import Derived.Test.YtigbmhddkcgjfaaDoorSu
namespace Go.Proofs.YtigbmhddkcgjfaaDoor
open Go.RowKit
open Gc

def BoolPost (v : Bool) (w : World) (e : Ending) (w' : World) : Prop := e = .returned (.bool v) ∧ Below w.heap.size w w'
theorem BoolPost.mk {v u : Bool} (w : World) (h : v = u) : BoolPost v w (.returned (.bool u)) w := ⟨by rw [h], Below.refl _ _⟩

set_option maxRecDepth 100000 in
set_option maxHeartbeats 2000000 in
theorem boundary_any (g : Nat) (s : St) (b : Int) (w : World) (h : StAt w g s) : Calls Tryd.prog 48 #[.pointer (some ⟨g, 0, none⟩), .int .i64 b] w (BoolPost (s.boundary b) w) := by
  obtain ⟨c0, c1, c2, c3⟩ := h.cells
  clear h
  obtain ⟨l, p, j, o⟩ := s
  dsimp only at c0 c1 c2 c3
  by_cases h1 : l = 1
  · subst h1
    by_cases h2 : b = 2
    · subst h2
      have H := Go.Lib.hid (show St.boundary ⟨1, p, j, o⟩ 2 = false from rfl)
      generalize St.boundary ⟨1, p, j, o⟩ 2 = K at H ⊢
      go_enter Tryd.func48, Tryd.ntmps48
      go_wp2
      go_ret
      exact BoolPost.mk _ H.out
    · have hK : St.boundary ⟨1, p, j, o⟩ b = true := by
        unfold St.boundary
        dsimp only
        rw [if_neg (fun h => h2 h.2), if_pos]
        rfl
      have H := Go.Lib.hid hK
      generalize St.boundary ⟨1, p, j, o⟩ b = K at H ⊢
      clear hK
      have kl := fun w => control_any 1 w
      have e1 : Gc.control 1 = true := rfl
      rw [e1] at kl
      have b2 : (b == 2) = false := by simp [h2]
      clear e1
      go_enter Tryd.func48, Tryd.ntmps48
      go_wp2_with (go_at_call 56; (with_reducible refine (kl _).mono ?_); rintro e w' ⟨rfl, rfl⟩)
      go_ret
      exact BoolPost.mk _ H.out
  have kl := fun w => control_any l w
  have kb := fun w => control_any b w
  have ks := fun w => syllable_any l b w
  generalize hK : St.boundary ⟨l, p, j, o⟩ b = K
  unfold St.boundary at hK
  dsimp only at hK
  rw [if_neg (fun h => h1 h.1)] at hK
  generalize Gc.control l = cl at kl hK
  generalize Gc.control b = cb at kb hK
  generalize Gc.syllable l b = sl at ks hK
  have b1 : (l == 1) = false := by simp [h1]
  have N1 := Go.Lib.hid h1
  clear h1
  cases cl with
  | true =>
    have H := Go.Lib.hid hK; clear hK kb ks
    go_enter Tryd.func48, Tryd.ntmps48
    go_wp2_with (go_at_call 56; (with_reducible refine (kl _).mono ?_); rintro e w' ⟨rfl, rfl⟩)
    go_ret
    exact BoolPost.mk _ (by rw [← H.out]; rfl)
  | false =>
  cases cb with
  | true =>
    have H := Go.Lib.hid hK; clear hK ks
    go_enter Tryd.func48, Tryd.ntmps48
    go_wp2_with (first
      | (go_at_call 56; (with_reducible refine (kl _).mono ?_); rintro e w' ⟨rfl, rfl⟩)
      | (go_at_call 56; (with_reducible refine (kb _).mono ?_); rintro e w' ⟨rfl, rfl⟩))
    go_ret
    exact BoolPost.mk _ (by rw [← H.out]; rfl)
  | false =>
  cases sl with
  | true =>
    have H := Go.Lib.hid hK; clear hK
    go_enter Tryd.func48, Tryd.ntmps48
    go_wp2_with (first
      | (go_at_call 56; (with_reducible refine (kl _).mono ?_); rintro e w' ⟨rfl, rfl⟩)
      | (go_at_call 56; (with_reducible refine (kb _).mono ?_); rintro e w' ⟨rfl, rfl⟩)
      | (go_at_call 57; (with_reducible refine (ks _).mono ?_); rintro e w' ⟨rfl, rfl⟩))
    go_ret
    exact BoolPost.mk _ (by rw [← H.out]; rfl)
  | false =>
    rw [if_neg (by simp), if_neg (by simp)] at hK
    by_cases h4 : b = 4 ∨ b = 5 ∨ b = 7
    · rw [if_pos h4] at hK
      have H := Go.Lib.hid hK; clear hK
      rcases h4 with rfl | rfl | rfl
      all_goals
        go_enter Tryd.func48, Tryd.ntmps48
        go_wp2_with (first
          | (go_at_call 56; (with_reducible refine (kl _).mono ?_); rintro e w' ⟨rfl, rfl⟩)
          | (go_at_call 56; (with_reducible refine (kb _).mono ?_); rintro e w' ⟨rfl, rfl⟩)
          | (go_at_call 57; (with_reducible refine (ks _).mono ?_); rintro e w' ⟨rfl, rfl⟩))
        go_ret
        exact BoolPost.mk _ H.out.symm
    · rw [if_neg h4] at hK
      have n4 : (b == 4) = false := by simp; omega
      have n5 : (b == 5) = false := by simp; omega
      have n7 : (b == 7) = false := by simp; omega
      have N4 := Go.Lib.hid h4
      clear h4
      by_cases h6 : l = 6
      · subst h6
        rw [if_pos rfl] at hK
        have H := Go.Lib.hid hK; clear hK
        go_enter Tryd.func48, Tryd.ntmps48
        go_wp2_with (first
          | (go_at_call 56; (with_reducible refine (kl _).mono ?_); rintro e w' ⟨rfl, rfl⟩)
          | (go_at_call 56; (with_reducible refine (kb _).mono ?_); rintro e w' ⟨rfl, rfl⟩)
          | (go_at_call 57; (with_reducible refine (ks _).mono ?_); rintro e w' ⟨rfl, rfl⟩))
        go_ret
        exact BoolPost.mk _ H.out.symm
      · rw [if_neg h6] at hK
        have n6 : (l == 6) = false := by simp [h6]
        have N6 := Go.Lib.hid h6
        clear h6
        have H := Go.Lib.hid hK; clear hK
        cases j <;> cases o
        all_goals
          go_enter Tryd.func48, Tryd.ntmps48
          go_wp2_with (first
            | (go_at_call 56; (with_reducible refine (kl _).mono ?_); rintro e w' ⟨rfl, rfl⟩)
            | (go_at_call 56; (with_reducible refine (kb _).mono ?_); rintro e w' ⟨rfl, rfl⟩)
            | (go_at_call 57; (with_reducible refine (ks _).mono ?_); rintro e w' ⟨rfl, rfl⟩))
          all_goals
            go_ret
            exact BoolPost.mk _ (by rw [← H.out]; simp_all)
end Go.Proofs.YtigbmhddkcgjfaaDoor
