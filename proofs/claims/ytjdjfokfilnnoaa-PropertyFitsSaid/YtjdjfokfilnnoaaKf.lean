/- Layer 7: the law of Fits. -/
import Derived.Test.YtjdjfokfilnnoaaJ3
import Derived.Test.YtjdjfokfilnnoaaHd
namespace Go.Proofs.Ytjdjfokfilnnoaa
open Go.RowKit Go.Lib

set_option maxRecDepth 100000 in
set_option maxHeartbeats 4000000 in
theorem law_fits (x p v : Int) (w : World) : Calls Try.prog 5 #[.int .i64 x, .int .i64 p, .int .i64 v] w fun e w' => e = .returned (.bool true) ∧ Below w.heap.size w w' := by
  have cK := fun w' => known_any w'
  by_cases hx : ∃ r ∈ tabP, r.1 = p
  · obtain ⟨⟨ra, rb, rc, rd, re, rf⟩, hm, rfl⟩ := hx
    have cO := fun w' => of_row ra rb rc rd re rf hm w'
    have cF := fun w' => fits_row ra rb rc rd re rf hm x w'
    have cG := fun w' => rfits_row x ra rb rc rd re rf hm w'
    have cV := fun w' => checkv_row ra rb rc rd re rf hm v w'
    clear hm
    unfold valE at cV
    dsimp only at cV ⊢
    by_cases h1 : v < rd
    · rw [if_pos (.inl h1)] at cV
      go_enter Try.func5, Try.ntmps5
      go_wp2_with (first
        | (go_at_call 18; (with_reducible refine (cO _).mono ?_); rintro e w1 ⟨rfl, hb1⟩)
        | (go_at_call 19; (with_reducible refine (cK _).mono ?_); rintro e w2 ⟨rfl, hb2⟩)
        | (go_at_call 25; (with_reducible refine (cF _).mono ?_); rintro e w3 ⟨rfl, hb3⟩)
        | (go_at_call 26; (with_reducible refine (cG _).mono ?_); rintro e w4 ⟨rfl, hb4⟩)
        | (go_at_call 20; (with_reducible refine (cV _).mono ?_); rintro e w5 ⟨rfl, hb5⟩))
      go_ret
      exact ⟨ret_bool' (by simp), (((((hb1.alloc hb1.size _).trans (hb2.mono (by simp; have := hb1.size; omega))).trans (hb3.mono (by have := hb1.size; have := hb2.size; simp at *; omega))).trans (hb4.mono (by have := hb1.size; have := hb2.size; have := hb3.size; simp at *; omega))).trans (hb5.mono (by have := hb1.size; have := hb2.size; have := hb3.size; have := hb4.size; simp at *; omega)))⟩
    · by_cases h2 : re < v
      · rw [if_pos (.inr h2)] at cV
        go_enter Try.func5, Try.ntmps5
        go_wp2_with (first
          | (go_at_call 18; (with_reducible refine (cO _).mono ?_); rintro e w1 ⟨rfl, hb1⟩)
          | (go_at_call 19; (with_reducible refine (cK _).mono ?_); rintro e w2 ⟨rfl, hb2⟩)
          | (go_at_call 25; (with_reducible refine (cF _).mono ?_); rintro e w3 ⟨rfl, hb3⟩)
          | (go_at_call 26; (with_reducible refine (cG _).mono ?_); rintro e w4 ⟨rfl, hb4⟩)
          | (go_at_call 20; (with_reducible refine (cV _).mono ?_); rintro e w5 ⟨rfl, hb5⟩))
        go_ret
        exact ⟨ret_bool' (by simp), (((((hb1.alloc hb1.size _).trans (hb2.mono (by simp; have := hb1.size; omega))).trans (hb3.mono (by have := hb1.size; have := hb2.size; simp at *; omega))).trans (hb4.mono (by have := hb1.size; have := hb2.size; have := hb3.size; simp at *; omega))).trans (hb5.mono (by have := hb1.size; have := hb2.size; have := hb3.size; have := hb4.size; simp at *; omega)))⟩
      · rw [if_neg (by omega)] at cV
        go_enter Try.func5, Try.ntmps5
        go_wp2_with (first
          | (go_at_call 18; (with_reducible refine (cO _).mono ?_); rintro e w1 ⟨rfl, hb1⟩)
          | (go_at_call 19; (with_reducible refine (cK _).mono ?_); rintro e w2 ⟨rfl, hb2⟩)
          | (go_at_call 25; (with_reducible refine (cF _).mono ?_); rintro e w3 ⟨rfl, hb3⟩)
          | (go_at_call 26; (with_reducible refine (cG _).mono ?_); rintro e w4 ⟨rfl, hb4⟩)
          | (go_at_call 20; (with_reducible refine (cV _).mono ?_); rintro e w5 ⟨rfl, hb5⟩))
        go_ret
        exact ⟨ret_bool' (by simp), (((((hb1.alloc hb1.size _).trans (hb2.mono (by simp; have := hb1.size; omega))).trans (hb3.mono (by have := hb1.size; have := hb2.size; simp at *; omega))).trans (hb4.mono (by have := hb1.size; have := hb2.size; have := hb3.size; simp at *; omega))).trans (hb5.mono (by have := hb1.size; have := hb2.size; have := hb3.size; have := hb4.size; simp at *; omega)))⟩
  · have cO := fun w' => of_no p hx w'
    have cF := fun w' => fits_no x p hx w'
    have cG := fun w' => rfits_no x p hx w'
    have cV := fun w' => checkv_no p v hx w'
    clear hx
    go_enter Try.func5, Try.ntmps5
    go_wp2_with (first
      | (go_at_call 18; (with_reducible refine (cO _).mono ?_); rintro e w1 ⟨rfl, hb1⟩)
      | (go_at_call 19; (with_reducible refine (cK _).mono ?_); rintro e w2 ⟨rfl, hb2⟩)
      | (go_at_call 25; (with_reducible refine (cF _).mono ?_); rintro e w3 ⟨rfl, hb3⟩)
      | (go_at_call 26; (with_reducible refine (cG _).mono ?_); rintro e w4 ⟨rfl, hb4⟩)
      | (go_at_call 20; (with_reducible refine (cV _).mono ?_); rintro e w5 ⟨rfl, hb5⟩))
    go_ret
    exact ⟨ret_bool' (by simp), (((((hb1.alloc hb1.size _).trans (hb2.mono (by simp; have := hb1.size; omega))).trans (hb3.mono (by have := hb1.size; have := hb2.size; simp at *; omega))).trans (hb4.mono (by have := hb1.size; have := hb2.size; have := hb3.size; simp at *; omega))).trans (hb5.mono (by have := hb1.size; have := hb2.size; have := hb3.size; have := hb4.size; simp at *; omega)))⟩
end Go.Proofs.Ytjdjfokfilnnoaa
