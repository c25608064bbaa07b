import Derived.Test.YtigbmhddkcgjfaaDoorFl
namespace Go.Proofs.YtigbmhddkcgjfaaDoor
open Go.RowKit Go.Shelf Go.Lib
open Gc

theorem iter_below (w : World) (s : ByteArray) (p : Nat) : Below w.heap.size w (w.iter s p) := (Below.refl _ _).alloc (Nat.le_refl _) _
theorem runes_any {s : ByteArray} {P : List Nat} (h : Str s P []) (w : World) : Calls Tryd.prog 55 #[.string s] w (IntPost (P.length : Nat) w) :=
  (Tryd.utf8_RuneCountInString s w (by have := h.size; omega)).mono fun e w' ⟨h1, pos, h2⟩ => by
    subst h1; subst h2
    rw [U.runeCount_bytes s P h.pts h.whole]
    exact ⟨rfl, iter_below w s pos⟩

/-- The error of the functions that take an offset. -/
def errOf (P : List Nat) (bad : List UInt8) (at' : Int) : Int := if bad ≠ [] then 12 else if at' < 0 ∨ (P.length : Int) < at' then 2 else 0

set_option maxRecDepth 100000 in
set_option maxHeartbeats 2000000 in
theorem check_any {s : ByteArray} {P : List Nat} {bad : List UInt8} (h : Str s P bad) (at' : Int) (w : World) (hT : Tabs w) : Calls Tryd.prog 42 #[.string s, .int .i64 at'] w (IntPost (errOf P bad at') w) := by
  have cV := valid_any h w hT
  unfold errOf
  by_cases hb : bad = []
  · subst hb
    rw [if_neg (fun h => h rfl)]
    rw [decide_eq_true rfl] at cV
    have cR := fun w => runes_any h w
    have hl := h.len
    clear h
    generalize P.length = n at cR hl ⊢
    by_cases h1 : at' < 0
    · rw [if_pos (.inl h1)]
      go_enter Tryd.func42, Tryd.ntmps42
      go_wp2_with (first
        | (go_at_call 36; (with_reducible refine cV.mono ?_); rintro e w1 ⟨rfl, hb1⟩))
      go_ret
      exact ⟨rfl, hb1⟩
    · by_cases h2 : (n : Int) < at'
      · rw [if_pos (.inr h2)]
        go_enter Tryd.func42, Tryd.ntmps42
        go_wp2_with (first
          | (go_at_call 36; (with_reducible refine cV.mono ?_); rintro e w1 ⟨rfl, hb1⟩)
          | (go_at_call 55; (with_reducible refine (cR _).mono ?_); rintro e w2 ⟨rfl, hb2⟩))
        go_ret
        exact ⟨rfl, hb1.trans (hb2.mono hb1.size)⟩
      · rw [if_neg (by omega)]
        go_enter Tryd.func42, Tryd.ntmps42
        go_wp2_with (first
          | (go_at_call 36; (with_reducible refine cV.mono ?_); rintro e w1 ⟨rfl, hb1⟩)
          | (go_at_call 55; (with_reducible refine (cR _).mono ?_); rintro e w2 ⟨rfl, hb2⟩))
        go_ret
        exact ⟨rfl, hb1.trans (hb2.mono hb1.size)⟩
  · rw [if_pos hb]
    rw [decide_eq_false hb] at cV
    clear h
    go_enter Tryd.func42, Tryd.ntmps42
    go_wp2_with (first
      | (go_at_call 36; (with_reducible refine cV.mono ?_); rintro e w1 ⟨rfl, hb1⟩))
    go_ret
    exact ⟨rfl, hb1⟩
end Go.Proofs.YtigbmhddkcgjfaaDoor
