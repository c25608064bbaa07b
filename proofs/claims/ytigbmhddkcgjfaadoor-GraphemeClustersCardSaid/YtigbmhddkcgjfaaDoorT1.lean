import Derived.Test.YtigbmhddkcgjfaaDoorProg
import Derived.Test.YtigbmhddkcgjfaaDoorGc
import Derived.Ground.NamesProg
import Derived.WalkKit
import Derived.WalkMore
import Derived.Below
namespace Go.Proofs.YtigbmhddkcgjfaaDoor
open Go.RowKit
open Gc

def spanV (s : Span) : Value := .agg #[.int .i64 s.1, .int .i64 s.2.1, .int .i64 s.2.2]
def cmpOf (s : Span) (p : Int) : Int := if s.2.1 < p then -1 else if p < s.1 then 1 else 0

set_option maxRecDepth 100000 in
set_option maxHeartbeats 1000000 in
theorem compare_any (s : Span) (p : Int) (w : World) :
    Calls Tryd.prog 45 #[spanV s, .int .i64 p] w fun e w' => e = .returned (.int .i64 (cmpOf s p)) ∧ Below w.heap.size w w' := by
  obtain ⟨a, b, c⟩ := s
  unfold spanV cmpOf
  dsimp only
  by_cases h1 : b < p
  · rw [if_pos h1]
    go_enter Tryd.func45, Tryd.ntmps45
    go_wp2
    go_ret
    exact ⟨rfl, (Below.refl _ _).alloc (Nat.le_refl _) _⟩
  · rw [if_neg h1]
    have h1' : ¬ b < p := h1
    by_cases h2 : p < a
    · rw [if_pos h2]
      go_enter Tryd.func45, Tryd.ntmps45
      go_wp2
      go_ret
      exact ⟨rfl, (Below.refl _ _).alloc (Nat.le_refl _) _⟩
    · rw [if_neg h2]
      go_enter Tryd.func45, Tryd.ntmps45
      go_wp2
      go_ret
      exact ⟨rfl, (Below.refl _ _).alloc (Nat.le_refl _) _⟩
end Go.Proofs.YtigbmhddkcgjfaaDoor
