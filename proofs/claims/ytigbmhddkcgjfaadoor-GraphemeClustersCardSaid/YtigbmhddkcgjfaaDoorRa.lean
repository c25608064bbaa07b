import Derived.Test.YtigbmhddkcgjfaaDoorNx
import Derived.RegionTactic
import Derived.ChangeAlike
import Derived.Deep.QuietTactic
import Derived.BigQuiet
namespace Go.Proofs.YtigbmhddkcgjfaaDoor
open Go.RowKit Go.Shelf Go.Lib
open Gc

theorem breaker_any (c : Int) (w : World) : Calls Tryd.prog 50 #[.int .i64 c] w fun e w' => e = .returned (.bool (Gc.control c)) ∧ w = w' := by
  generalize hK : Gc.control c = K
  unfold Gc.control at hK
  by_cases h1 : c = 1
  · subst h1
    have H := Go.Lib.hid hK; clear hK
    go_enter Tryd.func50, Tryd.ntmps50
    go_wp2
    go_ret
    exact ⟨ret_bool (by rw [← H.out]; rfl), rfl⟩
  by_cases h2 : c = 2
  · subst h2
    have H := Go.Lib.hid hK; clear hK
    go_enter Tryd.func50, Tryd.ntmps50
    go_wp2
    go_ret
    exact ⟨ret_bool (by rw [← H.out]; rfl), rfl⟩
  have H := Go.Lib.hid hK; clear hK
  have b1 : (c == 1) = false := by simp [h1]
  have b2 : (c == 2) = false := by simp [h2]
  go_enter Tryd.func50, Tryd.ntmps50
  go_wp2
  go_ret
  exact ⟨ret_bool (by first | (rw [← H.out]; rfl) | (rw [← H.out, Bool.eq_iff_iff]; simp; done) | (rw [← H.out, Bool.eq_iff_iff]; simp; omega)), rfl⟩

set_option maxHeartbeats 2000000 in
theorem syll_any (a b : Int) (w : World) : Calls Tryd.prog 51 #[.int .i64 a, .int .i64 b] w fun e w' => e = .returned (.bool (Gc.syllable a b)) ∧ w = w' := by
  generalize hK : Gc.syllable a b = K
  unfold Gc.syllable at hK
  have H := Go.Lib.hid hK; clear hK
  go_enter Tryd.func51, Tryd.ntmps51
  go_wp2
  all_goals
    go_ret
    refine ⟨ret_bool ?_, rfl⟩
    rw [← H.out]
    first | (simp_all; done) | (rw [Bool.eq_iff_iff]; simp_all; done) | (rw [Bool.eq_iff_iff]; simp; omega) | (rw [Bool.eq_iff_iff]; simp_all; omega)
end Go.Proofs.YtigbmhddkcgjfaaDoor
