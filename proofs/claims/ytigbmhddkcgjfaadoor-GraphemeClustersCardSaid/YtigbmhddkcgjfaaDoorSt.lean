import Derived.Test.YtigbmhddkcgjfaaDoorGb
import Derived.Test.YtigbmhddkcgjfaaDoorProg
import Derived.Ground.NamesProg
import Derived.WalkKit
import Derived.WalkMore
import Derived.Below
import Derived.Lib.Hide
import Derived.Laws.AppendOwn
import Derived.RangeFuncBox
namespace Go.Proofs.YtigbmhddkcgjfaaDoor
open Go.RowKit
open Gc

theorem ret_bool {a b : Bool} (h : a = b) : Ending.returned (.bool a) = .returned (.bool b) := by rw [h]

theorem control_any (c : Int) (w : World) : Calls Tryd.prog 56 #[.int .i64 c] w fun e w' => e = .returned (.bool (Gc.control c)) ∧ w = w' := by
  generalize hK : Gc.control c = K
  unfold Gc.control at hK
  by_cases h1 : c = 1
  · subst h1
    have H := Go.Lib.hid hK; clear hK
    go_enter Tryd.func56, Tryd.ntmps56
    go_wp2
    go_ret
    exact ⟨ret_bool (by first | (rw [← H.out]; rfl) | (rw [← H.out, Bool.eq_iff_iff]; simp; done) | (rw [← H.out, Bool.eq_iff_iff]; simp; omega) | (rw [← H.out]; simp_all; done) | (rw [← H.out]; simp_all; rfl)), rfl⟩
  by_cases h2 : c = 2
  · subst h2
    have H := Go.Lib.hid hK; clear hK
    go_enter Tryd.func56, Tryd.ntmps56
    go_wp2
    go_ret
    exact ⟨ret_bool (by first | (rw [← H.out]; rfl) | (rw [← H.out, Bool.eq_iff_iff]; simp; done) | (rw [← H.out, Bool.eq_iff_iff]; simp; omega) | (rw [← H.out]; simp_all; done) | (rw [← H.out]; simp_all; rfl)), rfl⟩
  have H := Go.Lib.hid hK; clear hK
  have b1 : (c == 1) = false := by simp [h1]
  have b2 : (c == 2) = false := by simp [h2]
  go_enter Tryd.func56, Tryd.ntmps56
  go_wp2
  go_ret
  exact ⟨ret_bool (by first | (rw [← H.out]; rfl) | (rw [← H.out, Bool.eq_iff_iff]; simp; done) | (rw [← H.out, Bool.eq_iff_iff]; simp; omega) | (rw [← H.out]; simp_all; done) | (rw [← H.out]; simp_all; rfl)), rfl⟩

set_option maxHeartbeats 1000000 in
theorem syllable_any (a b : Int) (w : World) : Calls Tryd.prog 57 #[.int .i64 a, .int .i64 b] w fun e w' => e = .returned (.bool (syllable a b)) ∧ w = w' := by
  generalize hK : syllable a b = K
  unfold syllable at hK
  by_cases h1 : a = 8
  · subst h1
    have H := Go.Lib.hid hK; clear hK
    go_enter Tryd.func57, Tryd.ntmps57
    go_wp2
    all_goals (go_ret; exact ⟨ret_bool (by first | (rw [← H.out]; rfl) | (rw [← H.out, Bool.eq_iff_iff]; simp; done) | (rw [← H.out, Bool.eq_iff_iff]; simp; omega) | (rw [← H.out]; simp_all; done) | (rw [← H.out]; simp_all; rfl)), rfl⟩)
  by_cases h2 : a = 11 ∨ a = 9
  · rcases h2 with rfl | rfl
    all_goals
      have H := Go.Lib.hid hK; clear hK
      go_enter Tryd.func57, Tryd.ntmps57
      go_wp2
      all_goals (go_ret; exact ⟨ret_bool (by first | (rw [← H.out]; rfl) | (rw [← H.out, Bool.eq_iff_iff]; simp; done) | (rw [← H.out, Bool.eq_iff_iff]; simp; omega) | (rw [← H.out]; simp_all; done) | (rw [← H.out]; simp_all; rfl)), rfl⟩)
  by_cases h3 : a = 12 ∨ a = 10
  · rcases h3 with rfl | rfl
    all_goals
      have H := Go.Lib.hid hK; clear hK
      go_enter Tryd.func57, Tryd.ntmps57
      go_wp2
      all_goals (go_ret; exact ⟨ret_bool (by first | (rw [← H.out]; rfl) | (rw [← H.out, Bool.eq_iff_iff]; simp; done) | (rw [← H.out, Bool.eq_iff_iff]; simp; omega) | (rw [← H.out]; simp_all; done) | (rw [← H.out]; simp_all; rfl)), rfl⟩)
  have H := Go.Lib.hid hK; clear hK
  have n2 : ¬ a = 11 := by omega
  have n3 : ¬ a = 9 := by omega
  have n4 : ¬ a = 12 := by omega
  have n5 : ¬ a = 10 := by omega
  have b1 : (a == 8) = false := by simp [h1]
  have b2 : (a == 11) = false := by simp [n2]
  have b3 : (a == 9) = false := by simp [n3]
  have b4 : (a == 12) = false := by simp [n4]
  have b5 : (a == 10) = false := by simp [n5]
  go_enter Tryd.func57, Tryd.ntmps57
  go_wp2
  go_ret
  exact ⟨ret_bool (by first | (rw [← H.out]; rfl) | (rw [← H.out, Bool.eq_iff_iff]; simp; done) | (rw [← H.out, Bool.eq_iff_iff]; simp; omega) | (rw [← H.out]; simp_all; done) | (rw [← H.out]; simp_all; rfl)), rfl⟩

end Go.Proofs.YtigbmhddkcgjfaaDoor
