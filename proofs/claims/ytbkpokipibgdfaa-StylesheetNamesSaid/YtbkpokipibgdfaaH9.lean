/- Layer 7: groups of elements. -/
import Derived.Test.YtbkpokipibgdfaaH3
namespace Go.Proofs.Ytbkpokipibgdfaa
open Go.RowKit Go.Lib

/-- Whether elements of a kind have the keys of a group. -/
def hasG (e g : Int) : Bool := if e = 1 ∨ e = 4 ∨ e = 5 ∨ e = 6 then g == 1 else if e = 2 then g == 2 || g == 1 else if e = 3 then g == 3 else if e = 7 then g == 6 else if e = 9 then g == 4 else if e = 10 then g == 5 else false

theorem ret_bool' {a b : Bool} (h : a = b) : Ending.returned (.bool a) = .returned (.bool b) := by rw [h]
set_option maxRecDepth 100000 in
set_option maxHeartbeats 4000000 in
theorem hasG_any (e g : Int) (w : World) : Calls Try.prog 89 #[.int .i64 e, .int .i64 g] w fun x w' => x = .returned (.bool (hasG e g)) ∧ w = w' := by
  by_cases h1 : e = 1
  · subst h1
    go_enter Try.func89, Try.ntmps89
    go_wp2
    go_ret
    exact ⟨ret_bool' (by simp [hasG]), rfl⟩
  by_cases h4 : e = 4
  · subst h4
    go_enter Try.func89, Try.ntmps89
    go_wp2
    go_ret
    exact ⟨ret_bool' (by simp [hasG]), rfl⟩
  by_cases h5 : e = 5
  · subst h5
    go_enter Try.func89, Try.ntmps89
    go_wp2
    go_ret
    exact ⟨ret_bool' (by simp [hasG]), rfl⟩
  by_cases h6 : e = 6
  · subst h6
    go_enter Try.func89, Try.ntmps89
    go_wp2
    go_ret
    exact ⟨ret_bool' (by simp [hasG]), rfl⟩
  by_cases h2 : e = 2
  · subst h2
    by_cases hg : g = 2
    · subst hg
      go_enter Try.func89, Try.ntmps89
      go_wp2
      go_ret
      exact ⟨ret_bool' (by simp [hasG]), rfl⟩
    · have hgb : (g == 2) = false := neB hg
      go_enter Try.func89, Try.ntmps89
      go_wp2
      go_ret
      exact ⟨ret_bool' (by simp [hasG, hg]), rfl⟩
  by_cases h3 : e = 3
  · subst h3
    go_enter Try.func89, Try.ntmps89
    go_wp2
    go_ret
    exact ⟨ret_bool' (by simp [hasG]), rfl⟩
  by_cases h7 : e = 7
  · subst h7
    go_enter Try.func89, Try.ntmps89
    go_wp2
    go_ret
    exact ⟨ret_bool' (by simp [hasG]), rfl⟩
  by_cases h9 : e = 9
  · subst h9
    go_enter Try.func89, Try.ntmps89
    go_wp2
    go_ret
    exact ⟨ret_bool' (by simp [hasG]), rfl⟩
  by_cases h10 : e = 10
  · subst h10
    go_enter Try.func89, Try.ntmps89
    go_wp2
    go_ret
    exact ⟨ret_bool' (by simp [hasG]), rfl⟩
  have b1 : (e == 1) = false := neB h1
  have b4 : (e == 4) = false := neB h4
  have b5 : (e == 5) = false := neB h5
  have b6 : (e == 6) = false := neB h6
  have b2 : (e == 2) = false := neB h2
  have b3 : (e == 3) = false := neB h3
  have b7 : (e == 7) = false := neB h7
  have b9 : (e == 9) = false := neB h9
  have b10 : (e == 10) = false := neB h10
  go_enter Try.func89, Try.ntmps89
  go_wp2
  go_ret
  exact ⟨ret_bool' (by simp [hasG, h1, h4, h5, h6, h2, h3, h7, h9, h10]), rfl⟩
end Go.Proofs.Ytbkpokipibgdfaa
