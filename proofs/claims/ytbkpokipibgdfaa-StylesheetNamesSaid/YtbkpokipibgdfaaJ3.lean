/- Layer 7: what is known of a row; the reference's Fits. -/
import Derived.Test.YtbkpokipibgdfaaJ2
import Derived.Test.YtbkpokipibgdfaaHb
import Derived.Test.YtbkpokipibgdfaaHe
import Derived.Test.YtbkpokipibgdfaaHf
namespace Go.Proofs.Ytbkpokipibgdfaa
open Go.RowKit Go.Lib

theorem tab_uniq {r r' : Row} (h : r ∈ tabP) (h' : r' ∈ tabP) (e : r.1 = r'.1) : r = r' := by
  obtain ⟨i, hi, rfl⟩ := List.mem_iff_getElem.1 h
  obtain ⟨j, hj, rfl⟩ := List.mem_iff_getElem.1 h'
  rcases Nat.lt_trichotomy i j with h1 | h1 | h1
  · have := tab_sort i j hi hj h1; omega
  · subst h1; rfl
  · have := tab_sort j i hj hi h1; omega
theorem of_no (p : Int) (hx : ¬ ∃ r ∈ tabP, r.1 = p) (w : World) : Calls Try.prog 35 #[.int .i64 p] w fun e w' => e = .returned (.tuple #[.agg #[.int .i64 0, .int .i64 0, .int .i64 0, .int .i64 0, .int .i64 0, .string ⟨#[]⟩], .bool false]) ∧ Below w.heap.size w w' :=
  (of_any p w).mono fun e w' ⟨h, hb⟩ => ⟨by
    rcases h with ⟨r, hr, hk, _⟩ | ⟨_, he⟩
    · exact absurd ⟨r, hr, hk⟩ hx
    · exact he, hb⟩
section
variable (ra : Int) (rb : ByteArray) (rc rd re rf : Int) (hm : (ra, rb, rc, rd, re, rf) ∈ tabP)
include hm
theorem of_row (w : World) : Calls Try.prog 35 #[.int .i64 ra] w fun e w' => e = .returned (.tuple #[.agg #[.int .i64 ra, .int .i64 rc, .int .i64 rd, .int .i64 re, .int .i64 rf, .string rb], .bool true]) ∧ Below w.heap.size w w' :=
  (of_any ra w).mono fun e w' ⟨h, hb⟩ => ⟨by
    rcases h with ⟨r, hr, hk, he⟩ | ⟨hn, _⟩
    · obtain rfl := tab_uniq hr hm hk
      exact he
    · exact absurd rfl (hn _ hm), hb⟩
theorem fits_row (x : Int) (w : World) : Calls Try.prog 71 #[.int .i64 x, .int .i64 ra] w fun e w' => e = .returned (.bool (hasG x rc)) ∧ Below w.heap.size w w' :=
  (fits_yes x ra ⟨_, hm, rfl⟩ w).mono fun e w' ⟨⟨r, hr, hk, he⟩, hb⟩ => ⟨by
    obtain rfl := tab_uniq hr hm hk
    exact he, hb⟩
theorem checkv_row (v : Int) (w : World) : Calls Try.prog 72 #[.int .i64 ra, .int .i64 v] w fun e w' => e = .returned (.int .i64 (valE (ra, rb, rc, rd, re, rf) v)) ∧ Below w.heap.size w w' :=
  (checkv_yes ra v ⟨_, hm, rfl⟩ w).mono fun e w' ⟨⟨r, hr, hk, he⟩, hb⟩ => ⟨by
    obtain rfl := tab_uniq hr hm hk
    exact he, hb⟩
theorem group_row (w : World) : Calls Try.prog 77 #[.int .i64 ra] w fun e w' => e = .returned (.tuple #[.int .i64 rc, .int .i64 0]) ∧ Below w.heap.size w w' :=
  (group_yes ra ⟨_, hm, rfl⟩ w).mono fun e w' ⟨⟨r, hr, hk, he⟩, hb⟩ => ⟨by
    obtain rfl := tab_uniq hr hm hk
    exact he, hb⟩
theorem preset_row (w : World) : Calls Try.prog 82 #[.int .i64 ra] w fun e w' => e = .returned (.tuple #[.int .i64 rf, .int .i64 0]) ∧ Below w.heap.size w w' :=
  (preset_yes ra ⟨_, hm, rfl⟩ w).mono fun e w' ⟨⟨r, hr, hk, he⟩, hb⟩ => ⟨by
    obtain rfl := tab_uniq hr hm hk
    exact he, hb⟩
theorem find_row (w : World) : Calls Try.prog 88 #[.int .i64 ra] w fun e w' => e = .returned (.tuple #[.agg #[.int .i64 ra, .string rb, .int .i64 rc, .int .i64 rd, .int .i64 re, .int .i64 rf], .int .i64 0]) ∧ Below w.heap.size w w' :=
  (find_yes ra ⟨_, hm, rfl⟩ w).mono fun e w' ⟨⟨r, hr, hk, he⟩, hb⟩ => ⟨by
    obtain rfl := tab_uniq hr hm hk
    exact he, hb⟩
end
set_option maxRecDepth 100000 in
set_option maxHeartbeats 2000000 in
theorem rfits_no (x p : Int) (hx : ¬ ∃ r ∈ tabP, r.1 = p) (w : World) : Calls Try.prog 79 #[.int .i64 x, .int .i64 p] w fun e w' => e = .returned (.bool false) ∧ Below w.heap.size w w' := by
  have cF := fun w' => of_no p hx w'
  clear hx
  go_enter Try.func79, Try.ntmps79
  go_wp2_with (go_at_call 35; (with_reducible refine (cF _).mono ?_); rintro e w1 ⟨rfl, hb1⟩)
  go_ret
  exact ⟨rfl, hb1.alloc hb1.size _⟩
set_option maxRecDepth 100000 in
set_option maxHeartbeats 8000000 in
theorem rfits_row (x ra : Int) (rb : ByteArray) (rc rd re rf : Int) (hm : (ra, rb, rc, rd, re, rf) ∈ tabP) (w : World) : Calls Try.prog 79 #[.int .i64 x, .int .i64 ra] w fun e w' => e = .returned (.bool (hasG x rc)) ∧ Below w.heap.size w w' := by
  have cF := fun w' => of_row ra rb rc rd re rf hm w'
  clear hm
  by_cases h1 : x = 1
  · subst h1
    go_enter Try.func79, Try.ntmps79
    go_wp2_with (go_at_call 35; (with_reducible refine (cF _).mono ?_); rintro e w1 ⟨rfl, hb1⟩)
    go_ret
    exact ⟨ret_bool' (by simp [hasG]), hb1.alloc hb1.size _⟩
  by_cases h4 : x = 4
  · subst h4
    go_enter Try.func79, Try.ntmps79
    go_wp2_with (go_at_call 35; (with_reducible refine (cF _).mono ?_); rintro e w1 ⟨rfl, hb1⟩)
    go_ret
    exact ⟨ret_bool' (by simp [hasG]), hb1.alloc hb1.size _⟩
  by_cases h5 : x = 5
  · subst h5
    go_enter Try.func79, Try.ntmps79
    go_wp2_with (go_at_call 35; (with_reducible refine (cF _).mono ?_); rintro e w1 ⟨rfl, hb1⟩)
    go_ret
    exact ⟨ret_bool' (by simp [hasG]), hb1.alloc hb1.size _⟩
  by_cases h6 : x = 6
  · subst h6
    go_enter Try.func79, Try.ntmps79
    go_wp2_with (go_at_call 35; (with_reducible refine (cF _).mono ?_); rintro e w1 ⟨rfl, hb1⟩)
    go_ret
    exact ⟨ret_bool' (by simp [hasG]), hb1.alloc hb1.size _⟩
  by_cases h2 : x = 2
  · subst h2
    by_cases hg : rc = 1
    · subst hg
      go_enter Try.func79, Try.ntmps79
      go_wp2_with (go_at_call 35; (with_reducible refine (cF _).mono ?_); rintro e w1 ⟨rfl, hb1⟩)
      go_ret
      exact ⟨ret_bool' (by simp [hasG]), hb1.alloc hb1.size _⟩
    · have hgb : (rc == 1) = false := neB hg
      go_enter Try.func79, Try.ntmps79
      go_wp2_with (go_at_call 35; (with_reducible refine (cF _).mono ?_); rintro e w1 ⟨rfl, hb1⟩)
      go_ret
      exact ⟨ret_bool' (by simp [hasG, hg]), hb1.alloc hb1.size _⟩
  by_cases h3 : x = 3
  · subst h3
    go_enter Try.func79, Try.ntmps79
    go_wp2_with (go_at_call 35; (with_reducible refine (cF _).mono ?_); rintro e w1 ⟨rfl, hb1⟩)
    go_ret
    exact ⟨ret_bool' (by simp [hasG]), hb1.alloc hb1.size _⟩
  by_cases h9 : x = 9
  · subst h9
    go_enter Try.func79, Try.ntmps79
    go_wp2_with (go_at_call 35; (with_reducible refine (cF _).mono ?_); rintro e w1 ⟨rfl, hb1⟩)
    go_ret
    exact ⟨ret_bool' (by simp [hasG]), hb1.alloc hb1.size _⟩
  by_cases h10 : x = 10
  · subst h10
    go_enter Try.func79, Try.ntmps79
    go_wp2_with (go_at_call 35; (with_reducible refine (cF _).mono ?_); rintro e w1 ⟨rfl, hb1⟩)
    go_ret
    exact ⟨ret_bool' (by simp [hasG]), hb1.alloc hb1.size _⟩
  by_cases h7 : x = 7
  · subst h7
    go_enter Try.func79, Try.ntmps79
    go_wp2_with (go_at_call 35; (with_reducible refine (cF _).mono ?_); rintro e w1 ⟨rfl, hb1⟩)
    go_ret
    exact ⟨ret_bool' (by simp [hasG]), hb1.alloc hb1.size _⟩
  have b1 : (x == 1) = false := neB h1
  have b4 : (x == 4) = false := neB h4
  have b5 : (x == 5) = false := neB h5
  have b6 : (x == 6) = false := neB h6
  have b2 : (x == 2) = false := neB h2
  have b3 : (x == 3) = false := neB h3
  have b9 : (x == 9) = false := neB h9
  have b10 : (x == 10) = false := neB h10
  have b7 : (x == 7) = false := neB h7
  go_enter Try.func79, Try.ntmps79
  go_wp2_with (go_at_call 35; (with_reducible refine (cF _).mono ?_); rintro e w1 ⟨rfl, hb1⟩)
  go_ret
  exact ⟨ret_bool' (by simp [hasG, h1, h4, h5, h6, h2, h3, h7, h9, h10]), hb1.alloc hb1.size _⟩
end Go.Proofs.Ytbkpokipibgdfaa
