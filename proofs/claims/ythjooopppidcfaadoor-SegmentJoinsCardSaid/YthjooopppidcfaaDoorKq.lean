/- Layer 3: the reference's at, inside, kind. -/
import Derived.Test.YthjooopppidcfaaDoorKo
import Derived.Test.YthjooopppidcfaaDoorKp
namespace Go.Proofs.YthjooopppidcfaaDoor
open Go.RowKit Go.Shelf
open Gc

/-- Classes in memory. -/
def CsF (w : World) (A : Option Addr) (l : List Int) : Prop := l = [] ∨ ∃ g, A = some ⟨g, 0, none⟩ ∧ Cs w g l
theorem CsF.below {w w' : World} {A : Option Addr} {l : List Int} (h : CsF w A l) {n : Nat} (hb : Below n w w') (hn : w.heap.size ≤ n) : CsF w' A l := by
  rcases h with h | ⟨g, h1, h2⟩
  · exact .inl h
  · exact .inr ⟨g, h1, h2.below hb (Nat.lt_of_lt_of_le h2.1 hn)⟩
theorem csf_of {w : World} {base : Nat} {v : Value} {l : List Int} (h : Ints w base v l) : ∃ A cap, v = .slice A l.length cap ∧ CsF w A l := by
  rcases ints_cases h with ⟨h0, h1⟩ | ⟨g, cap, hg, h1, h2⟩
  · exact ⟨none, 0, by rw [h1, h0]; rfl, .inl h0⟩
  · exact ⟨_, cap, h1, .inr ⟨g, rfl, h2⟩⟩
theorem cat_lt (l : List Int) (k : Nat) (h : k < l.length) : Sg.cat l k = l[k] := by
  unfold Sg.cat
  rw [List.getD_eq_getElem?_getD, List.getElem?_eq_getElem h]; rfl
theorem cat_ge (l : List Int) (k : Nat) (h : l.length ≤ k) : Sg.cat l k = -1 := by
  unfold Sg.cat
  rw [List.getD_eq_getElem?_getD, List.getElem?_eq_none h]; rfl

def Val (v : Int) (w : World) (e : Ending) (w' : World) : Prop := e = .returned (.int .i64 v) ∧ w = w'
set_option maxRecDepth 100000 in
set_option maxHeartbeats 1000000 in
theorem at_nat (l : List Int) (A : Option Addr) (cap : Nat) (x : Int) (k : Nat) (hx : x = (k : Int)) (_hl : l.length ≤ 1000) (w : World) (hA : CsF w A l) : Calls Tryd.prog 61 #[.slice A l.length cap, .int .i64 x] w (Val (Sg.cat l k) w) := by
  subst hx
  by_cases h : k < l.length
  · rw [cat_lt l k h]
    rcases hA with h0 | ⟨g, rfl, hC⟩
    · rw [h0] at h; exact absurd h (Nat.not_lt_zero _)
    · have hc := hC.2 k h
      generalize l[k] = v at hc ⊢
      generalize l.length = n at h ⊢
      clear hC
      go_enter Tryd.func61, Tryd.ntmps61
      go_wp2
      go_ret
      exact ⟨rfl, rfl⟩
  · rw [cat_ge l k (by omega)]
    clear hA
    generalize l.length = n at h ⊢
    go_enter Tryd.func61, Tryd.ntmps61
    go_wp2
    go_ret
    exact ⟨rfl, rfl⟩
set_option maxRecDepth 100000 in
set_option maxHeartbeats 1000000 in
theorem at_neg (l : List Int) (A : Option Addr) (cap : Nat) (x : Int) (hx : x < 0) (w : World) : Calls Tryd.prog 61 #[.slice A l.length cap, .int .i64 x] w (Val (-1) w) := by
  generalize l.length = n
  go_enter Tryd.func61, Tryd.ntmps61
  go_wp2
  go_ret
  exact ⟨rfl, rfl⟩

def BVal (v : Bool) (w : World) (e : Ending) (w' : World) : Prop := e = .returned (.bool v) ∧ w = w'
theorem inside_at (l : List Int) (i : Nat) (e a b : Int) (he : Sg.cat l i = e) (ha : Sg.cat l (i + 1) = a) (hb : Sg.cat l (i + 2) = b) :
    Sg.inside l (i + 1) = (decide (a = 5) || decide (a = 6) || (decide (a = 11) && decide (e = 5) && decide (b = 5) || decide (a = 10) && decide (e = 6) && decide (b = 6))) := by
  subst he ha hb; rfl
theorem inside_zero (l : List Int) (a : Int) (ha : Sg.cat l 0 = a) : Sg.inside l 0 = (decide (a = 5) || decide (a = 6)) := by
  subst ha
  unfold Sg.inside Sg.wordy Sg.joins
  rw [Bool.or_false]

set_option maxRecDepth 100000 in
set_option maxHeartbeats 2000000 in
theorem inside_z (l : List Int) (A : Option Addr) (cap : Nat) (hl : l.length ≤ 1000) (w : World) (hA : CsF w A l) : Calls Tryd.prog 39 #[.slice A l.length cap, .int .i64 (0)] w (BVal (Sg.inside l (0)) w) := by
  have c0 := at_nat l A cap 0 0 rfl hl w hA
  have c1 := at_neg l A cap (-1) (by decide) w
  have J := inside_zero l _ rfl
  rw [J]
  generalize Sg.cat l 0 = a at c0 ⊢
  generalize l.length = n at c0 c1 ⊢
  clear J hA
  by_cases h5 : a = 5
  · subst h5
    go_enter Tryd.func39, Tryd.ntmps39
    go_wp2_with (first | (go_at_call 61; (with_reducible refine (c0).mono ?_); rintro en w' ⟨rfl, rfl⟩) | (go_at_call 61; (with_reducible refine (c1).mono ?_); rintro en w' ⟨rfl, rfl⟩))
    go_ret
    exact ⟨rfl, rfl⟩
  have k5 := neB h5
  by_cases h6 : a = 6
  · subst h6
    go_enter Tryd.func39, Tryd.ntmps39
    go_wp2_with (first | (go_at_call 61; (with_reducible refine (c0).mono ?_); rintro en w' ⟨rfl, rfl⟩) | (go_at_call 61; (with_reducible refine (c1).mono ?_); rintro en w' ⟨rfl, rfl⟩))
    go_ret
    exact ⟨rfl, rfl⟩
  have k6 := neB h6
  rw [decide_eq_false h5, decide_eq_false h6]
  clear h5 h6
  by_cases h11 : a = 11
  · subst h11
    go_enter Tryd.func39, Tryd.ntmps39
    go_wp2_with (first | (go_at_call 61; (with_reducible refine (c0).mono ?_); rintro en w' ⟨rfl, rfl⟩) | (go_at_call 61; (with_reducible refine (c1).mono ?_); rintro en w' ⟨rfl, rfl⟩))
    go_ret
    exact ⟨rfl, rfl⟩
  have k11 := neB h11
  clear h11
  by_cases h10 : a = 10
  · subst h10
    go_enter Tryd.func39, Tryd.ntmps39
    go_wp2_with (first | (go_at_call 61; (with_reducible refine (c0).mono ?_); rintro en w' ⟨rfl, rfl⟩) | (go_at_call 61; (with_reducible refine (c1).mono ?_); rintro en w' ⟨rfl, rfl⟩))
    go_ret
    exact ⟨rfl, rfl⟩
  have k10 := neB h10
  clear h10
  go_enter Tryd.func39, Tryd.ntmps39
  go_wp2_with (first | (go_at_call 61; (with_reducible refine (c0).mono ?_); rintro en w' ⟨rfl, rfl⟩) | (go_at_call 61; (with_reducible refine (c1).mono ?_); rintro en w' ⟨rfl, rfl⟩))
  go_ret
  exact ⟨rfl, rfl⟩

set_option maxRecDepth 100000 in
set_option maxHeartbeats 2000000 in
theorem inside_s (l : List Int) (A : Option Addr) (cap : Nat) (i : Nat) (hl : l.length ≤ 1000) (hi : i ≤ 1000) (w : World) (hA : CsF w A l) : Calls Tryd.prog 39 #[.slice A l.length cap, .int .i64 ((i : Int) + 1)] w (BVal (Sg.inside l (i + 1)) w) := by
  have c0 := at_nat l A cap ((i : Int) + 1) (i + 1) (by omega) hl w hA
  have c1 := at_nat l A cap (i : Int) i rfl hl w hA
  have c2 := at_nat l A cap ((i : Int) + 1 + 1) (i + 2) (by omega) hl w hA
  have J := inside_at l i _ _ _ rfl rfl rfl
  rw [J]
  generalize Sg.cat l i = e at c1 ⊢
  generalize Sg.cat l (i + 1) = a at c0 ⊢
  generalize Sg.cat l (i + 2) = b at c2 ⊢
  generalize l.length = n at c0 c1 c2 ⊢
  clear J hA
  by_cases h5 : a = 5
  · subst h5
    go_enter Tryd.func39, Tryd.ntmps39
    go_wp2_with (first | (go_at_call 61; (with_reducible refine (c0).mono ?_); rintro en w' ⟨rfl, rfl⟩) | (go_at_call 61; (with_reducible refine (c1).mono ?_); rintro en w' ⟨rfl, rfl⟩) | (go_at_call 61; (with_reducible refine (c2).mono ?_); rintro en w' ⟨rfl, rfl⟩))
    go_ret
    exact ⟨rfl, rfl⟩
  have k5 := neB h5
  by_cases h6 : a = 6
  · subst h6
    go_enter Tryd.func39, Tryd.ntmps39
    go_wp2_with (first | (go_at_call 61; (with_reducible refine (c0).mono ?_); rintro en w' ⟨rfl, rfl⟩) | (go_at_call 61; (with_reducible refine (c1).mono ?_); rintro en w' ⟨rfl, rfl⟩) | (go_at_call 61; (with_reducible refine (c2).mono ?_); rintro en w' ⟨rfl, rfl⟩))
    go_ret
    exact ⟨rfl, rfl⟩
  have k6 := neB h6
  by_cases h11 : a = 11
  · subst h11
    by_cases he : e = 5
    · subst he
      by_cases hb : b = 5
      · subst hb
        go_enter Tryd.func39, Tryd.ntmps39
        go_wp2_with (first | (go_at_call 61; (with_reducible refine (c0).mono ?_); rintro en w' ⟨rfl, rfl⟩) | (go_at_call 61; (with_reducible refine (c1).mono ?_); rintro en w' ⟨rfl, rfl⟩) | (go_at_call 61; (with_reducible refine (c2).mono ?_); rintro en w' ⟨rfl, rfl⟩))
        go_ret
        exact ⟨rfl, rfl⟩
      · have kb := neB hb
        have E : (decide ((11 : Int) = 5) || decide ((11 : Int) = 6) || (decide ((11 : Int) = 11) && decide ((5 : Int) = 5) && decide (b = 5) || decide ((11 : Int) = 10) && decide ((5 : Int) = 6) && decide (b = 6))) = false := by simp [hb]
        rw [E]
        clear E hb
        go_enter Tryd.func39, Tryd.ntmps39
        go_wp2_with (first | (go_at_call 61; (with_reducible refine (c0).mono ?_); rintro en w' ⟨rfl, rfl⟩) | (go_at_call 61; (with_reducible refine (c1).mono ?_); rintro en w' ⟨rfl, rfl⟩) | (go_at_call 61; (with_reducible refine (c2).mono ?_); rintro en w' ⟨rfl, rfl⟩))
        go_ret
        exact ⟨rfl, rfl⟩
    · have ke := neB he
      have E : (decide ((11 : Int) = 5) || decide ((11 : Int) = 6) || (decide ((11 : Int) = 11) && decide (e = 5) && decide (b = 5) || decide ((11 : Int) = 10) && decide (e = 6) && decide (b = 6))) = false := by simp [he]
      rw [E]
      clear E he
      go_enter Tryd.func39, Tryd.ntmps39
      go_wp2_with (first | (go_at_call 61; (with_reducible refine (c0).mono ?_); rintro en w' ⟨rfl, rfl⟩) | (go_at_call 61; (with_reducible refine (c1).mono ?_); rintro en w' ⟨rfl, rfl⟩) | (go_at_call 61; (with_reducible refine (c2).mono ?_); rintro en w' ⟨rfl, rfl⟩))
      go_ret
      exact ⟨rfl, rfl⟩
  have k11 := neB h11
  by_cases h10 : a = 10
  · subst h10
    by_cases he : e = 6
    · subst he
      by_cases hb : b = 6
      · subst hb
        go_enter Tryd.func39, Tryd.ntmps39
        go_wp2_with (first | (go_at_call 61; (with_reducible refine (c0).mono ?_); rintro en w' ⟨rfl, rfl⟩) | (go_at_call 61; (with_reducible refine (c1).mono ?_); rintro en w' ⟨rfl, rfl⟩) | (go_at_call 61; (with_reducible refine (c2).mono ?_); rintro en w' ⟨rfl, rfl⟩))
        go_ret
        exact ⟨rfl, rfl⟩
      · have kb := neB hb
        have E : (decide ((10 : Int) = 5) || decide ((10 : Int) = 6) || (decide ((10 : Int) = 11) && decide ((6 : Int) = 5) && decide (b = 5) || decide ((10 : Int) = 10) && decide ((6 : Int) = 6) && decide (b = 6))) = false := by simp [hb]
        rw [E]
        clear E hb
        go_enter Tryd.func39, Tryd.ntmps39
        go_wp2_with (first | (go_at_call 61; (with_reducible refine (c0).mono ?_); rintro en w' ⟨rfl, rfl⟩) | (go_at_call 61; (with_reducible refine (c1).mono ?_); rintro en w' ⟨rfl, rfl⟩) | (go_at_call 61; (with_reducible refine (c2).mono ?_); rintro en w' ⟨rfl, rfl⟩))
        go_ret
        exact ⟨rfl, rfl⟩
    · have ke := neB he
      have E : (decide ((10 : Int) = 5) || decide ((10 : Int) = 6) || (decide ((10 : Int) = 11) && decide (e = 5) && decide (b = 5) || decide ((10 : Int) = 10) && decide (e = 6) && decide (b = 6))) = false := by simp [he]
      rw [E]
      clear E he
      go_enter Tryd.func39, Tryd.ntmps39
      go_wp2_with (first | (go_at_call 61; (with_reducible refine (c0).mono ?_); rintro en w' ⟨rfl, rfl⟩) | (go_at_call 61; (with_reducible refine (c1).mono ?_); rintro en w' ⟨rfl, rfl⟩) | (go_at_call 61; (with_reducible refine (c2).mono ?_); rintro en w' ⟨rfl, rfl⟩))
      go_ret
      exact ⟨rfl, rfl⟩
  have k10 := neB h10
  have E : (decide (a = 5) || decide (a = 6) || (decide (a = 11) && decide (e = 5) && decide (b = 5) || decide (a = 10) && decide (e = 6) && decide (b = 6))) = false := by simp [h5, h6, h11, h10]
  rw [E]
  clear E h5 h6 h11 h10
  go_enter Tryd.func39, Tryd.ntmps39
  go_wp2_with (first | (go_at_call 61; (with_reducible refine (c0).mono ?_); rintro en w' ⟨rfl, rfl⟩) | (go_at_call 61; (with_reducible refine (c1).mono ?_); rintro en w' ⟨rfl, rfl⟩) | (go_at_call 61; (with_reducible refine (c2).mono ?_); rintro en w' ⟨rfl, rfl⟩))
  go_ret
  exact ⟨rfl, rfl⟩
theorem inside_any (l : List Int) (A : Option Addr) (cap : Nat) (k : Nat) (hl : l.length ≤ 1000) (hk : k ≤ 1000) (w : World) (hA : CsF w A l) : Calls Tryd.prog 39 #[.slice A l.length cap, .int .i64 (k : Nat)] w (BVal (Sg.inside l k) w) := by
  cases k with
  | zero => exact inside_z l A cap hl w hA
  | succ i => exact inside_s l A cap i hl (by omega) w hA
end Go.Proofs.YthjooopppidcfaaDoor
