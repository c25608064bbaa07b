/- Layer 3: the reference's kind. -/
import Derived.Test.YthjooopppidcfaaDoorKq
namespace Go.Proofs.YthjooopppidcfaaDoor
open Go.RowKit Go.Shelf
open Gc

theorem kind_prev (c : List Int) (i : Nat) : (if 2 ≤ i + 1 then Sg.cat c (i + 1 - 2) else -1) = if 0 < i then Sg.cat c (i - 1) else -1 := by
  by_cases h : 0 < i
  · rw [if_pos h, if_pos (by omega), show i + 1 - 2 = i - 1 by omega]
  · rw [if_neg h, if_neg (by omega)]
set_option maxRecDepth 100000 in
set_option maxHeartbeats 8000000 in
theorem refKind_gen (n cap : Nat) (g i : Nat) (e a b : Int) (hi : i + 1 < n) (hn : n ≤ 1000) (w : World) (ca : w.cell? ⟨g, i, none⟩ = some (.int .i64 a)) (cb : w.cell? ⟨g, i + 1, none⟩ = some (.int .i64 b))
    (ce : ∀ w' x, x = (i : Int) - 1 → Below w.heap.size w w' → Calls Tryd.prog 61 #[.slice (some ⟨g, 0, none⟩) n cap, .int .i64 x] w' (Val e w')) :
    Calls Tryd.prog 53 #[.slice (some ⟨g, 0, none⟩) n cap, .int .i64 ((i : Int) + 1)] w (IntPostK (Sg.kindB e a b) w) := by
  have hs0 : IntKind.i64.wrap (i : Int) = (i : Int) := IntWalk.i64_in _ (by omega)
  have hi0 : i < n := by omega
  have hi1 : (i : Int) + 1 < (n : Int) := by omega
  have hi2 : (0 : Int) ≤ (i : Int) + 1 := by omega
  have hi3 : ((i : Int) + 1).toNat = i + 1 := by omega
  by_cases ha1 : a = 1
  · subst ha1
    have HK := Go.Lib.hid (show Sg.kindB e 1 b = 2 from by unfold Sg.kindB; simp)
    go_enter Tryd.func53, Tryd.ntmps53
    go_wp2
    go_quiet (fail)
    clear hs0
    go_wp2
    go_ret
    exact ⟨by rw [HK.out]; rfl, bdrew (Below.refl _ _) _⟩
  have ka1 := neB ha1
  by_cases hb1 : b = 1
  · subst hb1
    have HK := Go.Lib.hid (show Sg.kindB e a 1 = 0 from by unfold Sg.kindB; simp [ha1])
    clear ha1
    go_enter Tryd.func53, Tryd.ntmps53
    go_wp2
    go_quiet (fail)
    clear hs0
    go_wp2
    go_ret
    exact ⟨by rw [HK.out]; rfl, bdrew (Below.refl _ _) _⟩
  have kb1 := neB hb1
  by_cases hb2 : b = 2
  · subst hb2
    have HK := Go.Lib.hid (show Sg.kindB e a 2 = 0 from by unfold Sg.kindB; simp [ha1, hb1])
    clear ha1 hb1
    go_enter Tryd.func53, Tryd.ntmps53
    go_wp2
    go_quiet (fail)
    clear hs0
    go_wp2
    go_ret
    exact ⟨by rw [HK.out]; rfl, bdrew (Below.refl _ _) _⟩
  have kb2 := neB hb2
  by_cases ha3 : a = 3
  · subst ha3
    have HK := Go.Lib.hid (show Sg.kindB e 3 b = 0 from by unfold Sg.kindB; simp [ha1, hb1, hb2])
    clear ha1 hb1 hb2
    go_enter Tryd.func53, Tryd.ntmps53
    go_wp2
    go_quiet (fail)
    clear hs0
    go_wp2
    go_ret
    exact ⟨by rw [HK.out]; rfl, bdrew (Below.refl _ _) _⟩
  have ka3 := neB ha3
  by_cases hb3 : b = 3
  · subst hb3
    have HK := Go.Lib.hid (show Sg.kindB e a 3 = 0 from by unfold Sg.kindB; simp [ha1, hb1, hb2, ha3])
    clear ha1 hb1 hb2 ha3
    go_enter Tryd.func53, Tryd.ntmps53
    go_wp2
    go_quiet (fail)
    clear hs0
    go_wp2
    go_ret
    exact ⟨by rw [HK.out]; rfl, bdrew (Below.refl _ _) _⟩
  have kb3 := neB hb3
  by_cases ha2 : a = 2
  · subst ha2
    have HK := Go.Lib.hid (show Sg.kindB e 2 b = 1 from by unfold Sg.kindB; simp [ha1, hb1, hb2, ha3, hb3])
    clear ha1 hb1 hb2 ha3 hb3
    go_enter Tryd.func53, Tryd.ntmps53
    go_wp2
    go_quiet (fail)
    clear hs0
    go_wp2
    go_ret
    exact ⟨by rw [HK.out]; rfl, bdrew (Below.refl _ _) _⟩
  have ka2 := neB ha2
  by_cases ha4 : a = 4
  · subst ha4
    have HK := Go.Lib.hid (show Sg.kindB e 4 b = 3 from by unfold Sg.kindB; simp [ha1, hb1, hb2, ha3, hb3, ha2])
    clear ha1 hb1 hb2 ha3 hb3 ha2
    go_enter Tryd.func53, Tryd.ntmps53
    go_wp2
    go_quiet (fail)
    clear hs0
    go_wp2
    go_ret
    exact ⟨by rw [HK.out]; rfl, bdrew (Below.refl _ _) _⟩
  have ka4 := neB ha4
  by_cases ha8 : a = 8
  · subst ha8
    have HK := Go.Lib.hid (show Sg.kindB e 8 b = 0 from by unfold Sg.kindB; simp [ha1, hb1, hb2, ha3, hb3, ha2, ha4])
    clear ha1 hb1 hb2 ha3 hb3 ha2 ha4
    go_enter Tryd.func53, Tryd.ntmps53
    go_wp2
    go_quiet (fail)
    clear hs0
    go_wp2
    go_ret
    exact ⟨by rw [HK.out]; rfl, bdrew (Below.refl _ _) _⟩
  have ka8 := neB ha8
  by_cases hb4 : b = 4
  · subst hb4
    have HK := Go.Lib.hid (show Sg.kindB e a 4 = 0 from by unfold Sg.kindB; simp [ha1, hb1, hb2, ha3, hb3, ha2, ha4, ha8])
    clear ha1 hb1 hb2 ha3 hb3 ha2 ha4 ha8
    go_enter Tryd.func53, Tryd.ntmps53
    go_wp2
    go_quiet (fail)
    clear hs0
    go_wp2
    go_ret
    exact ⟨by rw [HK.out]; rfl, bdrew (Below.refl _ _) _⟩
  have kb4 := neB hb4
  by_cases hb9 : b = 9
  · subst hb9
    have HK := Go.Lib.hid (show Sg.kindB e a 9 = 0 from by unfold Sg.kindB; simp [ha1, hb1, hb2, ha3, hb3, ha2, ha4, ha8, hb4])
    clear ha1 hb1 hb2 ha3 hb3 ha2 ha4 ha8 hb4
    go_enter Tryd.func53, Tryd.ntmps53
    go_wp2
    go_quiet (fail)
    clear hs0
    go_wp2
    go_ret
    exact ⟨by rw [HK.out]; rfl, bdrew (Below.refl _ _) _⟩
  have kb9 := neB hb9
  by_cases hb10 : b = 10
  · subst hb10
    have HK := Go.Lib.hid (show Sg.kindB e a 10 = 0 from by unfold Sg.kindB; simp [ha1, hb1, hb2, ha3, hb3, ha2, ha4, ha8, hb4, hb9])
    clear ha1 hb1 hb2 ha3 hb3 ha2 ha4 ha8 hb4 hb9
    go_enter Tryd.func53, Tryd.ntmps53
    go_wp2
    go_quiet (fail)
    clear hs0
    go_wp2
    go_ret
    exact ⟨by rw [HK.out]; rfl, bdrew (Below.refl _ _) _⟩
  have kb10 := neB hb10
  by_cases hb11 : b = 11
  · subst hb11
    have HK := Go.Lib.hid (show Sg.kindB e a 11 = 0 from by unfold Sg.kindB; simp [ha1, hb1, hb2, ha3, hb3, ha2, ha4, ha8, hb4, hb9, hb10])
    clear ha1 hb1 hb2 ha3 hb3 ha2 ha4 ha8 hb4 hb9 hb10
    go_enter Tryd.func53, Tryd.ntmps53
    go_wp2
    go_quiet (fail)
    clear hs0
    go_wp2
    go_ret
    exact ⟨by rw [HK.out]; rfl, bdrew (Below.refl _ _) _⟩
  have kb11 := neB hb11
  by_cases hb12 : b = 12
  · subst hb12
    have HK := Go.Lib.hid (show Sg.kindB e a 12 = 0 from by unfold Sg.kindB; simp [ha1, hb1, hb2, ha3, hb3, ha2, ha4, ha8, hb4, hb9, hb10, hb11])
    clear ha1 hb1 hb2 ha3 hb3 ha2 ha4 ha8 hb4 hb9 hb10 hb11
    go_enter Tryd.func53, Tryd.ntmps53
    go_wp2
    go_quiet (fail)
    clear hs0
    go_wp2
    go_ret
    exact ⟨by rw [HK.out]; rfl, bdrew (Below.refl _ _) _⟩
  have kb12 := neB hb12
  by_cases hb13 : b = 13
  · subst hb13
    have HK := Go.Lib.hid (show Sg.kindB e a 13 = 0 from by unfold Sg.kindB; simp [ha1, hb1, hb2, ha3, hb3, ha2, ha4, ha8, hb4, hb9, hb10, hb11, hb12])
    clear ha1 hb1 hb2 ha3 hb3 ha2 ha4 ha8 hb4 hb9 hb10 hb11 hb12
    go_enter Tryd.func53, Tryd.ntmps53
    go_wp2
    go_quiet (fail)
    clear hs0
    go_wp2
    go_ret
    exact ⟨by rw [HK.out]; rfl, bdrew (Below.refl _ _) _⟩
  have kb13 := neB hb13
  by_cases ha13 : a = 13
  · subst ha13
    have HK := Go.Lib.hid (show Sg.kindB e 13 b = 1 from by unfold Sg.kindB; simp [ha1, hb1, hb2, ha3, hb3, ha2, ha4, ha8, hb4, hb9, hb10, hb11, hb12, hb13])
    clear ha1 hb1 hb2 ha3 hb3 ha2 ha4 ha8 hb4 hb9 hb10 hb11 hb12 hb13
    go_enter Tryd.func53, Tryd.ntmps53
    go_wp2
    go_quiet (fail)
    clear hs0
    go_wp2
    go_ret
    exact ⟨by rw [HK.out]; rfl, bdrew (Below.refl _ _) _⟩
  have ka13 := neB ha13
  by_cases ha12 : a = 12
  · subst ha12
    by_cases hb5 : b = 5
    · subst hb5
      by_cases he5 : e = 5
      · subst he5
        have HK := Go.Lib.hid (show Sg.kindB 5 12 5 = 1 from by decide)
        clear ha1 hb1 hb2 ha3 hb3 ha2 ha4 ha8 hb4 hb9 hb10 hb11 hb12 hb13 ha13
        go_enter Tryd.func53, Tryd.ntmps53
        go_wp2
        go_quiet (fail)
        clear hs0
        go_wp2_with (go_at_call 61; (with_reducible refine (ce _ _ (by omega) (bdrew (Below.refl _ _) _)).mono ?_); rintro en w' ⟨rfl, rfl⟩)
        go_ret
        exact ⟨by rw [HK.out]; rfl, bdrew (Below.refl _ _) _⟩
      · have ke5 := neB he5
        by_cases he6 : e = 6
        · subst he6
          have HK := Go.Lib.hid (show Sg.kindB 6 12 5 = 1 from by decide)
          clear ha1 hb1 hb2 ha3 hb3 ha2 ha4 ha8 hb4 hb9 hb10 hb11 hb12 hb13 ha13 he5
          go_enter Tryd.func53, Tryd.ntmps53
          go_wp2
          go_quiet (fail)
          clear hs0
          go_wp2_with (go_at_call 61; (with_reducible refine (ce _ _ (by omega) (bdrew (Below.refl _ _) _)).mono ?_); rintro en w' ⟨rfl, rfl⟩)
          go_ret
          exact ⟨by rw [HK.out]; rfl, bdrew (Below.refl _ _) _⟩
        · have ke6 := neB he6
          have HK := Go.Lib.hid (show Sg.kindB e 12 5 = 0 from by unfold Sg.kindB; simp [he5, he6])
          clear ha1 hb1 hb2 ha3 hb3 ha2 ha4 ha8 hb4 hb9 hb10 hb11 hb12 hb13 ha13 he5 he6
          go_enter Tryd.func53, Tryd.ntmps53
          go_wp2
          go_quiet (fail)
          clear hs0
          go_wp2_with (go_at_call 61; (with_reducible refine (ce _ _ (by omega) (bdrew (Below.refl _ _) _)).mono ?_); rintro en w' ⟨rfl, rfl⟩)
          go_ret
          exact ⟨by rw [HK.out]; rfl, bdrew (Below.refl _ _) _⟩
    · have kb5 := neB hb5
      by_cases hb7 : b = 7
      · subst hb7
        have HK := Go.Lib.hid (show Sg.kindB e 12 7 = 1 from by unfold Sg.kindB; simp)
        clear ha1 hb1 hb2 ha3 hb3 ha2 ha4 ha8 hb4 hb9 hb10 hb11 hb12 hb13 ha13 hb5
        go_enter Tryd.func53, Tryd.ntmps53
        go_wp2
        go_quiet (fail)
        clear hs0
        go_wp2
        go_ret
        exact ⟨by rw [HK.out]; rfl, bdrew (Below.refl _ _) _⟩
      · have kb7 := neB hb7
        have HK := Go.Lib.hid (show Sg.kindB e 12 b = 0 from by unfold Sg.kindB; simp [hb1, hb2, hb3, hb4, hb9, hb10, hb11, hb12, hb13, hb5, hb7])
        clear ha1 hb1 hb2 ha3 hb3 ha2 ha4 ha8 hb4 hb9 hb10 hb11 hb12 hb13 ha13 hb5 hb7
        go_enter Tryd.func53, Tryd.ntmps53
        go_wp2
        go_quiet (fail)
        clear hs0
        go_wp2
        go_ret
        exact ⟨by rw [HK.out]; rfl, bdrew (Below.refl _ _) _⟩
  have ka12 := neB ha12
  by_cases ha7 : a = 7
  · subst ha7
    have HK := Go.Lib.hid (show Sg.kindB e 7 b = 1 from by unfold Sg.kindB; simp [hb1, hb2, hb3, hb4, hb9, hb10, hb11, hb12, hb13])
    clear ha1 hb1 hb2 ha3 hb3 ha2 ha4 ha8 hb4 hb9 hb10 hb11 hb12 hb13 ha13 ha12
    go_enter Tryd.func53, Tryd.ntmps53
    go_wp2
    go_quiet (fail)
    clear hs0
    go_wp2
    go_ret
    exact ⟨by rw [HK.out]; rfl, bdrew (Below.refl _ _) _⟩
  have ka7 := neB ha7
  by_cases hb7 : b = 7
  · subst hb7
    have HK := Go.Lib.hid (show Sg.kindB e a 7 = 1 from by unfold Sg.kindB; simp [ha1, ha3, ha2, ha4, ha8, ha13, ha12])
    clear ha1 hb1 hb2 ha3 hb3 ha2 ha4 ha8 hb4 hb9 hb10 hb11 hb12 hb13 ha13 ha12 ha7
    go_enter Tryd.func53, Tryd.ntmps53
    go_wp2
    go_quiet (fail)
    clear hs0
    go_wp2
    go_ret
    exact ⟨by rw [HK.out]; rfl, bdrew (Below.refl _ _) _⟩
  have kb7 := neB hb7
  have HK := Go.Lib.hid (show Sg.kindB e a b = 0 from by unfold Sg.kindB; simp [ha1, hb1, hb2, ha3, hb3, ha2, ha4, ha8, hb4, hb9, hb10, hb11, hb12, hb13, ha13, ha12, ha7, hb7])
  clear ha1 hb1 hb2 ha3 hb3 ha2 ha4 ha8 hb4 hb9 hb10 hb11 hb12 hb13 ha13 ha12 ha7 hb7
  go_enter Tryd.func53, Tryd.ntmps53
  go_wp2
  go_quiet (fail)
  clear hs0
  go_wp2
  go_ret
  exact ⟨by rw [HK.out]; rfl, bdrew (Below.refl _ _) _⟩
theorem refKind_any (l : List Int) (A : Option Addr) (cap : Nat) (k : Nat) (h0 : 0 < k) (hk : k < l.length) (hl : l.length ≤ 1000) (w : World) (hA : CsF w A l) : Calls Tryd.prog 53 #[.slice A l.length cap, .int .i64 (k : Nat)] w (IntPostK (Sg.kindAt l k) w) := by
  obtain ⟨i, rfl⟩ : ∃ i, k = i + 1 := ⟨k - 1, by omega⟩
  rcases hA with hA | ⟨g, rfl, hC⟩
  · rw [hA] at hk; exact absurd hk (Nat.not_lt_zero _)
  · have ca := hC.2 i (by omega)
    have cb := hC.2 (i + 1) hk
    rw [← cat_lt l i (by omega)] at ca
    rw [← cat_lt l (i + 1) hk] at cb
    unfold Sg.kindAt
    rw [kind_prev, Nat.add_sub_cancel]
    rw [show ((i + 1 : Nat) : Int) = (i : Int) + 1 by omega]
    refine refKind_gen l.length cap g i _ _ _ hk hl w ca cb fun w' x hx hb => ?_
    by_cases h : 0 < i
    · rw [if_pos h]
      exact at_nat l _ cap _ (i - 1) (by omega) hl w' (CsF.below (.inr ⟨g, rfl, hC⟩) hb (Nat.le_refl _))
    · rw [if_neg h]
      exact at_neg l _ cap _ (by omega) w'
end Go.Proofs.YthjooopppidcfaaDoor
