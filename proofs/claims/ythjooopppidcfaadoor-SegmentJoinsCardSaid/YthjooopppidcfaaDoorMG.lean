import Derived.Test.YthjooopppidcfaaDoorMF
import Derived.RegionTactic
import Derived.ChangeAlike
import Derived.Deep.QuietTactic
import Derived.BigQuiet

namespace Go.Proofs.YthjooopppidcfaaDoor
open Go.RowKit Go.Shelf Go.Lib
open Gc

theorem breaker_any (c : Int) (w : World) : Calls Tryd.prog 63 #[.int .i64 c] w fun e w' => e = .returned (.bool (Gc.control c)) ∧ w = w' := by
  generalize hK : Gc.control c = K
  unfold Gc.control at hK
  by_cases h1 : c = 1
  · subst h1
    have H := Go.Lib.hid hK; clear hK
    go_enter Tryd.func63, Tryd.ntmps63
    go_wp2
    go_ret
    exact ⟨ret_bool (by rw [← H.out]; rfl), rfl⟩
  by_cases h2 : c = 2
  · subst h2
    have H := Go.Lib.hid hK; clear hK
    go_enter Tryd.func63, Tryd.ntmps63
    go_wp2
    go_ret
    exact ⟨ret_bool (by rw [← H.out]; rfl), rfl⟩
  have H := Go.Lib.hid hK; clear hK
  have b1 : (c == 1) = false := by simp [h1]
  have b2 : (c == 2) = false := by simp [h2]
  go_enter Tryd.func63, Tryd.ntmps63
  go_wp2
  go_ret
  exact ⟨ret_bool (by first | (rw [← H.out]; rfl) | (rw [← H.out, Bool.eq_iff_iff]; simp; done) | (rw [← H.out, Bool.eq_iff_iff]; simp; omega)), rfl⟩

set_option maxHeartbeats 2000000 in
theorem syll_any (a b : Int) (w : World) : Calls Tryd.prog 64 #[.int .i64 a, .int .i64 b] w fun e w' => e = .returned (.bool (Gc.syllable a b)) ∧ w = w' := by
  generalize hK : Gc.syllable a b = K
  unfold Gc.syllable at hK
  have H := Go.Lib.hid hK; clear hK
  go_enter Tryd.func64, Tryd.ntmps64
  go_wp2
  all_goals
    go_ret
    refine ⟨ret_bool ?_, rfl⟩
    rw [← H.out]
    first | (simp_all; done) | (rw [Bool.eq_iff_iff]; simp_all; done) | (rw [Bool.eq_iff_iff]; simp; omega) | (rw [Bool.eq_iff_iff]; simp_all; omega)
end Go.Proofs.YthjooopppidcfaaDoor

namespace Go.Proofs.YthjooopppidcfaaDoor
open Go.RowKit Go.Shelf
open Gc

/-- Ints in a block. -/
def Cs (w : World) (g : Nat) (cs : List Int) : Prop := g < w.heap.size ∧ ∀ k (h : k < cs.length), w.cell? ⟨g, k, none⟩ = some (.int .i64 cs[k])
theorem Cs.below {w w' : World} {g : Nat} {cs : List Int} (h : Cs w g cs) {n : Nat} (hb : Below n w w') (hn : g < n) : Cs w' g cs :=
  ⟨Nat.lt_of_lt_of_le h.1 hb.size, fun k hk => (hb.cell (p := ⟨g, k, none⟩) hn).trans (h.2 k hk)⟩
/-- The classes before k, the nearest first. -/
def rv (cs : List Int) (k : Nat) : List Int := (cs.take k).reverse
theorem rv_succ (cs : List Int) (k : Nat) (h : k < cs.length) : rv cs (k + 1) = cs[k] :: rv cs k := by
  unfold rv
  rw [List.take_succ_eq_append_getElem h, List.reverse_append]; rfl
theorem rv_zero (cs : List Int) : rv cs 0 = [] := rfl

set_option maxRecDepth 100000 in
set_option maxHeartbeats 2000000 in
theorem joined_any (cs : List Int) (g cap n at' : Nat) (hn : cs.length = n) (hl : n ≤ 100000) (h1 : 0 < at') (h2 : at' ≤ n) (w : World) (hC : Cs w g cs) :
    Calls Tryd.prog 65 #[.slice (some ⟨g, 0, none⟩) n cap, .int .i64 (at' : Nat)] w fun e w' => e = .returned (.bool (joins (rv cs at'))) ∧ w = w' := by
  obtain ⟨a, rfl⟩ : ∃ a, at' = a + 1 := ⟨at' - 1, by omega⟩
  have ha : a < cs.length := by omega
  have hca := hC.2 a ha
  have hj : joins (rv cs (a + 1)) = (decide (cs[a] = 5) && pic (rv cs a)) := by rw [rv_succ cs a ha]; rfl
  rw [hj]
  clear hj
  generalize hx : cs[a] = x at hca ⊢
  clear hx
  generalize hK : (decide (x = 5) && pic (rv cs a)) = K
  have HK := Go.Lib.hid hK
  clear hK
  have HC := Go.Lib.hid hC
  clear hC
  have N := Go.Lib.hid hn
  clear hn
  go_enter Tryd.func65, Tryd.ntmps65
  go_wp2
  go_loop [5] (fun i => ∃ m : Nat, m ≤ a ∧ ((m = 0 ∧ i = .int .i64 (-1)) ∨ ∃ k, m = k + 1 ∧ i = .int .i64 (k : Nat)) ∧ Hid (pic (rv cs a) = pic (rv cs m))) (fun i => (intOf i + 1).toNat)
  case atStart =>
    refine ⟨a, Nat.le_refl _, ?_, Go.Lib.hid rfl⟩
    cases a with
    | zero => exact .inl ⟨rfl, rfl⟩
    | succ k => exact .inr ⟨k, rfl, by go_num⟩
  case round =>
    obtain ⟨m, hm, hi, HP⟩ := hrel
    rcases hi with ⟨rfl, rfl⟩ | ⟨k, rfl, rfl⟩
    · have hk0 : K = false := by rw [← HK.out, HP.out]; simp [rv_zero, pic]
      subst hk0
      go_wp2
      all_goals
        go_ret
        exact ⟨rfl, rfl⟩
    · have hk : k < cs.length := by omega
      have hck := HC.out.2 k hk
      have hp := rv_succ cs k hk
      generalize cs[k] = y at hck hp
      have hpp : pic (rv cs a) = (decide (y = 14) || decide (y = 4) && pic (rv cs k)) := by rw [HP.out, hp]; rfl
      have H2 := Go.Lib.hid hpp
      clear hpp hp
      by_cases hy : y = 4
      · subst hy
        go_wp2
        go_round
        case rel =>
          refine ⟨k, by omega, ?_, Go.Lib.hid (by rw [H2.out]; simp)⟩
          cases k with
          | zero => exact .inl ⟨rfl, rfl⟩
          | succ k => exact .inr ⟨k, rfl, by go_num⟩
        case measure => simp [intOf]
      · have b4 : (y == 4) = false := by simp [hy]
        have hk : K = (decide (x = 5) && decide (y = 14)) := by rw [← HK.out, H2.out]; simp [hy]
        have HK2 := Go.Lib.hid hk
        clear hk
        go_wp2
        all_goals
          go_ret
          refine ⟨ret_bool ?_, rfl⟩
          rw [HK2.out]
          first | (simp_all; done) | (simp_all; rfl)
end Go.Proofs.YthjooopppidcfaaDoor

namespace Go.Proofs.YthjooopppidcfaaDoor
open Go.RowKit Go.Shelf
open Gc

set_option maxRecDepth 100000 in
set_option maxHeartbeats 2000000 in
theorem regionals_any (cs : List Int) (g cap n at' : Nat) (hn : cs.length = n) (hl : n ≤ 100000) (h2 : at' ≤ n) (w : World) (hC : Cs w g cs) :
    Calls Tryd.prog 66 #[.slice (some ⟨g, 0, none⟩) n cap, .int .i64 (at' : Nat)] w fun e w' => e = .returned (.int .i64 (regs (rv cs at') : Nat)) ∧ w = w' := by
  have HC := Go.Lib.hid hC
  clear hC
  have N := Go.Lib.hid hn
  clear hn
  generalize hR : regs (rv cs at') = R
  have HR := Go.Lib.hid hR
  clear hR
  go_enter Tryd.func66, Tryd.ntmps66
  go_wp2
  go_loop [5] (fun i => ∃ m q : Nat, at' = m + q ∧ i = .int .i64 (m : Nat) ∧ Hid (R = m + regs (rv cs q))) (fun i => at' - (intOf i).toNat)
  case atStart => exact ⟨0, at', by omega, rfl, Go.Lib.hid (by rw [← HR.out]; omega)⟩
  case round =>
    obtain ⟨m, q, hq, rfl, HP⟩ := hrel
    cases q with
    | zero =>
      have hm : at' = m := by omega
      have hr : R = m := by have := HP.out; rw [rv_zero] at this; simpa [regs] using this
      subst hr
      have hnl : ¬ R < at' := by omega
      go_wp2
      go_ret
      exact ⟨rfl, rfl⟩
    | succ q =>
      have hlt : m < at' := by omega
      have hk : q < cs.length := by have := N.out; omega
      have hck := HC.out.2 q hk
      have hp := rv_succ cs q hk
      have hi : ((at' : Int) - 1 - (m : Int)) = (q : Int) := by omega
      have hq2 : q < n := by omega
      generalize cs[q] = y at hck hp
      by_cases hy : y = 13
      · subst hy
        have H2 := Go.Lib.hid (show R = (m + 1) + regs (rv cs q) by rw [HP.out, hp]; simp [regs]; omega)
        clear hp hq
        go_wp2
        go_round
        case rel => exact ⟨m + 1, q, by omega, by go_num, H2⟩
        case measure => simp [intOf]; omega
      · have b4 : (y == 13) = false := by simp [hy]
        have hr : R = m := by rw [HP.out, hp]; simp [regs, hy]
        subst hr
        clear hp hq hy
        go_wp2
        go_ret
        exact ⟨rfl, rfl⟩
end Go.Proofs.YthjooopppidcfaaDoor

namespace Go.Proofs.YthjooopppidcfaaDoor
open Go.RowKit Go.Shelf
open Gc

theorem below_drews (n : Nat) (w : World) (q : Nat) : Below n w (w.drewN q) := below_drewNv (Below.refl n w) q

theorem cs_drews {w : World} {g : Nat} {cs : List Int} (h : Cs w g cs) (q : Nat) : Cs (w.drewN q) g cs :=
  h.below (below_drews w.heap.size w q) h.1

def SameBool (v : Bool) (w : World) (e : Ending) (w' : World) : Prop := e = .returned (.bool v) ∧ w = w'

set_option maxRecDepth 100000 in
set_option maxHeartbeats 4000000 in
theorem refB_core (cs : List Int) (g cap n a : Nat) (hl : n ≤ 100000) (h2 : a + 1 < n) (w : World) (HC : Hid (Cs w g cs)) (x b : Int) (j : Bool) (r : Nat)
    (hca : w.cell? ⟨g, a, none⟩ = some (.int .i64 x)) (hcb : w.cell? ⟨g, a + 1, none⟩ = some (.int .i64 b))
    (cJ : ∀ w', Cs w' g cs → Calls Tryd.prog 65 #[.slice (some ⟨g, 0, none⟩) n cap, .int .i64 ((a : Int) + 1)] w' (SameBool j w'))
    (cR : ∀ w', Cs w' g cs → Calls Tryd.prog 66 #[.slice (some ⟨g, 0, none⟩) n cap, .int .i64 ((a : Int) + 1)] w' fun e w'' => e = .returned (.int .i64 (r : Nat)) ∧ w' = w'') (K : Bool)
    (hK : (if x = 1 ∧ b = 2 then false else if (Gc.control x || Gc.control b) = true then true
      else if (Gc.syllable x b || decide (b = 4) || decide (b = 5) || decide (b = 7) || decide (x = 6)) = true then false
      else if b = 14 ∧ j = true then false else !(decide (x = 13) && decide (b = 13) && decide (r % 2 = 1))) = K) :
    Calls Tryd.prog 42 #[.slice (some ⟨g, 0, none⟩) n cap, .int .i64 ((a : Int) + 1)] w (BoolPost K w) := by
  have c1 : a < n := by omega
  have hi1 : ((a : Int) + 1 - 1) = (a : Int) := by omega
  have hi2 : ((a : Int) + 1 - 1).toNat = a := by omega
  have hi3 : ((a : Int) + 1).toNat = a + 1 := by omega
  have kx := fun w => breaker_any x w
  have kb := fun w => breaker_any b w
  have ks := fun w => syll_any x b w
  by_cases h1 : x = 1
  · subst h1
    by_cases hb2 : b = 2
    · subst hb2
      have H := Go.Lib.hid hK; clear hK
      go_enter Tryd.func42, Tryd.ntmps42
      go_wp2
      go_quiet (fail)
      go_wp2
      go_ret
      exact ⟨ret_bool (by rw [← H.out]; rfl), below_drews _ _ _⟩
    · have hk : K = true := by rw [← hK, if_neg (fun h => hb2 h.2), if_pos]; rfl
      subst hk
      clear hK
      have b2 : (b == 2) = false := by simp [hb2]
      go_enter Tryd.func42, Tryd.ntmps42
      go_wp2
      go_quiet (fail)
      go_wp2_with (go_at_call 63; (with_reducible refine (breaker_any 1 _).mono ?_); rintro e w' ⟨rfl, rfl⟩)
      all_goals
        go_ret
        exact ⟨rfl, below_drews _ _ _⟩
  have b1 : (x == 1) = false := by simp [h1]
  rw [if_neg (fun h => h1 h.1)] at hK
  have N1 := Go.Lib.hid h1
  clear h1
  generalize Gc.control x = cx at kx hK
  generalize Gc.control b = cb at kb hK
  generalize Gc.syllable x b = sl at ks hK
  cases cx with
  | true =>
    have H := Go.Lib.hid hK; clear hK
    go_enter Tryd.func42, Tryd.ntmps42
    go_wp2
    go_quiet (fail)
    go_wp2_with (first
      | (go_at_call 63; (with_reducible refine (kx _).mono ?_); rintro e w' ⟨rfl, rfl⟩)
      | (go_at_call 63; (with_reducible refine (kb _).mono ?_); rintro e w' ⟨rfl, rfl⟩)
      | (go_at_call 64; (with_reducible refine (ks _).mono ?_); rintro e w' ⟨rfl, rfl⟩)
      | (go_at_call 65; (refine (cJ _ (cs_drews HC.out _)).mono ?_); rintro e w' ⟨rfl, rfl⟩)
      | (go_at_call 66; (refine (cR _ (cs_drews HC.out _)).mono ?_); rintro e w' ⟨rfl, rfl⟩))
    go_ret
    exact ⟨ret_bool (by rw [← H.out]; rfl), below_drews _ _ _⟩
  | false =>
  cases cb with
  | true =>
    have H := Go.Lib.hid hK; clear hK
    go_enter Tryd.func42, Tryd.ntmps42
    go_wp2
    go_quiet (fail)
    go_wp2_with (first
      | (go_at_call 63; (with_reducible refine (kx _).mono ?_); rintro e w' ⟨rfl, rfl⟩)
      | (go_at_call 63; (with_reducible refine (kb _).mono ?_); rintro e w' ⟨rfl, rfl⟩)
      | (go_at_call 64; (with_reducible refine (ks _).mono ?_); rintro e w' ⟨rfl, rfl⟩)
      | (go_at_call 65; (refine (cJ _ (cs_drews HC.out _)).mono ?_); rintro e w' ⟨rfl, rfl⟩)
      | (go_at_call 66; (refine (cR _ (cs_drews HC.out _)).mono ?_); rintro e w' ⟨rfl, rfl⟩))
    go_ret
    exact ⟨ret_bool (by rw [← H.out]; rfl), below_drews _ _ _⟩
  | false =>
  rw [if_neg (by simp)] at hK
  cases sl with
  | true =>
    have H := Go.Lib.hid hK; clear hK
    go_enter Tryd.func42, Tryd.ntmps42
    go_wp2
    go_quiet (fail)
    go_wp2_with (first
      | (go_at_call 63; (with_reducible refine (kx _).mono ?_); rintro e w' ⟨rfl, rfl⟩)
      | (go_at_call 63; (with_reducible refine (kb _).mono ?_); rintro e w' ⟨rfl, rfl⟩)
      | (go_at_call 64; (with_reducible refine (ks _).mono ?_); rintro e w' ⟨rfl, rfl⟩)
      | (go_at_call 65; (refine (cJ _ (cs_drews HC.out _)).mono ?_); rintro e w' ⟨rfl, rfl⟩)
      | (go_at_call 66; (refine (cR _ (cs_drews HC.out _)).mono ?_); rintro e w' ⟨rfl, rfl⟩))
    go_ret
    exact ⟨ret_bool (by rw [← H.out]; rfl), below_drews _ _ _⟩
  | false =>
    by_cases h4 : b = 4 ∨ b = 5 ∨ b = 7
    · have hk : K = false := by
        rw [← hK, if_pos]
        rcases h4 with h | h | h <;> simp [h]
      subst hk
      clear hK
      rcases h4 with rfl | rfl | rfl
      all_goals
        go_enter Tryd.func42, Tryd.ntmps42
        go_wp2
        go_quiet (fail)
        go_wp2_with (first
          | (go_at_call 63; (with_reducible refine (kx _).mono ?_); rintro e w' ⟨rfl, rfl⟩)
          | (go_at_call 63; (with_reducible refine (kb _).mono ?_); rintro e w' ⟨rfl, rfl⟩)
          | (go_at_call 64; (with_reducible refine (ks _).mono ?_); rintro e w' ⟨rfl, rfl⟩)
          | (go_at_call 65; (refine (cJ _ (cs_drews HC.out _)).mono ?_); rintro e w' ⟨rfl, rfl⟩)
          | (go_at_call 66; (refine (cR _ (cs_drews HC.out _)).mono ?_); rintro e w' ⟨rfl, rfl⟩))
        go_ret
        exact ⟨rfl, below_drews _ _ _⟩
    · have n4 : (b == 4) = false := by simp; omega
      have n5 : (b == 5) = false := by simp; omega
      have n7 : (b == 7) = false := by simp; omega
      by_cases h6 : x = 6
      · subst h6
        have hk : K = false := by rw [← hK, if_pos]; simp
        subst hk
        clear hK h4
        go_enter Tryd.func42, Tryd.ntmps42
        go_wp2
        go_quiet (fail)
        go_wp2_with (first
          | (go_at_call 63; (with_reducible refine (kx _).mono ?_); rintro e w' ⟨rfl, rfl⟩)
          | (go_at_call 63; (with_reducible refine (kb _).mono ?_); rintro e w' ⟨rfl, rfl⟩)
          | (go_at_call 64; (with_reducible refine (ks _).mono ?_); rintro e w' ⟨rfl, rfl⟩)
          | (go_at_call 65; (refine (cJ _ (cs_drews HC.out _)).mono ?_); rintro e w' ⟨rfl, rfl⟩)
          | (go_at_call 66; (refine (cR _ (cs_drews HC.out _)).mono ?_); rintro e w' ⟨rfl, rfl⟩))
        go_ret
        exact ⟨rfl, below_drews _ _ _⟩
      · have n6 : (x == 6) = false := by simp [h6]
        rw [if_neg (by simp; omega)] at hK
        clear h4 h6
        by_cases h14 : b = 14
        · subst h14
          cases j with
          | true =>
            have H := Go.Lib.hid hK; clear hK
            go_enter Tryd.func42, Tryd.ntmps42
            go_wp2
            go_quiet (fail)
            go_wp2_with (first
              | (go_at_call 63; (with_reducible refine (kx _).mono ?_); rintro e w' ⟨rfl, rfl⟩)
              | (go_at_call 63; (with_reducible refine (kb _).mono ?_); rintro e w' ⟨rfl, rfl⟩)
              | (go_at_call 64; (with_reducible refine (ks _).mono ?_); rintro e w' ⟨rfl, rfl⟩)
              | (go_at_call 65; (refine (cJ _ (cs_drews HC.out _)).mono ?_); rintro e w' ⟨rfl, rfl⟩)
              | (go_at_call 66; (refine (cR _ (cs_drews HC.out _)).mono ?_); rintro e w' ⟨rfl, rfl⟩))
            go_ret
            exact ⟨ret_bool (by rw [← H.out]; rfl), below_drews _ _ _⟩
          | false =>
            have hk : K = true := by rw [← hK, if_neg (by simp)]; simp
            subst hk
            clear hK
            go_enter Tryd.func42, Tryd.ntmps42
            go_wp2
            go_quiet (fail)
            go_wp2_with (first
              | (go_at_call 63; (with_reducible refine (kx _).mono ?_); rintro e w' ⟨rfl, rfl⟩)
              | (go_at_call 63; (with_reducible refine (kb _).mono ?_); rintro e w' ⟨rfl, rfl⟩)
              | (go_at_call 64; (with_reducible refine (ks _).mono ?_); rintro e w' ⟨rfl, rfl⟩)
              | (go_at_call 65; (refine (cJ _ (cs_drews HC.out _)).mono ?_); rintro e w' ⟨rfl, rfl⟩)
              | (go_at_call 66; (refine (cR _ (cs_drews HC.out _)).mono ?_); rintro e w' ⟨rfl, rfl⟩))
            all_goals
              go_ret
              exact ⟨rfl, below_drews _ _ _⟩
        · have n14 : (b == 14) = false := by simp [h14]
          rw [if_neg (fun h => h14 h.1)] at hK
          clear h14
          by_cases h13 : x = 13
          · subst h13
            by_cases g13 : b = 13
            · subst g13
              have h0 : (0 : Int) ≤ (r : Int) := by omega
              have hm : ((r : Int) % 2 == 1) = decide (r % 2 = 1) := by rw [Bool.eq_iff_iff]; simp; omega
              have H := Go.Lib.hid hK; clear hK
              go_enter Tryd.func42, Tryd.ntmps42
              go_wp2
              go_quiet (fail)
              go_wp2_with (first
                | (go_at_call 63; (with_reducible refine (kx _).mono ?_); rintro e w' ⟨rfl, rfl⟩)
                | (go_at_call 63; (with_reducible refine (kb _).mono ?_); rintro e w' ⟨rfl, rfl⟩)
                | (go_at_call 64; (with_reducible refine (ks _).mono ?_); rintro e w' ⟨rfl, rfl⟩)
                | (go_at_call 65; (refine (cJ _ (cs_drews HC.out _)).mono ?_); rintro e w' ⟨rfl, rfl⟩)
                | (go_at_call 66; (refine (cR _ (cs_drews HC.out _)).mono ?_); rintro e w' ⟨rfl, rfl⟩))
              go_ret
              refine ⟨ret_bool ?_, below_drews _ _ _⟩
              rw [← H.out]
              simp
            · have m13 : (b == 13) = false := by simp [g13]
              have hk : K = true := by rw [← hK]; simp [g13]
              subst hk
              clear hK g13
              go_enter Tryd.func42, Tryd.ntmps42
              go_wp2
              go_quiet (fail)
              go_wp2_with (first
                | (go_at_call 63; (with_reducible refine (kx _).mono ?_); rintro e w' ⟨rfl, rfl⟩)
                | (go_at_call 63; (with_reducible refine (kb _).mono ?_); rintro e w' ⟨rfl, rfl⟩)
                | (go_at_call 64; (with_reducible refine (ks _).mono ?_); rintro e w' ⟨rfl, rfl⟩)
                | (go_at_call 65; (refine (cJ _ (cs_drews HC.out _)).mono ?_); rintro e w' ⟨rfl, rfl⟩)
                | (go_at_call 66; (refine (cR _ (cs_drews HC.out _)).mono ?_); rintro e w' ⟨rfl, rfl⟩))
              go_ret
              exact ⟨rfl, below_drews _ _ _⟩
          · have m13 : (x == 13) = false := by simp [h13]
            have hk : K = true := by rw [← hK]; simp [h13]
            subst hk
            clear hK h13
            go_enter Tryd.func42, Tryd.ntmps42
            go_wp2
            go_quiet (fail)
            go_wp2_with (first
              | (go_at_call 63; (with_reducible refine (kx _).mono ?_); rintro e w' ⟨rfl, rfl⟩)
              | (go_at_call 63; (with_reducible refine (kb _).mono ?_); rintro e w' ⟨rfl, rfl⟩)
              | (go_at_call 64; (with_reducible refine (ks _).mono ?_); rintro e w' ⟨rfl, rfl⟩)
              | (go_at_call 65; (refine (cJ _ (cs_drews HC.out _)).mono ?_); rintro e w' ⟨rfl, rfl⟩)
              | (go_at_call 66; (refine (cR _ (cs_drews HC.out _)).mono ?_); rintro e w' ⟨rfl, rfl⟩))
            go_ret
            exact ⟨rfl, below_drews _ _ _⟩

theorem refB_any (cs : List Int) (g cap n a : Nat) (hn : cs.length = n) (hl : n ≤ 100000) (h2 : a + 1 < n) (w : World) (hC : Cs w g cs) (b : Int) (hb : cs[a + 1]? = some b) :
    Calls Tryd.prog 42 #[.slice (some ⟨g, 0, none⟩) n cap, .int .i64 ((a : Int) + 1)] w (BoolPost (refB (rv cs (a + 1)) b) w) := by
  have ha : a < cs.length := by omega
  have hca := hC.2 a ha
  have hcb := hC.2 (a + 1) (by omega)
  have hb' : cs[a + 1]'(by omega) = b := by rw [List.getElem?_eq_getElem (by omega)] at hb; exact Option.some.inj hb
  rw [hb'] at hcb
  have hh : (rv cs (a + 1)).headD 0 = cs[a] := by rw [rv_succ cs a ha]; rfl
  refine refB_core cs g cap n a hl h2 w (Go.Lib.hid hC) cs[a] b (joins (rv cs (a + 1))) (regs (rv cs (a + 1))) hca hcb (fun w' h => joined_any cs g cap n (a + 1) hn hl (by omega) (by omega) w' h) (fun w' h => regionals_any cs g cap n (a + 1) hn hl (by omega) w' h) _ ?_
  unfold refB
  rw [hh]
end Go.Proofs.YthjooopppidcfaaDoor

namespace Go.Proofs.YthjooopppidcfaaDoor
open Go.RowKit Go.Shelf
open Gc

theorem row_below {W W' : World} {base : Nat} {e : TypeId} {size : Nat} {v : Value} {k : Nat} {xs : List Value} (h : W.ownsRow base e size v k xs) (hb : Below W.heap.size W W') : W'.ownsRow base e size v k xs :=
  h.kept (grown_below hb rfl) (by cases v.ownBlock <;> simp)
theorem below_append {B : Nat} {A V w1 : World} {e : TypeId} {v : Value} {size k : Nat} {xs : List Value} {tmp : Obj} (hb : Below B A V) (hB : B ≤ V.heap.size) (hrow : V.ownsRow B e size v k xs) (hgrow : (V.alloc tmp).grownBy w1 v.ownBlock) : Below B A w1 :=
  (hb.alloc hB tmp).grown hgrow (by simp; omega) (fun g hg => (row_type hrow g hg).1)
/-- A row of ints that is not nil is a block of ints. -/
theorem ints_cases {w : World} {base : Nat} {v : Value} {l : List Int} (h : Ints w base v l) : (l = [] ∧ v = .slice none 0 0) ∨ ∃ g cap, base ≤ g ∧ v = .slice (some ⟨g, 0, none⟩) l.length cap ∧ Cs w g l := by
  obtain ⟨h1, h2⟩ := h
  rcases h2 with ⟨rfl, h0⟩ | ⟨g, cap, cur, rfl, hb, hgb, hle, hmx, hsz, htk⟩
  · exact .inl ⟨List.length_eq_zero_iff.1 h0, rfl⟩
  · refine .inr ⟨g, cap, hb, rfl, (Array.getElem?_eq_some_iff.1 hgb).1, fun k hk => ?_⟩
    have e1 : cur[k]? = some (.int .i64 l[k]) := by
      have e2 : (cur.toList.take (l.length * 1))[k]? = (l.map (Value.int .i64))[k]? := by rw [htk]
      rw [List.getElem?_take_of_lt (by omega), List.getElem?_map, List.getElem?_eq_getElem hk] at e2
      simpa using e2
    simp [World.cell?, hgb, e1]
theorem Ints.below {w w' : World} {base : Nat} {v : Value} {l : List Int} (h : Ints w base v l) (hb : Below w.heap.size w w') : Ints w' base v l := row_below h hb

def RowPost (l : List Int) (w : World) (e : Ending) (w' : World) : Prop := ∃ v, e = .returned v ∧ Ints w' w.heap.size v l ∧ Below w.heap.size w w'

theorem map_take_succ (l : List Int) (k : Nat) (h : k < l.length) : (l.take (k + 1)).map (Value.int .i64) = (l.take k).map (Value.int .i64) ++ [.int .i64 l[k]] := by
  rw [List.take_succ_eq_append_getElem h, List.map_append]; rfl

set_option maxRecDepth 100000 in
set_option maxHeartbeats 4000000 in
theorem classes_in (ps : List Int) (g cap n : Nat) (hn : ps.length = n) (hl : n ≤ 100000) (w : World) (hC : Cs w g ps) :
    Calls Tryd.prog 41 #[.slice (some ⟨g, 0, none⟩) n cap] w (RowPost (ps.map classOf) w) := by
  obtain ⟨i0, hi, hz0, hz1, hz2⟩ := info_parts info3
  have HC := Go.Lib.hid hC
  clear hC
  have N := Go.Lib.hid hn
  clear hn
  go_enter Tryd.func41, Tryd.ntmps41
  go_wp2
  go_loopw [3, 4] (fun o i wr => ∃ k : Nat, k ≤ n ∧ i = .int .i64 (k : Nat) ∧ Hid (Below w.heap.size w wr) ∧ Hid (wr.ownsRow w.heap.size 3 1 o k (((ps.map classOf).take k).map (Value.int .i64)))) (fun _ i _ => n - (intOf i).toNat)
  case atStart => exact ⟨0, Nat.zero_le _, rfl, Go.Lib.hid (Below.refl _ _), Go.Lib.hid (World.ownsRow_nil _ _ _ _)⟩
  case round =>
    obtain ⟨k, hk, rfl, HB, HO⟩ := hrel
    by_cases hlt : k < n
    · have hkl : k < ps.length := by have := N.out; omega
      have hck := ((HC.out.below HB.out HC.out.1).2 k hkl)
      have hsnoc := map_take_succ (ps.map classOf) k (by simpa using hkl)
      rw [List.getElem_map] at hsnoc
      generalize ps[k] = p at hck hsnoc
      have HS := Go.Lib.hid hsnoc
      clear hsnoc
      have hwr := HB.out.size
      go_wp2_with (first
        | (go_at_call 62; refine (refClass_any p _).mono ?_; rintro e w1 ⟨rfl, hb1⟩; have HO1 := Go.Lib.hid (row_below HO.out hb1); have HB1 := Go.Lib.hid (HB.out.trans (hb1.mono HB.out.size)); have hw1 := HB1.out.size)
        | (at_builtin; refine wpList_append_own _ rfl _ _ 37 rfl w.heap.size 3 i0 (.int .i64 0) 1 8 Tryd.underlying37 hi hz0 hz1 hz2 rfl (by decide) _ _ _ rfl (HO1.out.alloc _) ⟨w1.heap.size, 0, none⟩ 1 1 [.int .i64 (classOf p)] rfl rfl (cell_one_new _ _ _) (by simp [Value.oneCell']) (by unfold maxLen; omega) (by omega) (by simp; omega) ?_; intro v' w2 hown' hgrow _; have HO2 := Go.Lib.hid hown'; have HB2 := Go.Lib.hid (below_append HB1.out hw1 HO1.out hgrow); clear hown' hgrow))
      go_roundw
      case rel => exact ⟨k + 1, by omega, by go_num, HB2, Go.Lib.hid (by rw [HS.out]; exact HO2.out)⟩
      case measure => simp [intOf]; omega
    · obtain rfl : k = n := by omega
      go_wp2
      go_ret
      refine ⟨_, rfl, ?_, HB.out⟩
      have := HO.out
      rw [List.take_of_length_le (by have := N.out; simp; omega)] at this
      unfold Ints
      rw [List.length_map, N.out]
      exact this
end Go.Proofs.YthjooopppidcfaaDoor

namespace Go.Proofs.YthjooopppidcfaaDoor
open Go.RowKit Go.Shelf
open Gc

set_option maxRecDepth 100000 in
set_option maxHeartbeats 2000000 in
theorem classes_nil (w : World) : Calls Tryd.prog 41 #[.slice none 0 0] w fun e w' => e = .returned (.slice none 0 0) ∧ w = w' := by
  go_enter Tryd.func41, Tryd.ntmps41
  go_wp2
  go_loop [3, 4] (fun o i => o = .slice none 0 0 ∧ i = .int .i64 0) (fun _ _ => 0)
  case atStart => exact ⟨rfl, rfl⟩
  case round =>
    obtain ⟨rfl, rfl⟩ := hrel
    go_wp2
    go_ret
    exact ⟨rfl, rfl⟩

theorem classes_any (ps : List Int) (base : Nat) (v : Value) (hl : ps.length ≤ 100000) (w : World) (h : Ints w base v ps) : Calls Tryd.prog 41 #[v] w (RowPost (ps.map classOf) w) := by
  rcases ints_cases h with ⟨rfl, rfl⟩ | ⟨g, cap, _, rfl, hC⟩
  · exact (classes_nil w).mono fun e w' ⟨h1, h2⟩ => by subst h1; subst h2; exact ⟨_, rfl, World.ownsRow_nil _ _ _ _, Below.refl _ _⟩
  · exact classes_in ps g cap ps.length rfl hl w hC

theorem row_base {W : World} {base base' : Nat} {e : TypeId} {size : Nat} {v : Value} {k : Nat} {xs : List Value} (hb : base' ≤ base) (h : W.ownsRow base e size v k xs) : W.ownsRow base' e size v k xs := by
  refine ⟨h.1, ?_⟩
  rcases h.2 with h0 | ⟨g, cap, cur, h1, h2, h3⟩
  · exact .inl h0
  · exact .inr ⟨g, cap, cur, h1, Nat.le_trans hb h2, h3⟩

theorem built_zero (w : World) (base : Nat) (hb : base ≤ w.heap.size) : (w.alloc (.cells #[.int .i64 0] 3)).ownsRow base 3 1 (.slice (some ⟨w.heap.size, 0, none⟩) 1 1) 1 [.int .i64 0] :=
  ⟨rfl, .inr ⟨w.heap.size, 1, _, rfl, hb, World.alloc_heap_new _ _, Nat.le_refl _, by decide, rfl, rfl⟩⟩

set_option maxRecDepth 100000 in
set_option maxHeartbeats 4000000 in
theorem refBounds_nil (w : World) (v : Value) (cP : Calls Tryd.prog 41 #[v] w (RowPost [] w)) : Calls Tryd.prog 19 #[v] w (RowPost [0] w) := by
  go_enter Tryd.func19, Tryd.ntmps19
  go_wp2_with (go_at_call 41; refine cP.mono ?_; rintro e w1 ⟨u, rfl, hu, hb1⟩; (obtain ⟨_, rfl⟩ | ⟨g, cap, hg, rfl, _⟩ := ints_cases hu))
  all_goals
    first
    | (go_loop [4, 5] (fun o i => o = .slice (some ⟨w1.heap.size, 0, none⟩) 1 1 ∧ i = .int .i64 1) (fun _ _ => 0)
       case atStart => exact ⟨rfl, rfl⟩
       case round =>
         obtain ⟨rfl, rfl⟩ := hrel
         go_wp2
         go_ret
         exact ⟨_, rfl, built_zero w1 _ hb1.size, hb1.alloc hb1.size _⟩)

set_option maxRecDepth 100000 in
set_option maxHeartbeats 4000000 in
theorem refBounds_in (cs : List Int) (c0 : Int) (rest : List Int) (hcs : cs = c0 :: rest) (v : Value) (hl : cs.length ≤ 100000) (w : World) (cP : Calls Tryd.prog 41 #[v] w (RowPost cs w)) : Calls Tryd.prog 19 #[v] w (RowPost (bounds cs) w) := by
  obtain ⟨i0, hi, hz0, hz1, hz2⟩ := info_parts info3
  have hbd : bounds cs = (0 :: inner [c0] 1 rest) ++ [((rest.length + 1 : Nat) : Int)] := by rw [hcs]; rfl
  rw [hbd]
  clear hbd
  have hst : rv cs 1 = [c0] := by rw [hcs]; rfl
  have hdr : cs.drop 1 = rest := by rw [hcs]; rfl
  have hnn : cs.length = rest.length + 1 := by rw [hcs]; rfl
  clear hcs
  generalize hT : (0 :: inner [c0] 1 rest : List Int) = TT'
  have HT := Go.Lib.hid hT
  have HS := Go.Lib.hid hst
  have HD := Go.Lib.hid hdr
  obtain ⟨n, hn⟩ : ∃ n, cs.length = n := ⟨_, rfl⟩
  have N := Go.Lib.hid hn
  have NN := Go.Lib.hid (hn.symm.trans hnn)
  have hn0 : 0 < n := by omega
  rw [hn] at hl
  clear hT hst hdr hn hnn
  go_enter Tryd.func19, Tryd.ntmps19
  go_wp2_with (go_at_call 41; refine cP.mono ?_; rintro e w1 ⟨u, rfl, hu, hb1⟩; have hcc := ints_cases hu; clear hu; replace hcc := hcc.resolve_left (fun h => by have := N.out; rw [h.1] at this; simp at this; omega); obtain ⟨g, cap, hg, rfl, hC⟩ := hcc; rw [N.out]; have HC := Go.Lib.hid hC; clear hC)
  have HB1 := Go.Lib.hid hb1
  have hw1 := hb1.size
  clear hb1 cP
  have hgw : g < w1.heap.size := HC.out.1
  go_loopw [4, 5] (fun o i wr => ∃ (a : Nat) (L : List Int), a + 1 ≤ n ∧ i = .int .i64 ((a : Int) + 1) ∧ L.length ≤ a + 1 ∧ Hid (Below w1.heap.size w1 wr) ∧ Hid (wr.ownsRow w1.heap.size 3 1 o L.length (L.map (Value.int .i64))) ∧ Hid (L ++ inner (rv cs (a + 1)) (a + 1) (cs.drop (a + 1)) = TT')) (fun _ i _ => n - (intOf i).toNat)
  case atStart =>
    exact ⟨0, [0], by omega, rfl, by simp, Go.Lib.hid ((Below.refl _ _).alloc (Nat.le_refl _) _), Go.Lib.hid (built_zero w1 _ (Nat.le_refl _)), Go.Lib.hid (by rw [HS.out, HD.out, ← HT.out]; rfl)⟩
  case round =>
    obtain ⟨a, L, ha, rfl, hLl, HB, HO, HL⟩ := hrel
    have hwr := HB.out.size
    by_cases hlt : a + 1 < n
    · have hkl : a + 1 < cs.length := by have := N.out; omega
      have cR := refB_any cs g cap n a N.out hl hlt wr (HC.out.below HB.out hgw) cs[a + 1] (List.getElem?_eq_getElem hkl)
      have hrv := rv_succ cs (a + 1) hkl
      have hdp := List.drop_eq_getElem_cons hkl
      generalize cs[a + 1] = b at cR hrv hdp
      have hst : L ++ ((if refB (rv cs (a + 1)) b then [((a + 1 : Nat) : Int)] else []) ++ inner (rv cs (a + 1 + 1)) (a + 1 + 1) (cs.drop (a + 1 + 1))) = TT' := by
        rw [← HL.out, hdp, hrv]; rfl
      clear hrv hdp
      have hib : ((a : Int) + 1 < (n : Int)) := by omega
      cases hbb : refB (rv cs (a + 1)) b with
      | true =>
        rw [hbb] at cR hst
        rw [if_pos rfl, ← List.append_assoc] at hst
        have HS2 := Go.Lib.hid hst
        clear hst hbb
        go_wp2_with (first
          | (go_at_call 42; (with_reducible refine cR.mono ?_); rintro e w2 ⟨rfl, hb2⟩; have HO1 := Go.Lib.hid (row_below HO.out hb2); have HB1 := Go.Lib.hid (HB.out.trans (hb2.mono HB.out.size)); have hw2 := HB1.out.size; clear hb2)
          | (at_builtin; refine wpList_append_own _ rfl _ _ 37 rfl w1.heap.size 3 i0 (.int .i64 0) 1 8 Tryd.underlying37 hi hz0 hz1 hz2 rfl (by decide) _ _ _ rfl (HO1.out.alloc _) ⟨w2.heap.size, 0, none⟩ 1 1 [.int .i64 ((a : Int) + 1)] rfl rfl (cell_one_new _ _ _) (by simp [Value.oneCell']) (by unfold maxLen; omega) (by omega) (by simp; omega) ?_; intro v' w3 hown' hgrow _; have HO3 := Go.Lib.hid hown'; have HB3 := Go.Lib.hid (below_append HB1.out hw2 HO1.out hgrow); clear hown' hgrow))
        go_roundw
        case rel => exact ⟨a + 1, L ++ [((a + 1 : Nat) : Int)], by omega, by go_num, by simp; omega, HB3, Go.Lib.hid (by rw [List.length_append, List.map_append]; exact HO3.out), HS2⟩
        case measure => simp [intOf]; omega
      | false =>
        rw [hbb] at cR hst
        rw [if_neg (by simp), List.nil_append] at hst
        have HS2 := Go.Lib.hid hst
        clear hst hbb
        go_wp2_with (go_at_call 42; (with_reducible refine cR.mono ?_); rintro e w2 ⟨rfl, hb2⟩; have HO1 := Go.Lib.hid (row_below HO.out hb2); have HB1 := Go.Lib.hid (HB.out.trans (hb2.mono HB.out.size)); have hw2 := HB1.out.size; clear hb2)
        go_roundw
        case rel => exact ⟨a + 1, L, by omega, by go_num, by omega, HB1, HO1, HS2⟩
        case measure => simp [intOf]; omega
    · obtain rfl : n = a + 1 := by omega
      have hLT : L = TT' := by
        have h1 := HL.out
        rw [List.drop_of_length_le (by rw [N.out]; omega)] at h1
        simpa [inner] using h1
      have HLT := Go.Lib.hid hLT
      clear hLT
      go_wp2_with (at_builtin; refine wpList_append_own _ rfl _ _ 37 rfl w1.heap.size 3 i0 (.int .i64 0) 1 8 Tryd.underlying37 hi hz0 hz1 hz2 rfl (by decide) _ _ _ rfl (HO.out.alloc _) ⟨wr.heap.size, 0, none⟩ 1 1 [.int .i64 ((a : Int) + 1)] rfl rfl (cell_one_new _ _ _) (by simp [Value.oneCell']) (by unfold maxLen; omega) (by omega) (by simp; omega) ?_; intro v' w3 hown' hgrow _; have HO3 := Go.Lib.hid hown'; have HB3 := Go.Lib.hid (below_append HB.out hwr HO.out hgrow); clear hown' hgrow)
      go_ret
      refine ⟨_, rfl, ?_, HB1.out.trans (HB3.out.mono hw1)⟩
      unfold Ints
      have := row_base hw1 HO3.out
      rw [← HLT.out, ← NN.out, List.length_append, List.map_append]
      exact this
theorem refBounds_any (ps : List Int) (base : Nat) (v : Value) (hl : ps.length ≤ 100000) (w : World) (h : Ints w base v ps) : Calls Tryd.prog 19 #[v] w (RowPost (bounds (ps.map classOf)) w) := by
  have cP := classes_any ps base v hl w h
  cases ps with
  | nil => exact refBounds_nil w v cP
  | cons p ps => exact refBounds_in _ (classOf p) (ps.map classOf) rfl v (by simpa using hl) w cP
end Go.Proofs.YthjooopppidcfaaDoor
