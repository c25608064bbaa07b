import Derived.Test.YtigbmhddkcgjfaaDoorRc
namespace Go.Proofs.YtigbmhddkcgjfaaDoor
open Go.RowKit Go.Shelf
open Gc

theorem below_drews (n : Nat) (w : World) (q : Nat) : Below n w (w.drewN q) := below_drewNv (Below.refl n w) q

theorem cs_drews {w : World} {g : Nat} {cs : List Int} (h : Cs w g cs) (q : Nat) : Cs (w.drewN q) g cs :=
  h.below (below_drews w.heap.size w q) h.1

def SameBool (v : Bool) (w : World) (e : Ending) (w' : World) : Prop := e = .returned (.bool v) ∧ w = w'

set_option maxRecDepth 100000 in
set_option maxHeartbeats 4000000 in
theorem refB_core (cs : List Int) (g cap n a : Nat) (hl : n ≤ 100000) (h2 : a + 1 < n) (w : World) (HC : Hid (Cs w g cs)) (x b : Int) (j : Bool) (r : Nat)
    (hca : w.cell? ⟨g, a, none⟩ = some (.int .i64 x)) (hcb : w.cell? ⟨g, a + 1, none⟩ = some (.int .i64 b))
    (cJ : ∀ w', Cs w' g cs → Calls Tryd.prog 52 #[.slice (some ⟨g, 0, none⟩) n cap, .int .i64 ((a : Int) + 1)] w' (SameBool j w'))
    (cR : ∀ w', Cs w' g cs → Calls Tryd.prog 53 #[.slice (some ⟨g, 0, none⟩) n cap, .int .i64 ((a : Int) + 1)] w' fun e w'' => e = .returned (.int .i64 (r : Nat)) ∧ w' = w'') (K : Bool)
    (hK : (if x = 1 ∧ b = 2 then false else if (Gc.control x || Gc.control b) = true then true
      else if (Gc.syllable x b || decide (b = 4) || decide (b = 5) || decide (b = 7) || decide (x = 6)) = true then false
      else if b = 14 ∧ j = true then false else !(decide (x = 13) && decide (b = 13) && decide (r % 2 = 1))) = K) :
    Calls Tryd.prog 40 #[.slice (some ⟨g, 0, none⟩) n cap, .int .i64 ((a : Int) + 1)] w (BoolPost K w) := by
  have c1 : a < n := by omega
  have hi1 : ((a : Int) + 1 - 1) = (a : Int) := by omega
  have hi2 : ((a : Int) + 1 - 1).toNat = a := by omega
  have hi3 : ((a : Int) + 1).toNat = a + 1 := by omega
  have kx := fun w => breaker_any x w
  have kb := fun w => breaker_any b w
  have ks := fun w => syll_any x b w
  by_cases h1 : x = 1
  · subst h1
    by_cases hb2 : b = 2
    · subst hb2
      have H := Go.Lib.hid hK; clear hK
      go_enter Tryd.func40, Tryd.ntmps40
      go_wp2
      go_quiet (fail)
      go_wp2
      go_ret
      exact ⟨ret_bool (by rw [← H.out]; rfl), below_drews _ _ _⟩
    · have hk : K = true := by rw [← hK, if_neg (fun h => hb2 h.2), if_pos]; rfl
      subst hk
      clear hK
      have b2 : (b == 2) = false := by simp [hb2]
      go_enter Tryd.func40, Tryd.ntmps40
      go_wp2
      go_quiet (fail)
      go_wp2_with (go_at_call 50; (with_reducible refine (breaker_any 1 _).mono ?_); rintro e w' ⟨rfl, rfl⟩)
      all_goals
        go_ret
        exact ⟨rfl, below_drews _ _ _⟩
  have b1 : (x == 1) = false := by simp [h1]
  rw [if_neg (fun h => h1 h.1)] at hK
  have N1 := Go.Lib.hid h1
  clear h1
  generalize Gc.control x = cx at kx hK
  generalize Gc.control b = cb at kb hK
  generalize Gc.syllable x b = sl at ks hK
  cases cx with
  | true =>
    have H := Go.Lib.hid hK; clear hK
    go_enter Tryd.func40, Tryd.ntmps40
    go_wp2
    go_quiet (fail)
    go_wp2_with (first
      | (go_at_call 50; (with_reducible refine (kx _).mono ?_); rintro e w' ⟨rfl, rfl⟩)
      | (go_at_call 50; (with_reducible refine (kb _).mono ?_); rintro e w' ⟨rfl, rfl⟩)
      | (go_at_call 51; (with_reducible refine (ks _).mono ?_); rintro e w' ⟨rfl, rfl⟩)
      | (go_at_call 52; (refine (cJ _ (cs_drews HC.out _)).mono ?_); rintro e w' ⟨rfl, rfl⟩)
      | (go_at_call 53; (refine (cR _ (cs_drews HC.out _)).mono ?_); rintro e w' ⟨rfl, rfl⟩))
    go_ret
    exact ⟨ret_bool (by rw [← H.out]; rfl), below_drews _ _ _⟩
  | false =>
  cases cb with
  | true =>
    have H := Go.Lib.hid hK; clear hK
    go_enter Tryd.func40, Tryd.ntmps40
    go_wp2
    go_quiet (fail)
    go_wp2_with (first
      | (go_at_call 50; (with_reducible refine (kx _).mono ?_); rintro e w' ⟨rfl, rfl⟩)
      | (go_at_call 50; (with_reducible refine (kb _).mono ?_); rintro e w' ⟨rfl, rfl⟩)
      | (go_at_call 51; (with_reducible refine (ks _).mono ?_); rintro e w' ⟨rfl, rfl⟩)
      | (go_at_call 52; (refine (cJ _ (cs_drews HC.out _)).mono ?_); rintro e w' ⟨rfl, rfl⟩)
      | (go_at_call 53; (refine (cR _ (cs_drews HC.out _)).mono ?_); rintro e w' ⟨rfl, rfl⟩))
    go_ret
    exact ⟨ret_bool (by rw [← H.out]; rfl), below_drews _ _ _⟩
  | false =>
  rw [if_neg (by simp)] at hK
  cases sl with
  | true =>
    have H := Go.Lib.hid hK; clear hK
    go_enter Tryd.func40, Tryd.ntmps40
    go_wp2
    go_quiet (fail)
    go_wp2_with (first
      | (go_at_call 50; (with_reducible refine (kx _).mono ?_); rintro e w' ⟨rfl, rfl⟩)
      | (go_at_call 50; (with_reducible refine (kb _).mono ?_); rintro e w' ⟨rfl, rfl⟩)
      | (go_at_call 51; (with_reducible refine (ks _).mono ?_); rintro e w' ⟨rfl, rfl⟩)
      | (go_at_call 52; (refine (cJ _ (cs_drews HC.out _)).mono ?_); rintro e w' ⟨rfl, rfl⟩)
      | (go_at_call 53; (refine (cR _ (cs_drews HC.out _)).mono ?_); rintro e w' ⟨rfl, rfl⟩))
    go_ret
    exact ⟨ret_bool (by rw [← H.out]; rfl), below_drews _ _ _⟩
  | false =>
    by_cases h4 : b = 4 ∨ b = 5 ∨ b = 7
    · have hk : K = false := by
        rw [← hK, if_pos]
        rcases h4 with h | h | h <;> simp [h]
      subst hk
      clear hK
      rcases h4 with rfl | rfl | rfl
      all_goals
        go_enter Tryd.func40, Tryd.ntmps40
        go_wp2
        go_quiet (fail)
        go_wp2_with (first
          | (go_at_call 50; (with_reducible refine (kx _).mono ?_); rintro e w' ⟨rfl, rfl⟩)
          | (go_at_call 50; (with_reducible refine (kb _).mono ?_); rintro e w' ⟨rfl, rfl⟩)
          | (go_at_call 51; (with_reducible refine (ks _).mono ?_); rintro e w' ⟨rfl, rfl⟩)
          | (go_at_call 52; (refine (cJ _ (cs_drews HC.out _)).mono ?_); rintro e w' ⟨rfl, rfl⟩)
          | (go_at_call 53; (refine (cR _ (cs_drews HC.out _)).mono ?_); rintro e w' ⟨rfl, rfl⟩))
        go_ret
        exact ⟨rfl, below_drews _ _ _⟩
    · have n4 : (b == 4) = false := by simp; omega
      have n5 : (b == 5) = false := by simp; omega
      have n7 : (b == 7) = false := by simp; omega
      by_cases h6 : x = 6
      · subst h6
        have hk : K = false := by rw [← hK, if_pos]; simp
        subst hk
        clear hK h4
        go_enter Tryd.func40, Tryd.ntmps40
        go_wp2
        go_quiet (fail)
        go_wp2_with (first
          | (go_at_call 50; (with_reducible refine (kx _).mono ?_); rintro e w' ⟨rfl, rfl⟩)
          | (go_at_call 50; (with_reducible refine (kb _).mono ?_); rintro e w' ⟨rfl, rfl⟩)
          | (go_at_call 51; (with_reducible refine (ks _).mono ?_); rintro e w' ⟨rfl, rfl⟩)
          | (go_at_call 52; (refine (cJ _ (cs_drews HC.out _)).mono ?_); rintro e w' ⟨rfl, rfl⟩)
          | (go_at_call 53; (refine (cR _ (cs_drews HC.out _)).mono ?_); rintro e w' ⟨rfl, rfl⟩))
        go_ret
        exact ⟨rfl, below_drews _ _ _⟩
      · have n6 : (x == 6) = false := by simp [h6]
        rw [if_neg (by simp; omega)] at hK
        clear h4 h6
        by_cases h14 : b = 14
        · subst h14
          cases j with
          | true =>
            have H := Go.Lib.hid hK; clear hK
            go_enter Tryd.func40, Tryd.ntmps40
            go_wp2
            go_quiet (fail)
            go_wp2_with (first
              | (go_at_call 50; (with_reducible refine (kx _).mono ?_); rintro e w' ⟨rfl, rfl⟩)
              | (go_at_call 50; (with_reducible refine (kb _).mono ?_); rintro e w' ⟨rfl, rfl⟩)
              | (go_at_call 51; (with_reducible refine (ks _).mono ?_); rintro e w' ⟨rfl, rfl⟩)
              | (go_at_call 52; (refine (cJ _ (cs_drews HC.out _)).mono ?_); rintro e w' ⟨rfl, rfl⟩)
              | (go_at_call 53; (refine (cR _ (cs_drews HC.out _)).mono ?_); rintro e w' ⟨rfl, rfl⟩))
            go_ret
            exact ⟨ret_bool (by rw [← H.out]; rfl), below_drews _ _ _⟩
          | false =>
            have hk : K = true := by rw [← hK, if_neg (by simp)]; simp
            subst hk
            clear hK
            go_enter Tryd.func40, Tryd.ntmps40
            go_wp2
            go_quiet (fail)
            go_wp2_with (first
              | (go_at_call 50; (with_reducible refine (kx _).mono ?_); rintro e w' ⟨rfl, rfl⟩)
              | (go_at_call 50; (with_reducible refine (kb _).mono ?_); rintro e w' ⟨rfl, rfl⟩)
              | (go_at_call 51; (with_reducible refine (ks _).mono ?_); rintro e w' ⟨rfl, rfl⟩)
              | (go_at_call 52; (refine (cJ _ (cs_drews HC.out _)).mono ?_); rintro e w' ⟨rfl, rfl⟩)
              | (go_at_call 53; (refine (cR _ (cs_drews HC.out _)).mono ?_); rintro e w' ⟨rfl, rfl⟩))
            all_goals
              go_ret
              exact ⟨rfl, below_drews _ _ _⟩
        · have n14 : (b == 14) = false := by simp [h14]
          rw [if_neg (fun h => h14 h.1)] at hK
          clear h14
          by_cases h13 : x = 13
          · subst h13
            by_cases g13 : b = 13
            · subst g13
              have h0 : (0 : Int) ≤ (r : Int) := by omega
              have hm : ((r : Int) % 2 == 1) = decide (r % 2 = 1) := by rw [Bool.eq_iff_iff]; simp; omega
              have H := Go.Lib.hid hK; clear hK
              go_enter Tryd.func40, Tryd.ntmps40
              go_wp2
              go_quiet (fail)
              go_wp2_with (first
                | (go_at_call 50; (with_reducible refine (kx _).mono ?_); rintro e w' ⟨rfl, rfl⟩)
                | (go_at_call 50; (with_reducible refine (kb _).mono ?_); rintro e w' ⟨rfl, rfl⟩)
                | (go_at_call 51; (with_reducible refine (ks _).mono ?_); rintro e w' ⟨rfl, rfl⟩)
                | (go_at_call 52; (refine (cJ _ (cs_drews HC.out _)).mono ?_); rintro e w' ⟨rfl, rfl⟩)
                | (go_at_call 53; (refine (cR _ (cs_drews HC.out _)).mono ?_); rintro e w' ⟨rfl, rfl⟩))
              go_ret
              refine ⟨ret_bool ?_, below_drews _ _ _⟩
              rw [← H.out]
              simp
            · have m13 : (b == 13) = false := by simp [g13]
              have hk : K = true := by rw [← hK]; simp [g13]
              subst hk
              clear hK g13
              go_enter Tryd.func40, Tryd.ntmps40
              go_wp2
              go_quiet (fail)
              go_wp2_with (first
                | (go_at_call 50; (with_reducible refine (kx _).mono ?_); rintro e w' ⟨rfl, rfl⟩)
                | (go_at_call 50; (with_reducible refine (kb _).mono ?_); rintro e w' ⟨rfl, rfl⟩)
                | (go_at_call 51; (with_reducible refine (ks _).mono ?_); rintro e w' ⟨rfl, rfl⟩)
                | (go_at_call 52; (refine (cJ _ (cs_drews HC.out _)).mono ?_); rintro e w' ⟨rfl, rfl⟩)
                | (go_at_call 53; (refine (cR _ (cs_drews HC.out _)).mono ?_); rintro e w' ⟨rfl, rfl⟩))
              go_ret
              exact ⟨rfl, below_drews _ _ _⟩
          · have m13 : (x == 13) = false := by simp [h13]
            have hk : K = true := by rw [← hK]; simp [h13]
            subst hk
            clear hK h13
            go_enter Tryd.func40, Tryd.ntmps40
            go_wp2
            go_quiet (fail)
            go_wp2_with (first
              | (go_at_call 50; (with_reducible refine (kx _).mono ?_); rintro e w' ⟨rfl, rfl⟩)
              | (go_at_call 50; (with_reducible refine (kb _).mono ?_); rintro e w' ⟨rfl, rfl⟩)
              | (go_at_call 51; (with_reducible refine (ks _).mono ?_); rintro e w' ⟨rfl, rfl⟩)
              | (go_at_call 52; (refine (cJ _ (cs_drews HC.out _)).mono ?_); rintro e w' ⟨rfl, rfl⟩)
              | (go_at_call 53; (refine (cR _ (cs_drews HC.out _)).mono ?_); rintro e w' ⟨rfl, rfl⟩))
            go_ret
            exact ⟨rfl, below_drews _ _ _⟩

theorem refB_any (cs : List Int) (g cap n a : Nat) (hn : cs.length = n) (hl : n ≤ 100000) (h2 : a + 1 < n) (w : World) (hC : Cs w g cs) (b : Int) (hb : cs[a + 1]? = some b) :
    Calls Tryd.prog 40 #[.slice (some ⟨g, 0, none⟩) n cap, .int .i64 ((a : Int) + 1)] w (BoolPost (refB (rv cs (a + 1)) b) w) := by
  have ha : a < cs.length := by omega
  have hca := hC.2 a ha
  have hcb := hC.2 (a + 1) (by omega)
  have hb' : cs[a + 1]'(by omega) = b := by rw [List.getElem?_eq_getElem (by omega)] at hb; exact Option.some.inj hb
  rw [hb'] at hcb
  have hh : (rv cs (a + 1)).headD 0 = cs[a] := by rw [rv_succ cs a ha]; rfl
  refine refB_core cs g cap n a hl h2 w (Go.Lib.hid hC) cs[a] b (joins (rv cs (a + 1))) (regs (rv cs (a + 1))) hca hcb (fun w' h => joined_any cs g cap n (a + 1) hn hl (by omega) (by omega) w' h) (fun w' h => regionals_any cs g cap n (a + 1) hn hl (by omega) w' h) _ ?_
  unfold refB
  rw [hh]
end Go.Proofs.YtigbmhddkcgjfaaDoor
