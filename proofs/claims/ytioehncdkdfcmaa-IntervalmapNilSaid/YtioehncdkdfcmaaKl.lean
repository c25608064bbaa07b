/- Layer 5: the laws Limits and Nil. -/
import Derived.Test.YtioehncdkdfcmaaC7
namespace Go.Proofs.Ytioehncdkdfcmaa
open Go.RowKit Go.Lib Im

set_option maxRecDepth 100000 in
set_option maxHeartbeats 8000000 in
theorem law_limits (n v : Int) (w : World) : Calls Try.prog 10 #[.int .i64 n, .int .i64 v] w (BoolB true w) := by
  by_cases hb : n < 0 ∨ 1048576 < n
  · have cB := new_bad n v w hb
    by_cases h0 : n < 0
    · clear hb
      go_enter Try.func10, Try.ntmps10
      go_wp2_with (first | (go_at_call 33; (with_reducible refine cB.mono ?_); rintro e w1 ⟨rfl, hb1⟩) | (go_at_call 13; (with_reducible refine (known_any _).mono ?_); rintro e w2 ⟨rfl, hb2⟩))
      go_ret
      exact ⟨by simp, hb1.trans (hb2.mono hb1.size)⟩
    · have h1 : 1048576 < n := by omega
      clear hb
      go_enter Try.func10, Try.ntmps10
      go_wp2_with (first | (go_at_call 33; (with_reducible refine cB.mono ?_); rintro e w1 ⟨rfl, hb1⟩) | (go_at_call 13; (with_reducible refine (known_any _).mono ?_); rintro e w2 ⟨rfl, hb2⟩))
      go_ret
      exact ⟨by simp, hb1.trans (hb2.mono hb1.size)⟩
  · have h0 : ¬ n < 0 := fun h => hb (.inl h)
    have h1 : ¬ 1048576 < n := fun h => hb (.inr h)
    clear hb
    obtain ⟨l, hl⟩ : ∃ l, l = List.replicate n.toNat v := ⟨_, rfl⟩
    have hll : l.length = n.toNat := by rw [hl, List.length_replicate]
    have hli : ((l.length : Nat) : Int) = n := by omega
    have HAP := Go.Lib.hid (app_new n v)
    rw [← hl] at HAP
    have cN := new_map n v w (by omega) (by omega)
    rw [← hl] at cN
    have HL2 := Go.Lib.hid (show l.length ≤ 1048576 by omega)
    have cL := fun b w' h => len_on w b l w' h
    have cR := fun b w' h => runs_on w b l w' h HL2.out
    rw [hli] at cL
    unfold RunO at cR
    rw [← HAP.out] at cR
    unfold app at cR
    clear hl hll hli HAP
    by_cases hz : n = 0
    · subst hz
      dsimp only at cR
      rw [if_pos (Int.le_refl 0)] at cR
      clear h0 h1
      go_enter Try.func10, Try.ntmps10
      go_wp2_with fail
      (with_reducible refine cN.mono ?_)
      rintro e w1 ⟨b, rfl, hN⟩
      have g1 := hN.on
      clear hN cN
      go_wp2_with fail
      (with_reducible refine (known_any _).mono ?_)
      rintro e w2 ⟨rfl, hb2⟩
      have g2 := g1.below hb2
      clear g1 hb2
      go_wp2_with fail
      (with_reducible refine (cL b _ g2).mono ?_)
      rintro e w3 ⟨rfl, g3, hb3⟩
      clear g2 hb3 cL
      go_wp2_with fail
      (with_reducible refine (cR b _ g3).mono ?_)
      rintro e w4 ⟨B, c, rfl, hA, h4⟩
      clear g3 cR hA
      go_wp2
      go_ret
      obtain ⟨_, _, _, _, _, hb⟩ := h4
      exact ⟨by simp, hb⟩
    · have hnp : ¬ n ≤ 0 := by omega
      dsimp only at cR
      rw [if_neg hnp] at cR
      dsimp only [List.getLast?_nil, List.nil_append] at cR
      have hz2 : ¬ (n = 0) := hz
      clear hnp
      go_enter Try.func10, Try.ntmps10
      go_wp2_with fail
      (with_reducible refine cN.mono ?_)
      rintro e w1 ⟨b, rfl, hN⟩
      have g1 := hN.on
      clear hN cN
      go_wp2_with fail
      (with_reducible refine (known_any _).mono ?_)
      rintro e w2 ⟨rfl, hb2⟩
      have g2 := g1.below hb2
      clear g1 hb2
      go_wp2_with fail
      (with_reducible refine (cL b _ g2).mono ?_)
      rintro e w3 ⟨rfl, g3, hb3⟩
      clear g2 hb3 cL
      go_wp2_with fail
      (with_reducible refine (cR b _ g3).mono ?_)
      rintro e w4 ⟨B, c, rfl, hA, h4⟩
      clear g3 cR
      rcases hA with hA | ⟨gg, oo, rfl, hg, hcl⟩
      · cases hA
      obtain ⟨c0, c1, c2⟩ := hcl 0 (Nat.zero_lt_one)
      clear hcl hg
      simp only [List.getElem_cons_zero, Nat.zero_mul, Nat.add_zero] at c0 c1 c2
      go_wp2
      go_ret
      obtain ⟨_, _, _, _, _, hb⟩ := h4
      exact ⟨by simp, hb⟩
set_option maxRecDepth 100000 in
set_option maxHeartbeats 8000000 in
theorem law_nil (a b v : Int) (w : World) : Calls Try.prog 11 #[.int .i64 a, .int .i64 b, .int .i64 v] w (BoolB true w) := by
  have cN := new_map 1 v w (by omega) (by omega)
  go_enter Try.func11, Try.ntmps11
  go_wp2_with fail
  (with_reducible refine cN.mono ?_)
  rintro e w1 ⟨m, rfl, hN⟩
  obtain ⟨_, _, _, _, _, _, hb1⟩ := hN
  clear cN
  go_wp2_with fail
  (with_reducible refine (at_nil _ _).mono ?_)
  rintro e w2 ⟨rfl, hb⟩
  have hb2 := hb1.trans (hb.mono hb1.size)
  clear hb hb1
  go_wp2_with fail
  (with_reducible refine (total_nil _ _ _ _).mono ?_)
  rintro e w3 ⟨rfl, hb⟩
  have hb3 := hb2.trans (hb.mono hb2.size)
  clear hb hb2
  go_wp2_with fail
  (with_reducible refine (next_nil _ _).mono ?_)
  rintro e w4 ⟨rfl, hb⟩
  have hb4 := hb3.trans (hb.mono hb3.size)
  clear hb hb3
  go_wp2_with fail
  (with_reducible refine (find_nil _ _ _).mono ?_)
  rintro e w5 ⟨rfl, hb⟩
  have hb5 := hb4.trans (hb.mono hb4.size)
  clear hb hb4
  go_wp2_with fail
  (with_reducible refine (zip_nil_l _ _).mono ?_)
  rintro e w6 ⟨rfl, hb⟩
  have hb6 := hb5.trans (hb.mono hb5.size)
  clear hb hb5
  go_wp2_with fail
  (with_reducible refine (zip_nil_r _ _).mono ?_)
  rintro e w7 ⟨rfl, hb⟩
  have hb7 := hb6.trans (hb.mono hb6.size)
  clear hb hb6
  go_wp2_with fail
  (with_reducible refine (known_any _).mono ?_)
  rintro e w8 ⟨rfl, hb⟩
  have hb8 := hb7.trans (hb.mono hb7.size)
  clear hb hb7
  go_wp2_with fail
  (with_reducible refine (set_nil _ _ _ _).mono ?_)
  rintro e w9 ⟨rfl, hb⟩
  have hb9 := hb8.trans (hb.mono hb8.size)
  clear hb hb8
  go_wp2_with fail
  (with_reducible refine (add_nil _ _ _ _).mono ?_)
  rintro e w10 ⟨rfl, hb⟩
  have hb10 := hb9.trans (hb.mono hb9.size)
  clear hb hb9
  go_wp2_with fail
  (with_reducible refine (splice_nil _ _ _ _ _).mono ?_)
  rintro e w11 ⟨rfl, hb⟩
  have hb11 := hb10.trans (hb.mono hb10.size)
  clear hb hb10
  go_wp2_with fail
  (with_reducible refine (len_nil _).mono ?_)
  rintro e w12 ⟨rfl, hb⟩
  have hb12 := hb11.trans (hb.mono hb11.size)
  clear hb hb11
  go_wp2_with fail
  (with_reducible refine (runs_nil _).mono ?_)
  rintro e w13 ⟨rfl, hb⟩
  have hb13 := hb12.trans (hb.mono hb12.size)
  clear hb hb12
  go_wp2_with fail
  (with_reducible refine (clone_nil _).mono ?_)
  rintro e w14 ⟨rfl, hb⟩
  have hb14 := hb13.trans (hb.mono hb13.size)
  clear hb hb13
  go_wp2_with fail
  (with_reducible refine (equal_nil _).mono ?_)
  rintro e w15 ⟨rfl, hb⟩
  have hb15 := hb14.trans (hb.mono hb14.size)
  clear hb hb14
  go_wp2_with fail
  (with_reducible refine (equal_nil_l _ _).mono ?_)
  rintro e w16 ⟨rfl, hb⟩
  have hb16 := hb15.trans (hb.mono hb15.size)
  clear hb hb15
  go_wp2_with fail
  (with_reducible refine (equal_nil_r _ _).mono ?_)
  rintro e w17 ⟨rfl, hb⟩
  have hb17 := hb16.trans (hb.mono hb16.size)
  clear hb hb16
  go_wp2
  go_ret
  exact ⟨by simp, hb17⟩
end Go.Proofs.Ytioehncdkdfcmaa
