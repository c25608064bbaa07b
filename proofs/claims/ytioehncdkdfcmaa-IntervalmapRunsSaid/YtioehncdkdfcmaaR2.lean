/- Layer 5: the reference's Check. -/
import Derived.Test.YtioehncdkdfcmaaR1
namespace Go.Proofs.Ytioehncdkdfcmaa
open Go.RowKit Go.Lib Im

set_option maxRecDepth 100000 in
set_option maxHeartbeats 16000000 in
theorem rcheck_any (A : Option Addr) (n c : Nat) (l : List Rn) (hl : l.length = n) (hn : n ≤ 1000) (w : World) (hA : RnAt w A l) :
    Calls Try.prog 15 #[.slice A n c, .int .i64 1048576] w fun e w' => e = .returned (.int .i64 (chkA l)) ∧ Below w.heap.size w w' := by
  have HL := Go.Lib.hid hl
  have HA := Go.Lib.hid hA
  clear hA hl
  go_enter Try.func15, Try.ntmps15
  go_wp2_with fail
  go_loopw [5, 6] (fun en i wr => ∃ k : Nat, k ≤ n ∧ i = .int .i64 k ∧ en = .int .i64 (endA l k) ∧ Hid (Below w.heap.size w wr) ∧ Hid (∀ j, j < k → errA l j = 0)) (fun _ i _ => n - (RowKit.intOf i).toNat)
  case atStart => exact ⟨0, Nat.zero_le _, rfl, rfl, Go.Lib.hid (Below.refl _ _), Go.Lib.hid (fun j h => by omega)⟩
  case round =>
    obtain ⟨k, hk, rfl, rfl, HB, HN⟩ := hrel
    by_cases hlt : k < n
    · have hkl : k < l.length := by rw [HL.out]; exact hlt
      rcases HA.out with hA0 | ⟨g, o, rfl, hg, hcl⟩
      · rw [hA0] at hkl; exact absurd hkl (Nat.not_lt_zero _)
      obtain ⟨h0, h1, h2⟩ := hcl k hkl
      have c0 := (HB.out.cell (p := ⟨g, o + k * 3, none⟩) hg).trans h0
      have c1 := (HB.out.cell (p := ⟨g, o + k * 3 + 1, none⟩) hg).trans h1
      have c2 := (HB.out.cell (p := ⟨g, o + k * 3 + 2, none⟩) hg).trans h2
      have HG := Go.Lib.hid (Nat.lt_of_lt_of_le hg HB.out.size)
      have hy := elA_get hkl
      rw [← hy] at c0 c1 c2
      have HKL := Go.Lib.hid hkl
      have HE : Hid (errA l k = if (elA l k).1 ≠ endA l k then 6 else if (elA l k).2.1 ≤ (elA l k).1 then 6 else if 1048576 < (elA l k).2.1 then 2 else if sameA l k then 15 else 0) := Go.Lib.hid rfl
      have HS : Hid (∀ ya yb yc, elA l k = (ya, yb, yc) → endA l (k + 1) = yb) := Go.Lib.hid (fun ya yb yc e => by show (elA l k).2.1 = yb; rw [e])
      clear h0 h1 h2 hy
      have q0 : (0 : Int) ≤ (k : Int) := by omega
      have q1 : (k : Int) < (n : Int) := by omega
      generalize hyy : elA l k = y at c0 c1 c2 HE HS
      obtain ⟨ya, yb, yc⟩ := y
      have HYY := Go.Lib.hid hyy
      clear hyy
      dsimp only at c0 c1 c2 HE
      generalize hen : endA l k = en at HE ⊢
      have HEN := Go.Lib.hid hen
      clear hen
      skip
      by_cases h1 : ya = en
      · subst h1
        by_cases h2 : yb ≤ ya
        · have HX := Go.Lib.hid (chkA_at HKL.out HN.out (HE.out.trans (by rw [if_neg (by simp), if_pos h2])) (by decide : (6 : Int) ≠ 0))
          clear HE HS HYY HEN hcl
          go_wp2
          go_quiet (fail)
          have c0 : (wr.drewN nq).cell? ⟨g, o + k * 3, none⟩ = some (.int .i64 ya) := c0
          have c1 : (wr.drewN nq).cell? ⟨g, o + k * 3 + 1, none⟩ = some (.int .i64 yb) := c1
          have c2 : (wr.drewN nq).cell? ⟨g, o + k * 3 + 2, none⟩ = some (.int .i64 yc) := c2
          have HB := Go.Lib.hid (bdrew HB.out nq)
          generalize wr.drewN nq = wr at c0 c1 c2 HB ⊢
          go_wp2
          go_ret
          exact ⟨ret_intC HX.out.symm, HB.out⟩
        · by_cases h3 : 1048576 < yb
          · have HX := Go.Lib.hid (chkA_at HKL.out HN.out (HE.out.trans (by rw [if_neg (by simp), if_neg h2, if_pos h3])) (by decide : (2 : Int) ≠ 0))
            clear HE HS HYY HEN hcl
            go_wp2
            go_quiet (fail)
            have c0 : (wr.drewN nq).cell? ⟨g, o + k * 3, none⟩ = some (.int .i64 ya) := c0
            have c1 : (wr.drewN nq).cell? ⟨g, o + k * 3 + 1, none⟩ = some (.int .i64 yb) := c1
            have c2 : (wr.drewN nq).cell? ⟨g, o + k * 3 + 2, none⟩ = some (.int .i64 yc) := c2
            have HB := Go.Lib.hid (bdrew HB.out nq)
            generalize wr.drewN nq = wr at c0 c1 c2 HB ⊢
            go_wp2
            go_ret
            exact ⟨ret_intC HX.out.symm, HB.out⟩
          · cases k with
            | zero =>
              have HX := Go.Lib.hid (HE.out.trans (by rw [if_neg (by simp), if_neg h2, if_neg h3]; rfl : _ = (0 : Int)))
              clear HE hcl
              simp only [Nat.zero_mul, Nat.add_zero] at c0 c1 c2
              go_wp2
              go_quiet (fail)
              have c0 : (wr.drewN nq).cell? ⟨g, o, none⟩ = some (.int .i64 ya) := c0
              have c1 : (wr.drewN nq).cell? ⟨g, o + 1, none⟩ = some (.int .i64 yb) := c1
              have c2 : (wr.drewN nq).cell? ⟨g, o + 2, none⟩ = some (.int .i64 yc) := c2
              have HB := Go.Lib.hid (bdrew HB.out nq)
              generalize wr.drewN nq = wr at c0 c1 c2 HB ⊢
              go_wp2
              go_quiet (fail)
              have c0 : (wr.drewN nq).cell? ⟨g, o, none⟩ = some (.int .i64 ya) := c0
              have c1 : (wr.drewN nq).cell? ⟨g, o + 1, none⟩ = some (.int .i64 yb) := c1
              have c2 : (wr.drewN nq).cell? ⟨g, o + 2, none⟩ = some (.int .i64 yc) := c2
              have HB := Go.Lib.hid (bdrew HB.out nq)
              generalize wr.drewN nq = wr at c0 c1 c2 HB ⊢
              go_wp2
              go_roundw
              case rel => exact ⟨0 + 1, by omega, by go_num, by rw [HS.out _ _ _ rfl], HB, Go.Lib.hid (fun j' hj' => if e : j' = 0 then by rw [e]; exact HX.out else HN.out j' (by omega))⟩
              case measure => simp [RowKit.intOf]; omega
            | succ j =>
              obtain ⟨_, _, u2⟩ := hcl j (by have := HKL.out; omega)
              have hj := elA_get (l := l) (k := j) (by have := HKL.out; omega)
              have d2 := (HB.out.cell (p := ⟨g, o + j * 3 + 2, none⟩) hg).trans u2
              rw [← hj] at d2
              have HSM : Hid (sameA l (j + 1) = (yc == (elA l j).2.2)) := Go.Lib.hid (by show ((elA l (j + 1)).2.2 == (elA l j).2.2) = _; rw [HYY.out])
              clear hj u2 hcl
              generalize (elA l j).2.2 = x at d2 HSM
              have q2 : (0 : Int) ≤ (j : Int) := by omega
              have q3 : (j : Int) < (n : Int) := by omega
              have q4 : (0 : Int) < (j : Int) + 1 := by omega
              have q5 : IntKind.i64.wrap (j : Int) = j := IntWalk.i64_in _ (by omega)
              skip
              by_cases h4 : yc = x
              · have h4b : (yc == x) = true := by simpa using h4
                have HX := Go.Lib.hid (chkA_at HKL.out HN.out (HE.out.trans (by rw [if_neg (by simp), if_neg h2, if_neg h3, if_pos (by rw [HSM.out]; exact h4b)])) (by decide : (15 : Int) ≠ 0))
                clear HE HS HYY HEN HSM h4
                go_wp2
                go_quiet (fail)
                have c0 : (wr.drewN nq).cell? ⟨g, o + (j + 1) * 3, none⟩ = some (.int .i64 ya) := c0
                have c1 : (wr.drewN nq).cell? ⟨g, o + (j + 1) * 3 + 1, none⟩ = some (.int .i64 yb) := c1
                have c2 : (wr.drewN nq).cell? ⟨g, o + (j + 1) * 3 + 2, none⟩ = some (.int .i64 yc) := c2
                have HB := Go.Lib.hid (bdrew HB.out nq)
                have d2 : (wr.drewN nq).cell? ⟨g, o + j * 3 + 2, none⟩ = some (.int .i64 x) := d2
                generalize wr.drewN nq = wr at c0 c1 c2 HB d2 ⊢
                go_wp2
                go_quiet (fail)
                have c0 : (wr.drewN nq).cell? ⟨g, o + (j + 1) * 3, none⟩ = some (.int .i64 ya) := c0
                have c1 : (wr.drewN nq).cell? ⟨g, o + (j + 1) * 3 + 1, none⟩ = some (.int .i64 yb) := c1
                have c2 : (wr.drewN nq).cell? ⟨g, o + (j + 1) * 3 + 2, none⟩ = some (.int .i64 yc) := c2
                have HB := Go.Lib.hid (bdrew HB.out nq)
                have d2 : (wr.drewN nq).cell? ⟨g, o + j * 3 + 2, none⟩ = some (.int .i64 x) := d2
                generalize wr.drewN nq = wr at c0 c1 c2 HB d2 ⊢
                go_wp2
                go_ret
                exact ⟨ret_intC HX.out.symm, HB.out⟩
              · have h4b : (yc == x) = false := by simpa using h4
                have HX := Go.Lib.hid (HE.out.trans (by rw [if_neg (by simp), if_neg h2, if_neg h3, if_neg (by rw [HSM.out, h4b]; decide)] : _ = (0 : Int)))
                clear HE HSM h4
                go_wp2
                go_quiet (fail)
                have c0 : (wr.drewN nq).cell? ⟨g, o + (j + 1) * 3, none⟩ = some (.int .i64 ya) := c0
                have c1 : (wr.drewN nq).cell? ⟨g, o + (j + 1) * 3 + 1, none⟩ = some (.int .i64 yb) := c1
                have c2 : (wr.drewN nq).cell? ⟨g, o + (j + 1) * 3 + 2, none⟩ = some (.int .i64 yc) := c2
                have HB := Go.Lib.hid (bdrew HB.out nq)
                have d2 : (wr.drewN nq).cell? ⟨g, o + j * 3 + 2, none⟩ = some (.int .i64 x) := d2
                generalize wr.drewN nq = wr at c0 c1 c2 HB d2 ⊢
                go_wp2
                go_quiet (fail)
                have c0 : (wr.drewN nq).cell? ⟨g, o + (j + 1) * 3, none⟩ = some (.int .i64 ya) := c0
                have c1 : (wr.drewN nq).cell? ⟨g, o + (j + 1) * 3 + 1, none⟩ = some (.int .i64 yb) := c1
                have c2 : (wr.drewN nq).cell? ⟨g, o + (j + 1) * 3 + 2, none⟩ = some (.int .i64 yc) := c2
                have HB := Go.Lib.hid (bdrew HB.out nq)
                have d2 : (wr.drewN nq).cell? ⟨g, o + j * 3 + 2, none⟩ = some (.int .i64 x) := d2
                generalize wr.drewN nq = wr at c0 c1 c2 HB d2 ⊢
                go_wp2
                go_roundw
                case rel => exact ⟨(j + 1) + 1, by omega, by go_num, by rw [HS.out _ _ _ rfl], HB, Go.Lib.hid (fun j' hj' => if e : j' = (j + 1) then by rw [e]; exact HX.out else HN.out j' (by omega))⟩
                case measure => simp [RowKit.intOf]; omega
      · have HX := Go.Lib.hid (chkA_at HKL.out HN.out (HE.out.trans (by rw [if_pos h1])) (by decide : (6 : Int) ≠ 0))
        have h1b : (ya == en) = false := by simpa using h1
        have h1c : (ya != en) = true := by simpa using h1
        clear HE HS HYY HEN hcl h1
        go_wp2
        go_quiet (fail)
        have c0 : (wr.drewN nq).cell? ⟨g, o + k * 3, none⟩ = some (.int .i64 ya) := c0
        have c1 : (wr.drewN nq).cell? ⟨g, o + k * 3 + 1, none⟩ = some (.int .i64 yb) := c1
        have c2 : (wr.drewN nq).cell? ⟨g, o + k * 3 + 2, none⟩ = some (.int .i64 yc) := c2
        have HB := Go.Lib.hid (bdrew HB.out nq)
        generalize wr.drewN nq = wr at c0 c1 c2 HB ⊢
        go_wp2
        go_ret
        exact ⟨ret_intC HX.out.symm, HB.out⟩
    · obtain rfl : n = k := by omega
      have HX := Go.Lib.hid (chkA_none (l := l) (fun j hj => HN.out j (by rw [HL.out] at hj; exact hj)))
      go_wp2
      go_ret
      exact ⟨ret_intC HX.out.symm, HB.out⟩
end Go.Proofs.Ytioehncdkdfcmaa
