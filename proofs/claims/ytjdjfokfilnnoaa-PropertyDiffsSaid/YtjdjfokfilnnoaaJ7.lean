/- Layer 7: ordered, walked. -/
import Derived.Test.YtjdjfokfilnnoaaJ6
import Derived.IntWalk
namespace Go.Proofs.Ytjdjfokfilnnoaa
open Go.RowKit Go.Lib

set_option maxRecDepth 100000 in
set_option maxHeartbeats 8000000 in
theorem ordered_any (A : Option Addr) (len c : Nat) (l : List Pr) (hl : l.length = len) (hc : len ≤ c ∧ c ≤ maxLen) (w : World) (hA : PrAt w A l) :
    Calls Try.prog 29 #[.slice A len c] w (PRet (ordP l) w) := by
  obtain ⟨i0, hi, hz0, hz1, hz2⟩ := info_parts info57
  have HA := Go.Lib.hid hA
  have HL := Go.Lib.hid hl
  obtain ⟨hc1, hc2⟩ := hc
  unfold maxLen at hc2
  clear hA hl
  go_enter Try.func29, Try.ntmps29
  go_wp2
  go_loopw [3, 4] (fun v i wr => ∃ (k n : Nat) (B : Option Addr) (cb : Nat) (o : List Pr), k ≤ len ∧ i = .int .i64 k ∧ v = .slice B n cb ∧ n ≤ 60 ∧ wr.ownsRow w.heap.size 57 2 (.slice B n cb) n (rowP o) ∧ Below w.heap.size w wr ∧ Hid (o.length = n) ∧ Hid (o = ordP (l.take k))) (fun _ i _ => len - (intOf i).toNat)
  case atStart => exact ⟨0, 0, none, 0, [], Nat.zero_le _, rfl, rfl, by omega, World.ownsRow_nil _ _ _ _, Below.refl _ _, Go.Lib.hid rfl, Go.Lib.hid rfl⟩
  case round =>
    obtain ⟨k, n, B, cb, o, hk, rfl, rfl, hn, hown, hbw, HN, HO⟩ := hrel
    have hw0 := hbw.size
    by_cases hlt : k < len
    · by_cases h60 : n < 60
      · have hkl : k < l.length := by rw [HL.out]; exact hlt
        rcases HA.out with hA0 | ⟨g, o', rfl, hg, hcl⟩
        · rw [hA0] at hkl; exact absurd hkl (Nat.not_lt_zero _)
        obtain ⟨h0, h1⟩ := hcl k hkl
        have c0 := (hbw.cell (p := ⟨g, o' + k * 2, none⟩) hg).trans h0
        have c1 := (hbw.cell (p := ⟨g, o' + k * 2 + 1, none⟩) hg).trans h1
        have HS := Go.Lib.hid (ordP_snoc l k hkl)
        clear h0 h1 hcl
        generalize hy : l[k] = y at c0 c1 HS
        clear hy
        obtain ⟨ya, yb⟩ := y
        dsimp only at c0 c1
        cases n with
        | zero =>
          have ho : o = [] := List.eq_nil_of_length_eq_zero HN.out
          subst ho
          go_wp2
          go_quiet (fail)
          have hownq : (wr.drewN nq).ownsRow w.heap.size 57 2 (.slice B 0 cb) 0 (rowP []) := hown
          have hbq : Below w.heap.size w (wr.drewN nq) := bdrew hbw nq
          have c0q : (wr.drewN nq).cell? ⟨g, o' + k * 2, none⟩ = some (.int .i64 ya) := c0
          have c1q : (wr.drewN nq).cell? ⟨g, o' + k * 2 + 1, none⟩ = some (.int .i64 yb) := c1
          clear hown hbw c0 c1 hw0
          generalize wr.drewN nq = wq at hownq hbq c0q c1q ⊢
          have hw0 := hbq.size
          go_wp2_with (at_builtin; refine wpList_append_own _ rfl _ _ 43 rfl w.heap.size 57 i0 (.agg #[.int .i64 0, .int .i64 0]) 2 16 Try.underlying43 hi hz0 hz1 hz2 rfl (by decide) _ _ _ rfl (hownq.alloc _) ⟨wq.heap.size, 0, none⟩ 1 1 [.int .i64 ya, .int .i64 yb] rfl rfl (cell_new2 _ _ _ _) (by intro u hu; simp at hu; rcases hu with rfl | rfl <;> rfl) (by unfold maxLen; omega) (by omega) (by simp; omega) ?_; intro v1 w1 hown1 hgrow1 _; obtain ⟨g1, cap1, rfl⟩ := ownsRow_succ hown1)
          go_roundw
          case rel =>
            exact ⟨k + 1, 1, some ⟨g1, 0, none⟩, cap1, [(ya, yb)], by omega, by go_num, rfl, by omega, hown1, (hbq.alloc hw0 _).grown hgrow1 (by simp; omega) (fun j e => (hownq.lt j e).1), Go.Lib.hid rfl, Go.Lib.hid (by rw [HS.out, ← HO.out]; rfl)⟩
          case measure => simp [intOf]; omega
        | succ n =>
          obtain ⟨gb, hB⟩ : ∃ gb, B = some ⟨gb, 0, none⟩ := by
            obtain ⟨g', cap', hv⟩ := ownsRow_succ hown
            exact ⟨g', by injection hv⟩
          subst hB
          have hno : n < o.length := by rw [HN.out]; omega
          obtain ⟨e1, e2⟩ := rowP_get o n hno
          have d0 := (hown.cellAt (n * 2) (by omega)).trans e1
          have K1 := Go.Lib.hid (ordStep_yes o (ya, yb) n HN.out h60)
          have K2 := Go.Lib.hid (ordStep_keep o (ya, yb) n HN.out h60)
          clear e1 e2
          generalize o[n] = z at d0 K1 K2
          obtain ⟨za, zb⟩ := z
          dsimp only at d0 K1 K2
          by_cases hz : za < ya
          · go_wp2
            have q1 : (0 : Int) ≤ (n : Int) := by omega
            have q2 : (n : Int) < (n : Int) + 1 := by omega
            have q3 : ((n : Int) + 1 == 0) = false := by rw [beq_eq_false_iff_ne]; omega
            have q4 : IntKind.i64.wrap (n : Int) = n := IntWalk.i64_in _ (by omega)
            go_quiet (fail)
            clear q1 q2 q3 q4
            have hownq : (wr.drewN nq).ownsRow w.heap.size 57 2 (.slice (some ⟨gb, 0, none⟩) (n + 1) cb) (n + 1) (rowP o) := hown
            have hbq : Below w.heap.size w (wr.drewN nq) := bdrew hbw nq
            have c0q : (wr.drewN nq).cell? ⟨g, o' + k * 2, none⟩ = some (.int .i64 ya) := c0
            have c1q : (wr.drewN nq).cell? ⟨g, o' + k * 2 + 1, none⟩ = some (.int .i64 yb) := c1
            clear hown hbw c0 c1 hw0
            generalize wr.drewN nq = wq at hownq hbq c0q c1q ⊢
            have hw0 := hbq.size
            go_wp2_with (at_builtin; refine wpList_append_own _ rfl _ _ 43 rfl w.heap.size 57 i0 (.agg #[.int .i64 0, .int .i64 0]) 2 16 Try.underlying43 hi hz0 hz1 hz2 rfl (by decide) _ _ _ rfl (hownq.alloc _) ⟨wq.heap.size, 0, none⟩ 1 1 [.int .i64 ya, .int .i64 yb] rfl rfl (cell_new2 _ _ _ _) (by intro u hu; simp at hu; rcases hu with rfl | rfl <;> rfl) (by unfold maxLen; omega) (by omega) (by simp; omega) ?_; intro v1 w1 hown1 hgrow1 _; obtain ⟨g1, cap1, rfl⟩ := ownsRow_succ hown1)
            go_roundw
            case rel =>
              exact ⟨k + 1, n + 1 + 1, some ⟨g1, 0, none⟩, cap1, o ++ [(ya, yb)], by omega, by go_num, rfl, by omega, by rw [rowP_snoc]; exact hown1, (hbq.alloc hw0 _).grown hgrow1 (by simp; omega) (fun j e => (hownq.lt j e).1), Go.Lib.hid (by rw [List.length_append, HN.out]; rfl), Go.Lib.hid (by rw [HS.out, ← HO.out]; exact (K1.out hz).symm)⟩
            case measure => simp [intOf]; omega
          · go_wp2
            have q1 : (0 : Int) ≤ (n : Int) := by omega
            have q2 : (n : Int) < (n : Int) + 1 := by omega
            have q3 : ((n : Int) + 1 == 0) = false := by rw [beq_eq_false_iff_ne]; omega
            have q4 : IntKind.i64.wrap (n : Int) = n := IntWalk.i64_in _ (by omega)
            go_quiet (fail)
            clear q1 q2 q3 q4
            have hownq : (wr.drewN nq).ownsRow w.heap.size 57 2 (.slice (some ⟨gb, 0, none⟩) (n + 1) cb) (n + 1) (rowP o) := hown
            have hbq : Below w.heap.size w (wr.drewN nq) := bdrew hbw nq
            have c0q : (wr.drewN nq).cell? ⟨g, o' + k * 2, none⟩ = some (.int .i64 ya) := c0
            have c1q : (wr.drewN nq).cell? ⟨g, o' + k * 2 + 1, none⟩ = some (.int .i64 yb) := c1
            clear hown hbw c0 c1 hw0
            generalize wr.drewN nq = wq at hownq hbq c0q c1q ⊢
            have hw0 := hbq.size
            go_wp2
            go_roundw
            case rel =>
              exact ⟨k + 1, n + 1, some ⟨gb, 0, none⟩, cb, o, by omega, by go_num, rfl, by omega, hownq, hbq, HN, Go.Lib.hid (by rw [HS.out, ← HO.out]; exact (K2.out hz).symm)⟩
            case measure => simp [intOf]; omega
      · obtain rfl : n = 60 := by omega
        go_wp2
        go_ret
        exact ⟨_, rfl, PVal.own hown (by rw [HN.out]) |> (fun h => by rw [ordP_full l k (by rw [← HO.out, HN.out]; exact Nat.le_refl _), ← HO.out]; exact h), hbw⟩
    · obtain rfl : k = len := by omega
      go_wp2
      go_ret
      exact ⟨_, rfl, by
        have e : o = ordP l := by rw [HO.out, ← HL.out, List.take_length]
        rw [← e]; exact PVal.own hown HN.out, hbw⟩
end Go.Proofs.Ytjdjfokfilnnoaa
