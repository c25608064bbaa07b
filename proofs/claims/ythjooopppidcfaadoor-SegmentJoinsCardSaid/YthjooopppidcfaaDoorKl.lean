/- Layer 3: placeBefore. -/
import Derived.Test.YthjooopppidcfaaDoorMO
import Derived.StillTailTactics
namespace Go.Proofs.YthjooopppidcfaaDoor
open Go.RowKit
open Gc (Span)

theorem bdrew1 {B : Nat} {a w : World} (h : Below B a w) : Below B a w.drew := ⟨h.os, h.tape, h.output, h.size, h.block⟩
set_option maxRecDepth 100000 in
set_option maxHeartbeats 4000000 in
theorem place_any (C : List Span) (g cap pn pc : Nat) (pa : Option Addr) (i : Nat) (w : World) (h0 : 0 < i) (hi : i < C.length) (hl : C.length ≤ 1000) (R : Row w g C) :
    Calls Tryd.prog 52 #[.agg #[.slice pa pn pc, .slice (some ⟨g, 0, none⟩) C.length cap], .int .i64 i] w fun en w' =>
      en = .returned (.agg #[.int .i64 (if 2 ≤ i then Sg.cat (Cls C) (i - 2) else -1), .int .i64 (Sg.cat (Cls C) (i - 1)), .int .i64 (Sg.cat (Cls C) i)]) ∧ Below w.heap.size w w' := by
  have hg := R.1
  obtain ⟨i, rfl⟩ : ∃ j, i = j + 1 := ⟨i - 1, by omega⟩
  rw [Nat.add_sub_cancel]
  have cb := (R.2 (i + 1) hi).1
  have ca := (R.2 i (by omega)).1
  rw [cat_at C (i + 1) hi, cat_at C i (by omega)]
  generalize C[i + 1].1 = b at cb ⊢
  generalize C[i].1 = a at ca ⊢
  by_cases h2 : 1 ≤ i
  · rw [if_pos (by omega)]
    obtain ⟨j, rfl⟩ : ∃ j, i = j + 1 := ⟨i - 1, by omega⟩
    have ce := (R.2 j (by omega)).1
    rw [show j + 1 + 1 - 2 = j by omega, cat_at C j (by omega)]
    generalize C[j].1 = e at ce ⊢
    obtain ⟨n, hn⟩ : ∃ n, C.length = n := ⟨_, rfl⟩
    rw [hn] at hi hl ⊢
    clear hn R h0 h2
    have hj1 : j + 1 < n := by omega
    have hj0 : j < n := by omega
    have hs : IntKind.i64.wrap ((j : Int) + 1) = (j : Int) + 1 := IntWalk.i64_in _ (by omega)
    have hp : (0 : Int) ≤ (j : Int) + 1 := by omega
    have hq : (j : Int) + 1 < (n : Int) := by omega
    have hr : ((j : Int) + 1).toNat = j + 1 := by omega
    have hp2 : (0 : Int) ≤ (j : Int) + 1 + 1 := by omega
    have hq2 : (j : Int) + 1 + 1 < (n : Int) := by omega
    have hr2 : ((j : Int) + 1 + 1).toNat = j + 1 + 1 := by omega
    have HS := Go.Lib.hid hs
    clear hs
    go_enter Tryd.func52, Tryd.ntmps52
    go_wp2
    have hs := HS.out
    refine wp_region_still_tail 15 (by kernel_rfl) (by kernel_rfl) ?_
    simp only [List.take_succ_cons, List.take_zero, List.drop_succ_cons, List.drop_zero]
    change wpStill _ _ (World.drew _) _ _ _
    repeat still_step
    refine wpStill_nil ?_
    change wpList _ _ _ _ _ (World.drew _)
    clear hs
    go_wp2
    exact bodyPost_ret (v := .agg #[.int .i64 e, .int .i64 a, .int .i64 b]) (by simp [results, Tryd.results52, go_sem]) rfl ⟨rfl, bdrew1 (((Below.refl _ w).alloc (Nat.le_refl _) _).alloc (by simp) _)⟩
  · obtain rfl : i = 0 := by omega
    rw [if_neg (by decide)]
    obtain ⟨n, hn⟩ : ∃ n, C.length = n := ⟨_, rfl⟩
    rw [hn] at hi hl ⊢
    clear hn R h0 h2
    have hn1 : 1 < n := by omega
    have hn0 : 0 < n := by omega
    have hm1 : (1 : Int) < (n : Int) := by omega
    have hm0 : (0 : Int) < (n : Int) := by omega
    have ca' : w.cell? ⟨g, 0, none⟩ = some (.int .i64 a) := ca
    have cb' : w.cell? ⟨g, 3, none⟩ = some (.int .i64 b) := cb
    clear ca cb hi
    go_enter Tryd.func52, Tryd.ntmps52
    go_wp2
    have hw0 : IntKind.i64.wrap 0 = 0 := by decide
    refine wp_region_still_tail 15 (by kernel_rfl) (by kernel_rfl) ?_
    simp only [List.take_succ_cons, List.take_zero, List.drop_succ_cons, List.drop_zero]
    change wpStill _ _ (World.drew _) _ _ _
    repeat still_step
    refine wpStill_nil ?_
    change wpList _ _ _ _ _ (World.drew _)
    go_wp2
    exact bodyPost_ret (v := .agg #[.int .i64 (-1), .int .i64 a, .int .i64 b]) (by simp [results, Tryd.results52, go_sem]) rfl ⟨rfl, bdrew1 (((Below.refl _ w).alloc (Nat.le_refl _) _).alloc (by simp) _)⟩
end Go.Proofs.YthjooopppidcfaaDoor
