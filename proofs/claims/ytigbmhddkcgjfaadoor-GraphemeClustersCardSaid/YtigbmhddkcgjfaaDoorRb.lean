import Derived.Test.YtigbmhddkcgjfaaDoorRa
namespace Go.Proofs.YtigbmhddkcgjfaaDoor
open Go.RowKit Go.Shelf
open Gc

/-- Ints in a block. -/
def Cs (w : World) (g : Nat) (cs : List Int) : Prop := g < w.heap.size ∧ ∀ k (h : k < cs.length), w.cell? ⟨g, k, none⟩ = some (.int .i64 cs[k])
theorem Cs.below {w w' : World} {g : Nat} {cs : List Int} (h : Cs w g cs) {n : Nat} (hb : Below n w w') (hn : g < n) : Cs w' g cs :=
  ⟨Nat.lt_of_lt_of_le h.1 hb.size, fun k hk => (hb.cell (p := ⟨g, k, none⟩) hn).trans (h.2 k hk)⟩
/-- The classes before k, the nearest first. -/
def rv (cs : List Int) (k : Nat) : List Int := (cs.take k).reverse
theorem rv_succ (cs : List Int) (k : Nat) (h : k < cs.length) : rv cs (k + 1) = cs[k] :: rv cs k := by
  unfold rv
  rw [List.take_succ_eq_append_getElem h, List.reverse_append]; rfl
theorem rv_zero (cs : List Int) : rv cs 0 = [] := rfl

set_option maxRecDepth 100000 in
set_option maxHeartbeats 2000000 in
theorem joined_any (cs : List Int) (g cap n at' : Nat) (hn : cs.length = n) (hl : n ≤ 100000) (h1 : 0 < at') (h2 : at' ≤ n) (w : World) (hC : Cs w g cs) :
    Calls Tryd.prog 52 #[.slice (some ⟨g, 0, none⟩) n cap, .int .i64 (at' : Nat)] w fun e w' => e = .returned (.bool (joins (rv cs at'))) ∧ w = w' := by
  obtain ⟨a, rfl⟩ : ∃ a, at' = a + 1 := ⟨at' - 1, by omega⟩
  have ha : a < cs.length := by omega
  have hca := hC.2 a ha
  have hj : joins (rv cs (a + 1)) = (decide (cs[a] = 5) && pic (rv cs a)) := by rw [rv_succ cs a ha]; rfl
  rw [hj]
  clear hj
  generalize hx : cs[a] = x at hca ⊢
  clear hx
  generalize hK : (decide (x = 5) && pic (rv cs a)) = K
  have HK := Go.Lib.hid hK
  clear hK
  have HC := Go.Lib.hid hC
  clear hC
  have N := Go.Lib.hid hn
  clear hn
  go_enter Tryd.func52, Tryd.ntmps52
  go_wp2
  go_loop [5] (fun i => ∃ m : Nat, m ≤ a ∧ ((m = 0 ∧ i = .int .i64 (-1)) ∨ ∃ k, m = k + 1 ∧ i = .int .i64 (k : Nat)) ∧ Hid (pic (rv cs a) = pic (rv cs m))) (fun i => (intOf i + 1).toNat)
  case atStart =>
    refine ⟨a, Nat.le_refl _, ?_, Go.Lib.hid rfl⟩
    cases a with
    | zero => exact .inl ⟨rfl, rfl⟩
    | succ k => exact .inr ⟨k, rfl, by go_num⟩
  case round =>
    obtain ⟨m, hm, hi, HP⟩ := hrel
    rcases hi with ⟨rfl, rfl⟩ | ⟨k, rfl, rfl⟩
    · have hk0 : K = false := by rw [← HK.out, HP.out]; simp [rv_zero, pic]
      subst hk0
      go_wp2
      all_goals
        go_ret
        exact ⟨rfl, rfl⟩
    · have hk : k < cs.length := by omega
      have hck := HC.out.2 k hk
      have hp := rv_succ cs k hk
      generalize cs[k] = y at hck hp
      have hpp : pic (rv cs a) = (decide (y = 14) || decide (y = 4) && pic (rv cs k)) := by rw [HP.out, hp]; rfl
      have H2 := Go.Lib.hid hpp
      clear hpp hp
      by_cases hy : y = 4
      · subst hy
        go_wp2
        go_round
        case rel =>
          refine ⟨k, by omega, ?_, Go.Lib.hid (by rw [H2.out]; simp)⟩
          cases k with
          | zero => exact .inl ⟨rfl, rfl⟩
          | succ k => exact .inr ⟨k, rfl, by go_num⟩
        case measure => simp [intOf]
      · have b4 : (y == 4) = false := by simp [hy]
        have hk : K = (decide (x = 5) && decide (y = 14)) := by rw [← HK.out, H2.out]; simp [hy]
        have HK2 := Go.Lib.hid hk
        clear hk
        go_wp2
        all_goals
          go_ret
          refine ⟨ret_bool ?_, rfl⟩
          rw [HK2.out]
          first | (simp_all; done) | (simp_all; rfl)
end Go.Proofs.YtigbmhddkcgjfaaDoor
