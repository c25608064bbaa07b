/- Layer 4: the reference's Lines (25). -/
import Derived.Test.YtonplacldckbgaaMS
import Derived.OwnWalk
import Derived.Maps.AppendAt
import Derived.Laws.OwnMore
namespace Go.Proofs.Ytonplacldckbgaa
open Go.RowKit Go.Shelf Go.Lib Pt

theorem info3 : (Try.prog.info? 3).map (fun i => (i.zero, i.size, i.bytes)) = some (some (.int .i64 0), 1, 8) := by kernel_rfl
def natsV (l : List Nat) : List Value := l.map fun n => Value.int .i64 (n : Nat)
/-- Where the lines of the first bytes begin. -/
def stN (b : List UInt8) (k : Nat) : List Nat := 0 :: (posL (b.take k) 0).map (· + 1)
theorem stN_next {b : List UInt8} {k : Nat} (hk : k < b.length) : stN b (k + 1) = stN b k ++ (if b[k] = 10 then [k + 1] else []) := by
  unfold stN
  rw [List.take_succ_eq_append_getElem hk, posL_append, List.length_take, show min k b.length = k by omega, Nat.zero_add]
  simp only [posL]
  split <;> simp
theorem stN_len {b : List UInt8} (k : Nat) : (stN b k).length ≤ k + 1 := by
  unfold stN
  rw [List.length_cons, List.length_map, posL_len]
  have : lf (b.take k) ≤ (b.take k).length := List.count_le_length
  rw [List.length_take] at this
  omega
/-- A list of numbers that a call hands back. -/
def NatsR (l : List Nat) (w : World) (e : Ending) (w' : World) : Prop := ∃ v, e = .returned v ∧ w'.ownsRow w.heap.size 3 1 v l.length (natsV l) ∧ Below w.heap.size w w'
set_option maxRecDepth 100000 in
set_option maxHeartbeats 8000000 in
theorem rlines_any (b : List UInt8) (w : World) (hb : b.length ≤ 200000) : Calls Try.prog 25 #[.string (bs b)] w (NatsR (0 :: (posL b 0).map (· + 1)) w) := by
  obtain ⟨i0, hi, hz0, hz1, hz2⟩ := info_parts info3
  have hz := bs_size b
  have hF := Go.Lib.hid (show (0 :: (posL b 0).map (· + 1)) = stN b b.length by unfold stN; rw [List.take_length])
  rw [hF.out]
  have HO0 : Hid ((w.alloc (.cells #[.int .i64 0] 3)).ownsRow w.heap.size 3 1 (.slice (some ⟨w.heap.size, 0, none⟩) 1 1) (stN b 0).length (natsV (stN b 0))) := Go.Lib.hid ⟨rfl, .inr ⟨w.heap.size, 1, #[.int .i64 0], rfl, Nat.le_refl _, World.alloc_heap_new _ _, Nat.le_refl _, by decide, rfl, by simp [stN, natsV, posL]⟩⟩
  have HB0 : Hid (Below w.heap.size w (w.alloc (.cells #[.int .i64 0] 3))) := Go.Lib.hid ((Below.refl _ w).alloc (Nat.le_refl _) _)
  go_enter Try.func25, Try.ntmps25
  go_wp2
  go_loopw [3, 4] (fun o i wr => ∃ (k : Nat) (B : Option Addr) (n cb : Nat), k ≤ b.length ∧ i = .int .i64 k ∧ o = .slice B n cb ∧ n = (stN b k).length ∧ Hid (wr.ownsRow w.heap.size 3 1 (.slice B n cb) n (natsV (stN b k))) ∧ Hid (Below w.heap.size w wr)) (fun _ i _ => b.length - (RowKit.intOf i).toNat)
  case atStart => exact ⟨0, _, 1, 1, Nat.zero_le _, rfl, rfl, rfl, HO0, HB0⟩
  case round =>
    clear HO0 HB0
    obtain ⟨k, B, n, cb, hk, rfl, rfl, hn, HO, HB⟩ := hrel
    have hbs := HB.out.size
    have hnk : n ≤ k + 1 := by rw [hn]; exact stN_len k
    have HN := Go.Lib.hid hn
    clear hn
    by_cases hlt : k < b.length
    · have hnx := stN_next hlt
      have q1 : (0 : Int) ≤ (k : Int) := by omega
      have q2 : (k : Int) < (b.length : Int) := by omega
      have hby : (bs b)[k]'(by rw [show (bs b).size = b.length from bs_size b]; exact hlt) = b[k] := rfl
      by_cases h10 : b[k] = 10
      · have hT : ((b[k].toNat : Nat) : Int) = 10 := by rw [h10]; rfl
        rw [if_pos h10] at hnx
        have HX := Go.Lib.hid hnx
        clear hnx h10
        go_wp2_with (at_builtin; refine wpList_append_own _ rfl _ _ 47 rfl w.heap.size 3 i0 (.int .i64 0) 1 8 Try.underlying47 hi hz0 hz1 hz2 rfl (by decide) _ _ _ rfl (HO.out.alloc _) ⟨wr.heap.size, 0, none⟩ 1 1 [.int .i64 ((k : Int) + 1)] rfl rfl (cell_one_new _ _ _) (by intro u hu; simp at hu; subst hu; rfl) (by unfold maxLen; omega) (by omega) (by simp; omega) ?_; intro v1 w1 hown1 hgrow1 _; obtain ⟨g1, cap1, rfl⟩ := ownsRow_succ hown1)
        go_roundw
        case rel =>
          refine ⟨k + 1, some ⟨g1, 0, none⟩, n + 1, cap1, by omega, by go_num, rfl, by rw [HX.out, List.length_append, ← HN.out]; rfl, Go.Lib.hid ?_, Go.Lib.hid ((HB.out.alloc hbs _).grown hgrow1 (by simp; omega) (fun j e => (HO.out.lt j e).1))⟩
          rw [HX.out]
          unfold natsV at hown1 ⊢
          rw [List.map_append]
          exact hown1
        case measure => simp [RowKit.intOf]; omega
      · have hT : ¬ ((b[k].toNat : Nat) : Int) = 10 := by
          intro e
          apply h10
          apply UInt8.toNat_inj.1
          show b[k].toNat = 10
          omega
        rw [if_neg h10, List.append_nil] at hnx
        have HX := Go.Lib.hid hnx
        clear hnx h10
        go_wp2
        go_roundw
        case rel => exact ⟨k + 1, B, n, cb, by omega, by go_num, rfl, by rw [HX.out]; exact HN.out, by rw [HX.out]; exact HO, HB⟩
        case measure => simp [RowKit.intOf]; omega
    · obtain rfl : k = b.length := by omega
      go_wp2
      go_ret
      exact ⟨_, rfl, by rw [← HN.out]; exact HO.out, HB.out⟩
end Go.Proofs.Ytonplacldckbgaa
