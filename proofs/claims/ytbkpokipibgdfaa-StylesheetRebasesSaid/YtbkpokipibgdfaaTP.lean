/- Layer 8: the reference's Merge (36). -/
import Derived.Test.YtbkpokipibgdfaaTO
import Derived.Test.YtbkpokipibgdfaaNE
import Derived.Test.YtbkpokipibgdfaaND
namespace Go.Proofs.Ytbkpokipibgdfaa
open Go.RowKit Go.Lib
set_option linter.unusedVariables false

/-- A list of properties that a call hands back. -/
def PrsR (o : List Pr) (w : World) (e : Ending) (w' : World) : Prop := ∃ B n cb, o.length = n ∧ e = .returned (.slice B n cb) ∧ w'.ownsRow w.heap.size 55 2 (.slice B n cb) n (rowP o) ∧ Below w.heap.size w w'
set_option maxRecDepth 100000 in
set_option maxHeartbeats 8000000 in
theorem rmergeT_any (la lb : List Pr) (na nb : Nat) (hna : la.length = na) (hnb : lb.length = nb) (A B0 : Option Addr) (ca cb0 : Nat) (hca : na ≤ ca ∧ ca ≤ maxLen) (hcb : nb ≤ cb0 ∧ cb0 ≤ maxLen) (w : World) (hA : PrAt w A la) (hB : PrAt w B0 lb) :
    Calls Try.prog 36 #[.slice A na ca, .slice B0 nb cb0] w (PrsR (rmgT la lb tabP) w) := by
  obtain ⟨i0, hi9, hz0, hz1, hz2⟩ := info_parts info57
  have CA := Go.Lib.hid (fun p w' (hb : Below w.heap.size w w') => rget_any A na ca la hna hca p w' (hA.below hb (Nat.le_refl _)))
  have CB := Go.Lib.hid (fun p w' (hb : Below w.heap.size w w') => rget_any B0 nb cb0 lb hnb hcb p w' (hB.below hb (Nat.le_refl _)))
  have cT := refTable_gets w
  clear hA hB hna hnb hca hcb
  go_enter Try.func36, Try.ntmps36
  go_wp2_with fail
  (with_reducible refine cT.mono ?_)
  rintro e w1 ⟨g, rfl, hR, k1⟩
  have HR := Go.Lib.hid hR
  have K1 := Go.Lib.hid k1
  have s1 := k1.size
  clear hR cT k1
  go_wp2_with fail
  go_loopw [5, 7] (fun s5 s7 wr => ∃ (k : Nat) (B : Option Addr) (m cb : Nat), k ≤ 45 ∧ s7 = .int .i64 (k : Nat) ∧ s5 = .slice B m cb ∧ m ≤ k ∧ wr.ownsRow w1.heap.size 55 2 (.slice B m cb) m (rowP (rmgT la lb (tabP.take k))) ∧ Hid ((rmgT la lb (tabP.take k)).length = m) ∧ Hid (Below w1.heap.size w1 wr)) (fun _ s7 _ => 45 - (intOf s7).toNat)
  case atStart => exact ⟨0, none, 0, 0, Nat.zero_le _, rfl, rfl, Nat.le_refl _, World.ownsRow_nil _ _ _ _, Go.Lib.hid rfl, Go.Lib.hid (Below.refl _ _)⟩
  case round =>
    obtain ⟨k, B, m, cb, hk, rfl, rfl, hm, hown, HLE, HB1⟩ := hrel
    have HOW := Go.Lib.hid hown
    have HBW := Go.Lib.hid (K1.out.trans (HB1.out.mono s1))
    have hws := HBW.out.size
    have hw1s := HB1.out.size
    clear hown
    by_cases hlt : k < 45
    · have hkt : k < tabP.length := hlt
      have c0 := (HR.out.2 k hkt).1
      have z0 := (HB1.out.cell (p := ⟨g, k * 6, none⟩) HR.out.1).trans c0
      have HRM := Go.Lib.hid (rmg_take la lb k hkt)
      have f0 : (0 : Int) ≤ (k : Int) := by omega
      have f1 : (k : Int) < 45 := by omega
      unfold rmgF at HRM
      clear c0
      generalize (tabP[k]'hkt).1 = rk at z0 HRM
      clear hkt
      have cA := CA.out rk wr HBW.out
      have cB := CB.out rk wr HBW.out
      rw [look_getB, look_getV] at cA cB
      cases hb : look lb rk with
      | some v =>
        have HF := Go.Lib.hid (show rmgT la lb (tabP.take (k + 1)) = rmgT la lb (tabP.take k) ++ [(rk, v)] by rw [HRM.out, hb]; rfl)
        rw [hb] at cB
        dsimp only [Option.getD_some, Option.isSome_some] at cB
        clear hb cA
        go_wp2_with fail
        (with_reducible refine cB.mono ?_)
        rintro e w4 ⟨rfl, rfl⟩
        clear cB
        go_wp2_with (at_builtin; refine wpList_append_own _ rfl _ _ 26 rfl w1.heap.size 55 i0 (.agg #[.int .i64 0, .int .i64 0]) 2 16 Try.underlying26 hi9 hz0 hz1 hz2 rfl (by decide) _ _ _ rfl (HOW.out.alloc _) ⟨wr.heap.size, 0, none⟩ 1 1 [.int .i64 rk, .int .i64 v] rfl rfl (cell_new2 _ _ _ _) (by intro u hu; simp at hu; rcases hu with rfl | rfl <;> rfl) (by unfold maxLen; omega) (by omega) (by simp; omega) ?_; intro v1 w5 hown1 hgrow1 _; obtain ⟨g1, cap1, rfl⟩ := ownsRow_succ hown1)
        go_roundw
        case rel => exact ⟨k + 1, some ⟨g1, 0, none⟩, m + 1, cap1, by omega, by go_num, rfl, by omega, by rw [HF.out, rowP_snoc]; exact hown1, Go.Lib.hid (by rw [HF.out, List.length_append, HLE.out]; rfl), Go.Lib.hid ((HB1.out.alloc HB1.out.size _).grown hgrow1 (by have := HB1.out.size; simp; omega) (fun j e => (HOW.out.lt j e).1))⟩
        case measure => simp [intOf]; omega
      | none =>
        rw [hb] at cB
        dsimp only [Option.getD_none, Option.isSome_none] at cB
        cases ha : look la rk with
        | some v =>
          have HF := Go.Lib.hid (show rmgT la lb (tabP.take (k + 1)) = rmgT la lb (tabP.take k) ++ [(rk, v)] by rw [HRM.out, hb, ha]; rfl)
          rw [ha] at cA
          dsimp only [Option.getD_some, Option.isSome_some] at cA
          clear hb ha
          go_wp2_with fail
          (with_reducible refine cB.mono ?_)
          rintro e w4 ⟨rfl, rfl⟩
          go_wp2_with fail
          (with_reducible refine cA.mono ?_)
          rintro e w4 ⟨rfl, rfl⟩
          clear cA cB
          go_wp2_with (at_builtin; refine wpList_append_own _ rfl _ _ 26 rfl w1.heap.size 55 i0 (.agg #[.int .i64 0, .int .i64 0]) 2 16 Try.underlying26 hi9 hz0 hz1 hz2 rfl (by decide) _ _ _ rfl (HOW.out.alloc _) ⟨wr.heap.size, 0, none⟩ 1 1 [.int .i64 rk, .int .i64 v] rfl rfl (cell_new2 _ _ _ _) (by intro u hu; simp at hu; rcases hu with rfl | rfl <;> rfl) (by unfold maxLen; omega) (by omega) (by simp; omega) ?_; intro v1 w5 hown1 hgrow1 _; obtain ⟨g1, cap1, rfl⟩ := ownsRow_succ hown1)
          go_roundw
          case rel => exact ⟨k + 1, some ⟨g1, 0, none⟩, m + 1, cap1, by omega, by go_num, rfl, by omega, by rw [HF.out, rowP_snoc]; exact hown1, Go.Lib.hid (by rw [HF.out, List.length_append, HLE.out]; rfl), Go.Lib.hid ((HB1.out.alloc HB1.out.size _).grown hgrow1 (by have := HB1.out.size; simp; omega) (fun j e => (HOW.out.lt j e).1))⟩
          case measure => simp [intOf]; omega
        | none =>
          have HF := Go.Lib.hid (show rmgT la lb (tabP.take (k + 1)) = rmgT la lb (tabP.take k) by rw [HRM.out, hb, ha]; exact List.append_nil _)
          rw [ha] at cA
          dsimp only [Option.getD_none, Option.isSome_none] at cA
          clear hb ha
          go_wp2_with fail
          (with_reducible refine cB.mono ?_)
          rintro e w4 ⟨rfl, rfl⟩
          go_wp2_with fail
          (with_reducible refine cA.mono ?_)
          rintro e w4 ⟨rfl, rfl⟩
          clear cA cB
          go_wp2_with fail
          go_roundw
          case rel => exact ⟨k + 1, B, m, cb, by omega, by go_num, rfl, by omega, by rw [HF.out]; exact HOW.out, Go.Lib.hid (by rw [HF.out]; exact HLE.out), HB1⟩
          case measure => simp [intOf]; omega
    · obtain rfl : k = 45 := by omega
      have e : tabP.take 45 = tabP := List.take_of_length_le (by decide)
      have HO := HOW.out
      have HL := HLE.out
      rw [e] at HO HL
      clear hlt
      go_wp2
      go_ret
      exact ⟨B, m, cb, HL, rfl, own_lower HO s1, HBW.out⟩
end Go.Proofs.Ytbkpokipibgdfaa
