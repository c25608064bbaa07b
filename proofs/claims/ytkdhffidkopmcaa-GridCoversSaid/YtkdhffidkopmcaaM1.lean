/- Layer 12: At (21) with its search (42, 43). -/
import Derived.Test.YtkdhffidkopmcaaL3
namespace Go.Proofs.Ytkdhffidkopmcaa
open Go.RowKit Go.Lib Go.Maps
set_option linter.unusedVariables false

set_option maxRecDepth 100000 in
theorem below_any (f t : Nat) (q : Int) (b : Nat) (w : World) (h : w.cell? ⟨b, 0, none⟩ = some (.int .i64 q)) : Calls Try.prog 43 #[.agg #[.int .i64 (f : Nat), .int .i64 (t : Nat)], .pointer (some ⟨b, 0, none⟩)] w fun e w' => e = .returned (.bool (decide (q < (t : Int)))) ∧ Below w.heap.size w w' := by
  have hb : b < w.heap.size := World.block_lt_of_cell? w ⟨b, 0, none⟩ h
  have hx := (((Below.refl w.heap.size w).alloc (Nat.le_refl _) (.cells #[.int .i64 (f : Nat), .int .i64 (t : Nat)] 43)).cell (p := ⟨b, 0, none⟩) hb).trans h
  go_enter Try.func43, Try.ntmps43
  go_wp2
  go_ret
  exact ⟨by simp, (Below.refl _ w).alloc (Nat.le_refl _) _⟩
/-- What the search hands back: the first cell whose columns end behind q, or -1. -/
def IdxR (L : List Gd.Ce) (q : Int) (e : Ending) : Prop := (∃ (k : Nat) (h : k < L.length), q < (L[k].2.1 : Int) ∧ (∀ j (h : j < L.length), j < k → (L[j].2.1 : Int) ≤ q) ∧ e = .returned (.int .i64 (k : Nat))) ∨ ((∀ j (h : j < L.length), (L[j].2.1 : Int) ≤ q) ∧ e = .returned (.int .i64 (-1)))

set_option maxRecDepth 100000 in
set_option maxHeartbeats 8000000 in
theorem index_any (L : List Gd.Ce) (ln gs : Nat) (hln : L.length = ln) (h40 : ln ≤ 40) (b0 : Nat) (q : Int) (b : Nat) (w : World) (hs : SpAt w b0 (.slice (some ⟨gs, 0, none⟩) ln ln) L) (hq : w.cell? ⟨b, 0, none⟩ = some (.int .i64 q)) :
    Calls Try.prog 42 #[.slice (some ⟨gs, 0, none⟩) ln ln, .func (.func 43) #[] #[.pointer (some ⟨b, 0, none⟩)]] w fun e w' => IdxR L q e ∧ Below w.heap.size w w' := by
  obtain ⟨gs', he, _, hgs, hcl⟩ := hs.cells
  injection he with he1 he2 he3
  clear he2 he3
  injection he1 with he1
  injection he1 with he1
  subst he1
  have hb : b < w.heap.size := World.block_lt_of_cell? w ⟨b, 0, none⟩ hq
  have HCL := Go.Lib.hid hcl
  have HLN := Go.Lib.hid hln
  have cB := Go.Lib.hid (fun (f t : Nat) w' (hb' : Below w.heap.size w w') => below_any f t q b w' ((hb'.cell (p := ⟨b, 0, none⟩) hb).trans hq))
  have bb0 := Below.refl w.heap.size w
  clear hcl hln hs hq
  go_enter Try.func42, Try.ntmps42
  go_wp2_with fail
  go_loopw [5, 8] (fun _ s8 wr => ∃ k : Nat, k ≤ ln ∧ s8 = .int .i64 (k : Nat) ∧ Hid (∀ j (h : j < L.length), j < k → (L[j].2.1 : Int) ≤ q) ∧ Below w.heap.size w wr) (fun _ s8 _ => ln - (RowKit.intOf s8).toNat)
  case atStart => exact ⟨0, Nat.zero_le _, rfl, Go.Lib.hid fun j h h' => absurd h' (Nat.not_lt_zero _), bb0⟩
  case round =>
    clear bb0
    obtain ⟨k, hk, rfl, HM, hbk⟩ := hrel
    have HBK := Go.Lib.hid hbk
    by_cases hlt : k < ln
    · have r0 : (0 : Int) ≤ (k : Int) := by omega
      have r1 : (k : Int) < (ln : Int) := by omega
      have hkL : k < L.length := by rw [HLN.out]; exact hlt
      obtain ⟨x0, x1⟩ := HCL.out k hkL
      have z0 := (hbk.cell (p := ⟨gs, k * 2, none⟩) hgs).trans x0
      have z1 := (hbk.cell (p := ⟨gs, k * 2 + 1, none⟩) hgs).trans x1
      have cb := cB.out L[k].1 L[k].2.1 wr hbk
      have HT := Go.Lib.hid (show L[k].2.1 = L[k].2.1 from rfl)
      have HYES := Go.Lib.hid (fun (h : q < (L[k].2.1 : Int)) => (.inl ⟨k, hkL, h, HM.out, rfl⟩ : IdxR L q (.returned (.int .i64 (k : Nat)))))
      have HNO := Go.Lib.hid (fun (h : (L[k].2.1 : Int) ≤ q) => show ∀ j (h : j < L.length), j < k + 1 → (L[j].2.1 : Int) ≤ q from fun j hj hl => by
        by_cases e : j = k
        · subst e; exact h
        · exact HM.out j hj (by omega))
      have hs := hbk.size
      clear hbk x0 x1
      generalize L[k].1 = f1 at *
      generalize L[k].2.1 = t1 at *
      by_cases hqt : q < (t1 : Int)
      · rw [decide_eq_true hqt] at cb
        have HX := Go.Lib.hid (HYES.out hqt)
        clear hqt
        go_wp2_with fail
        (with_reducible refine cb.mono ?_)
        rintro e w7 ⟨rfl, k7⟩
        have K7 := Go.Lib.hid (HBK.out.trans (k7.mono hs))
        clear cb k7
        go_wp2
        go_ret
        exact ⟨by simp; exact HX.out, K7.out⟩
      · rw [decide_eq_false hqt] at cb
        have HX := Go.Lib.hid (HNO.out (by omega))
        clear hqt
        go_wp2_with fail
        (with_reducible refine cb.mono ?_)
        rintro e w7 ⟨rfl, k7⟩
        have K7 := Go.Lib.hid (HBK.out.trans (k7.mono hs))
        clear cb k7 z0 z1
        go_wp2
        go_roundw
        case rel => exact ⟨k + 1, by omega, by go_num, HX, K7.out⟩
        case measure => simp [RowKit.intOf]; omega
    · obtain rfl : k = ln := by omega
      clear hbk
      go_wp2
      go_ret
      exact ⟨.inr ⟨fun j hj => HM.out j hj (by rw [← HLN.out]; exact hj), by simp⟩, HBK.out⟩
end Go.Proofs.Ytkdhffidkopmcaa
