/- Layer 8: the properties of other groups (76, 91). -/
import Derived.Test.YtbkpokipibgdfaaS6
import Derived.Test.YtbkpokipibgdfaaSE
namespace Go.Proofs.Ytbkpokipibgdfaa
open Go.RowKit Go.Lib
set_option linter.unusedVariables false

def isOt (gr : Int) (y : Pr) : Bool := (rowZ y.1).2.2.1 != gr
theorem group_anyB (p : Int) (w : World) : Calls Try.prog 77 #[.int .i64 p] w fun e w' => (∃ e0, e = .returned (.tuple #[.int .i64 (rowZ p).2.2.1, .int .i64 e0])) ∧ Below w.heap.size w w' := by
  by_cases h : ∃ r ∈ tabP, r.1 = p
  · refine (group_yes p h w).mono ?_
    rintro e w' ⟨⟨r, hr, rfl, rfl⟩, hb⟩
    refine ⟨⟨0, ?_⟩, hb⟩
    unfold rowZ
    rw [rowOf_mem hr]
    rfl
  · refine (group_no p h w).mono ?_
    rintro e w' ⟨rfl, hb⟩
    refine ⟨⟨4, ?_⟩, hb⟩
    unfold rowZ
    rw [rowOf_none h]
    rfl
set_option maxRecDepth 100000 in
set_option maxHeartbeats 8000000 in
theorem isot_any (a b gr : Int) (bg : Nat) (w : World) (hgr : w.cell? ⟨bg, 0, none⟩ = some (.int .i64 gr)) : Calls Try.prog 76 #[.agg #[.int .i64 a, .int .i64 b], .pointer (some ⟨bg, 0, none⟩)] w fun e w' => e = .returned (.bool (isOt gr (a, b))) ∧ Below w.heap.size w w' := by
  have hbg : bg < w.heap.size := World.block_lt_of_cell? w ⟨bg, 0, none⟩ hgr
  have hb0 := (Below.refl w.heap.size w).alloc (Nat.le_refl _) (.cells #[.int .i64 a, .int .i64 b] 55)
  have s0 := hb0.size
  have cG := group_anyB a (w.alloc (.cells #[.int .i64 a, .int .i64 b] 55))
  have GB := Lib.hid (fun w' (hb : Below w.heap.size w w') => (hb.cell (p := ⟨bg, 0, none⟩) hbg).trans hgr)
  unfold isOt
  dsimp only
  clear hgr
  generalize (rowZ a).2.2.1 = z at *
  go_enter Try.func76, Try.ntmps76
  go_wp2_with fail
  (with_reducible refine cG.mono ?_)
  rintro e w1 ⟨⟨e0, rfl⟩, k1⟩
  have K1 := Lib.hid (hb0.trans (k1.mono s0))
  have g1 := GB.out w1 K1.out
  clear cG k1 hb0
  go_wp2
  go_ret
  exact ⟨rfl, K1.out⟩
/-- What the search hands back. -/
def OtR (gr : Int) (l : List Pr) (e : Ending) : Prop := (∃ (k : Nat) (h : k < l.length), e = .returned (.int .i64 (k : Nat)) ∧ isOt gr l[k] = true ∧ ∀ j (h : j < l.length), j < k → isOt gr l[j] = false) ∨ (e = .returned (.int .i64 (-1)) ∧ ∀ j (h : j < l.length), isOt gr l[j] = false)
set_option maxRecDepth 100000 in
set_option maxHeartbeats 8000000 in
theorem indexot_any (l : List Pr) (n : Nat) (hn : l.length = n) (A : Option Addr) (c : Nat) (hc : n ≤ c ∧ c ≤ maxLen) (gr : Int) (bg : Nat) (w : World) (hA : PrAt w A l) (hgr : w.cell? ⟨bg, 0, none⟩ = some (.int .i64 gr)) :
    Calls Try.prog 91 #[.slice A n c, .func (.func 76) #[] #[.pointer (some ⟨bg, 0, none⟩)]] w fun e w' => OtR gr l e ∧ Below w.heap.size w w' := by
  have HN := Lib.hid hn
  have HA := Lib.hid hA
  have hbg : bg < w.heap.size := World.block_lt_of_cell? w ⟨bg, 0, none⟩ hgr
  have CB := Lib.hid (fun a b w' (hb : Below w.heap.size w w') => isot_any a b gr bg w' ((hb.cell (p := ⟨bg, 0, none⟩) hbg).trans hgr))
  have hm : n ≤ maxLen := Nat.le_trans hc.1 hc.2
  unfold maxLen at hm
  clear hn hA hgr
  go_enter Try.func91, Try.ntmps91
  go_wp2_with fail
  go_loopw [5, 8] (fun _ s8 wr => ∃ k : Nat, k ≤ n ∧ s8 = .int .i64 (k : Nat) ∧ Hid (∀ j (h : j < l.length), j < k → isOt gr l[j] = false) ∧ Hid (Below w.heap.size w wr)) (fun _ s8 _ => n - (intOf s8).toNat)
  case atStart => exact ⟨0, Nat.zero_le _, rfl, Lib.hid (fun j _ h => absurd h (Nat.not_lt_zero _)), Lib.hid (Below.refl _ _)⟩
  case round =>
    obtain ⟨k, hk, rfl, HM, HB⟩ := hrel
    by_cases hlt : k < n
    · have hkl : k < l.length := by rw [HN.out]; exact hlt
      rcases HA.out with hA0 | ⟨g, o, rfl, hg, hcl⟩
      · rw [hA0] at hkl; exact absurd hkl (Nat.not_lt_zero _)
      obtain ⟨z0, z1⟩ := hcl k hkl
      replace z0 := (HB.out.cell (p := ⟨g, o + k * 2, none⟩) hg).trans z0
      replace z1 := (HB.out.cell (p := ⟨g, o + k * 2 + 1, none⟩) hg).trans z1
      have HY := Lib.hid (fun (h : isOt gr l[k] = true) => (.inl ⟨k, hkl, rfl, h, HM.out⟩ : OtR gr l (.returned (.int .i64 (k : Nat)))))
      have HX := Lib.hid (fun (h : isOt gr l[k] = false) => show ∀ j (h : j < l.length), j < k + 1 → isOt gr l[j] = false from fun j hj hl => if e : j = k then by subst e; exact h else HM.out j hj (by omega))
      have hs := HB.out.size
      clear hcl
      generalize l[k] = x at z0 z1 HY HX
      obtain ⟨a, b⟩ := x
      dsimp only at z0 z1 HY HX
      have cb := CB.out a b wr HB.out
      by_cases hv : isOt gr (a, b) = true
      · have HE := Lib.hid (HY.out hv)
        rw [hv] at cb
        clear HY HX hv
        go_wp2_with fail
        (with_reducible refine cb.mono ?_)
        rintro e w7 ⟨rfl, k7⟩
        have K7 := Go.Lib.hid (HB.out.trans (k7.mono hs))
        clear cb k7
        go_wp2
        go_ret
        exact ⟨HE.out, K7.out⟩
      · have hv' : isOt gr (a, b) = false := by simpa using hv
        rw [hv'] at cb
        have HE := Lib.hid (HX.out hv')
        clear HY HX hv hv'
        go_wp2_with fail
        (with_reducible refine cb.mono ?_)
        rintro e w7 ⟨rfl, k7⟩
        have K7 := Go.Lib.hid (HB.out.trans (k7.mono hs))
        clear cb k7 z0 z1
        go_wp2
        go_roundw
        case rel => exact ⟨k + 1, by omega, by go_num, HE, K7⟩
        case measure => simp [intOf]; omega
    · obtain rfl : k = n := by omega
      have HE := Lib.hid (show OtR gr l (.returned (.int .i64 (-1))) from .inr ⟨rfl, fun j h => HM.out j h (by rw [← HN.out]; exact h)⟩)
      go_wp2
      go_ret
      exact ⟨HE.out, HB.out⟩
end Go.Proofs.Ytbkpokipibgdfaa
