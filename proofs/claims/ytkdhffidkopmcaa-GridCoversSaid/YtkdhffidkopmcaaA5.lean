/- Layer 12: the reference's Same (59) and At (22). -/
import Derived.Test.YtkdhffidkopmcaaA4
namespace Go.Proofs.Ytkdhffidkopmcaa
open Go.RowKit Go.Lib
set_option linter.unusedVariables false

section
variable {W : World} {b : Nat} {t : TypeId} {v0 v1 v2 v3 v4 v5 : Value}
theorem ObjAt.s0 (h : ObjAt W b #[v0, v1, v2, v3, v4, v5] t) : W.cell? ⟨b, 0, none⟩ = some v0 := h.get rfl
theorem ObjAt.s1 (h : ObjAt W b #[v0, v1, v2, v3, v4, v5] t) : W.cell? ⟨b, 1, none⟩ = some v1 := h.get rfl
theorem ObjAt.s2 (h : ObjAt W b #[v0, v1, v2, v3, v4, v5] t) : W.cell? ⟨b, 2, none⟩ = some v2 := h.get rfl
theorem ObjAt.s3 (h : ObjAt W b #[v0, v1, v2, v3, v4, v5] t) : W.cell? ⟨b, 3, none⟩ = some v3 := h.get rfl
theorem ObjAt.s4 (h : ObjAt W b #[v0, v1, v2, v3, v4, v5] t) : W.cell? ⟨b, 4, none⟩ = some v4 := h.get rfl
theorem ObjAt.s5 (h : ObjAt W b #[v0, v1, v2, v3, v4, v5] t) : W.cell? ⟨b, 5, none⟩ = some v5 := h.get rfl
end
/-- What Same hands back: the place of the cell with exactly some columns, or -1. -/
def SameR (L : List Gd.Ce) (f t : Nat) (e : Ending) : Prop := (∃ (k : Nat) (m : Int), L[k]? = some (f, t, m) ∧ e = .returned (.int .i64 (k : Nat))) ∨ ((∀ m, (f, t, m) ∉ L) ∧ e = .returned (.int .i64 (-1)))
/-- What At hands back. -/
def AtR (L : List Gd.Ce) (c : Nat) (e : Ending) : Prop := (∃ (k f t : Nat) (m : Int), L[k]? = some (f, t, m) ∧ f ≤ c ∧ c < t ∧ e = .returned (.int .i64 (k : Nat))) ∨ ((∀ x ∈ L, ¬ (x.1 ≤ c ∧ c < x.2.1)) ∧ e = .returned (.int .i64 (-1)))

set_option maxRecDepth 100000 in
set_option maxHeartbeats 4000000 in
theorem same_any (r : List Cl) (v0 v1 v2 v3 v4 : Value) (A : Option Addr) (n c : Nat) (hn : r.length = n) (hn40 : n ≤ 1000) (hc : n ≤ c ∧ c ≤ maxLen) (f0 t0 : Nat) (h0 : f0 < t0) (w : World) (hA : CsAt w A r) :
    Calls Try.prog 59 #[.agg #[v0, v1, v2, v3, v4, .slice A n c], .int .i64 (f0 : Nat), .int .i64 (t0 : Nat)] w fun e w' => SameR (plR r) f0 t0 e ∧ Below w.heap.size w w' := by
  have HN := Go.Lib.hid hn
  have o1 := ObjAt.new w #[v0, v1, v2, v3, v4, .slice A n c] 39
  have hB : Below w.heap.size w (w.alloc (.cells #[v0, v1, v2, v3, v4, .slice A n c] 39)) := (Below.refl _ w).alloc (Nat.le_refl _) _
  have cS := Go.Lib.hid (fun (j : Nat) (hj : j < n) w' hA' => span_any r v0 v1 v2 v3 v4 A n c hn hn40 hc j hj w' hA')
  have HC := Go.Lib.hid hc
  have HA := Go.Lib.hid hA
  have HB := Go.Lib.hid hB
  have O1 := Go.Lib.hid o1
  have hc1 := hc.1
  have hc2 := hc.2
  unfold maxLen at hc2
  clear hn hA o1 hB hc
  go_enter Try.func59, Try.ntmps59
  go_wp2_with fail
  generalize (w.alloc (.cells #[v0, v1, v2, v3, v4, .slice A n c] 39)) = W at *
  have hb0 := Below.refl W.heap.size W
  go_loopw [7] (fun s7 wr => ∃ k : Nat, k ≤ n ∧ s7 = .int .i64 (k : Nat) ∧ Hid (∀ i, i < k → ∀ x, (plR r)[i]? = some x → (x.1, x.2.1) ≠ (f0, t0)) ∧ Below W.heap.size W wr) (fun s7 _ => n - (RowKit.intOf s7).toNat)
  case atStart => exact ⟨0, Nat.zero_le _, rfl, Go.Lib.hid fun i hi => absurd hi (Nat.not_lt_zero _), hb0⟩
  case round =>
    clear hb0
    obtain ⟨k, hk, rfl, HM, hbk⟩ := hrel
    have o2 := O1.out.below hbk
    have y0 := o2.s0
    have y1 := o2.s1
    have y2 := o2.s2
    have y3 := o2.s3
    have y4 := o2.s4
    have y5 := o2.s5
    by_cases hlt : k < n
    · have j1 : (k : Int) < (n : Int) := by omega
      have hss := hbk.size
      have cs := cS.out k hlt wr (HA.out.below (HB.out.trans (hbk.mono HB.out.size)))
      have HK := Go.Lib.hid hbk
      clear o2 hbk
      go_wp2_with fail
      (with_reducible refine cs.mono ?_)
      rintro e w1 ⟨⟨f, t, m, hx, rfl⟩, k1⟩
      clear cs
      have HX := Go.Lib.hid hx
      have HK1 := Go.Lib.hid (HK.out.trans (k1.mono hss))
      clear hx k1 y0 y1 y2 y3 y4 y5
      by_cases e1 : f = f0
      · have b1 : ((f : Int) == (f0 : Int)) = true := beq_iff_eq.2 (by omega)
        by_cases e2 : t = t0
        · have b2 : ((t : Int) == (t0 : Int)) = true := beq_iff_eq.2 (by omega)
          have b3 : (f : Int) < (t : Int) := by omega
          have HE := Go.Lib.hid (⟨e1, e2⟩ : f = f0 ∧ t = t0)
          clear e1 e2
          go_wp2
          go_ret
          exact ⟨.inl ⟨k, m, by rw [HX.out, HE.out.1, HE.out.2], by simp⟩, HB.out.trans (HK1.out.mono HB.out.size)⟩
        · have b2 : ((t : Int) == (t0 : Int)) = false := beq_eq_false_iff_ne.2 (by omega)
          have HE := Go.Lib.hid e2
          clear e1 e2
          go_wp2
          go_roundw
          case rel => exact ⟨k + 1, by omega, by go_num, Go.Lib.hid fun i hi x hx => if e : i = k then by subst e; rw [HX.out] at hx; cases hx; intro h; injection h with _ h; exact HE.out h else HM.out i (by omega) x hx, HK1.out⟩
          case measure => simp [RowKit.intOf]; omega
      · have b1 : ((f : Int) == (f0 : Int)) = false := beq_eq_false_iff_ne.2 (by omega)
        have HE := Go.Lib.hid e1
        clear e1
        go_wp2
        go_roundw
        case rel => exact ⟨k + 1, by omega, by go_num, Go.Lib.hid fun i hi x hx => if e : i = k then by subst e; rw [HX.out] at hx; cases hx; intro h; injection h with h _; exact HE.out h else HM.out i (by omega) x hx, HK1.out⟩
        case measure => simp [RowKit.intOf]; omega
    · obtain rfl : k = n := by omega
      have hbk2 := hbk
      clear o2 hbk
      go_wp2
      go_ret
      refine ⟨.inr ⟨?_, by simp⟩, HB.out.trans (hbk2.mono HB.out.size)⟩
      intro m hm
      obtain ⟨i, hi, he⟩ := List.mem_iff_getElem.1 hm
      have hi' : i < k := by rw [plR_len] at hi; have := HN.out; omega
      exact HM.out i hi' _ (List.getElem?_eq_getElem hi) (by rw [he])

set_option maxRecDepth 100000 in
set_option maxHeartbeats 4000000 in
theorem rat_any (r : List Cl) (v0 v1 v2 v3 v4 : Value) (A : Option Addr) (n c : Nat) (hn : r.length = n) (hn40 : n ≤ 1000) (hc : n ≤ c ∧ c ≤ maxLen) (q : Nat) (w : World) (hA : CsAt w A r) :
    Calls Try.prog 22 #[.agg #[v0, v1, v2, v3, v4, .slice A n c], .int .i64 (q : Nat)] w fun e w' => AtR (plR r) q e ∧ Below w.heap.size w w' := by
  have HN := Go.Lib.hid hn
  have o1 := ObjAt.new w #[v0, v1, v2, v3, v4, .slice A n c] 39
  have hB : Below w.heap.size w (w.alloc (.cells #[v0, v1, v2, v3, v4, .slice A n c] 39)) := (Below.refl _ w).alloc (Nat.le_refl _) _
  have cS := Go.Lib.hid (fun (j : Nat) (hj : j < n) w' hA' => span_any r v0 v1 v2 v3 v4 A n c hn hn40 hc j hj w' hA')
  have HC := Go.Lib.hid hc
  have HA := Go.Lib.hid hA
  have HB := Go.Lib.hid hB
  have O1 := Go.Lib.hid o1
  have hc1 := hc.1
  have hc2 := hc.2
  unfold maxLen at hc2
  clear hn hA o1 hB hc
  go_enter Try.func22, Try.ntmps22
  go_wp2_with fail
  generalize (w.alloc (.cells #[v0, v1, v2, v3, v4, .slice A n c] 39)) = W at *
  have hb0 := Below.refl W.heap.size W
  go_loopw [5] (fun s7 wr => ∃ k : Nat, k ≤ n ∧ s7 = .int .i64 (k : Nat) ∧ Hid (∀ i, i < k → ∀ x, (plR r)[i]? = some x → ¬ (x.1 ≤ q ∧ q < x.2.1)) ∧ Below W.heap.size W wr) (fun s7 _ => n - (RowKit.intOf s7).toNat)
  case atStart => exact ⟨0, Nat.zero_le _, rfl, Go.Lib.hid fun i hi => absurd hi (Nat.not_lt_zero _), hb0⟩
  case round =>
    clear hb0
    obtain ⟨k, hk, rfl, HM, hbk⟩ := hrel
    have o2 := O1.out.below hbk
    have y0 := o2.s0
    have y1 := o2.s1
    have y2 := o2.s2
    have y3 := o2.s3
    have y4 := o2.s4
    have y5 := o2.s5
    by_cases hlt : k < n
    · have j1 : (k : Int) < (n : Int) := by omega
      have hss := hbk.size
      have cs := cS.out k hlt wr (HA.out.below (HB.out.trans (hbk.mono HB.out.size)))
      have HK := Go.Lib.hid hbk
      clear o2 hbk
      go_wp2_with fail
      (with_reducible refine cs.mono ?_)
      rintro e w1 ⟨⟨f, t, m, hx, rfl⟩, k1⟩
      clear cs
      have HX := Go.Lib.hid hx
      have HK1 := Go.Lib.hid (HK.out.trans (k1.mono hss))
      clear hx k1 y0 y1 y2 y3 y4 y5
      by_cases e1 : f ≤ q
      · have b1 : (f : Int) ≤ (q : Int) := by omega
        by_cases e2 : q < t
        · have b2 : (q : Int) < (t : Int) := by omega
          go_wp2
          go_ret
          exact ⟨.inl ⟨k, f, t, m, HX.out, e1, e2, by simp⟩, HB.out.trans (HK1.out.mono HB.out.size)⟩
        · have b2 : ¬ (q : Int) < (t : Int) := by omega
          go_wp2
          go_roundw
          case rel => exact ⟨k + 1, by omega, by go_num, Go.Lib.hid fun i hi x hx => if e : i = k then by subst e; rw [HX.out] at hx; cases hx; exact fun h => e2 h.2 else HM.out i (by omega) x hx, HK1.out⟩
          case measure => simp [RowKit.intOf]; omega
      · have b1 : ¬ (f : Int) ≤ (q : Int) := by omega
        go_wp2
        go_roundw
        case rel => exact ⟨k + 1, by omega, by go_num, Go.Lib.hid fun i hi x hx => if e : i = k then by subst e; rw [HX.out] at hx; cases hx; exact fun h => e1 h.1 else HM.out i (by omega) x hx, HK1.out⟩
        case measure => simp [RowKit.intOf]; omega
    · obtain rfl : k = n := by omega
      have hbk2 := hbk
      clear o2 hbk
      go_wp2
      go_ret
      refine ⟨.inr ⟨?_, by simp⟩, HB.out.trans (hbk2.mono HB.out.size)⟩
      intro x hx
      obtain ⟨i, hi, he⟩ := List.mem_iff_getElem.1 hx
      have hi' : i < k := by rw [plR_len] at hi; have := HN.out; omega
      rw [← he]
      exact HM.out i hi' _ (List.getElem?_eq_getElem hi)
end Go.Proofs.Ytkdhffidkopmcaa
