/- Layer 12: spans (37), end (38), merge (79). -/
import Derived.Test.YtkdhffidkopmcaaA2
namespace Go.Proofs.Ytkdhffidkopmcaa
open Go.RowKit Go.Lib
set_option linter.unusedVariables false

def spP (L : List Gd.Ce) (k : Nat) (j : Nat) : Value := if j < k * 2 then spF L j else .int .i64 0
theorem spP_step (L : List Gd.Ce) (k : Nat) (hk : k < L.length) (f t : Nat) (m : Int) (h : L[k] = (f, t, m)) (j : Nat) :
    (if j = k * 2 + 1 then Value.int .i64 (t : Nat) else (if j = k * 2 then Value.int .i64 (f : Nat) else spP L k j)) = spP L (k + 1) j := by
  unfold spP
  by_cases e1 : j = k * 2 + 1
  · subst e1
    rw [if_pos rfl, if_pos (by omega)]
    unfold spF
    rw [if_neg (by omega), show (k * 2 + 1) / 2 = k by omega, List.getElem?_eq_getElem hk, h]; rfl
  · rw [if_neg e1]
    by_cases e2 : j = k * 2
    · subst e2
      rw [if_pos rfl, if_pos (by omega)]
      unfold spF
      rw [if_pos (by omega), show k * 2 / 2 = k by omega, List.getElem?_eq_getElem hk, h]; rfl
    · rw [if_neg e2]
      by_cases e3 : j < k * 2
      · rw [if_pos e3, if_pos (by omega)]
      · rw [if_neg e3, if_neg (by omega)]
theorem obj6 {W : World} {b : Nat} {t : TypeId} {v0 v1 v2 v3 v4 v5 : Value} (h : ObjAt W b #[v0, v1, v2, v3, v4, v5] t) : W.cell? ⟨b, 5, none⟩ = some v5 := h.get rfl
theorem stp_cast (f : Nat) (c : Int) (h : f ≤ 32) : ∃ mx d : Int, (if c < 1 then (1 : Int) else c) = mx ∧ (if 32 - (f : Int) < mx then 32 - (f : Int) else mx) = d ∧ (f : Int) + d = (Gd.stp f c : Nat) ∧ 1 ≤ mx := by
  refine ⟨_, _, rfl, rfl, ?_, ?_⟩
  · unfold Gd.stp; split <;> split <;> omega
  · split <;> omega

set_option maxRecDepth 100000 in
set_option maxHeartbeats 4000000 in
theorem spans_any (r : List Cl) (hr : GoodR r) (v0 v1 v2 v3 v4 : Value) (A : Option Addr) (n c : Nat) (hn : r.length = n) (hc : n ≤ c ∧ c ≤ maxLen) (w : World) (hA : CsAt w A r) :
    Calls Try.prog 37 #[.agg #[v0, v1, v2, v3, v4, .slice A n c]] w fun e w' => ∃ s, e = .returned s ∧ SpAt w' w.heap.size s (plR r) ∧ Below w.heap.size w w' := by
  obtain ⟨hc1, hc2⟩ := hc
  have hn40 : n ≤ 40 := by rw [← hn]; exact hr.1
  have HN := Go.Lib.hid hn
  have HR := Go.Lib.hid hr.2
  unfold maxLen at hc2
  have o1 := ObjAt.new w #[v0, v1, v2, v3, v4, .slice A n c] 39
  have hB : Below w.heap.size w (w.alloc (.cells #[v0, v1, v2, v3, v4, .slice A n c] 39)) := (Below.refl _ w).alloc (Nat.le_refl _) _
  have z5 := obj6 o1
  have HA := Go.Lib.hid hA
  have hM := make_spans n (by omega) (w.alloc (.cells #[v0, v1, v2, v3, v4, .slice A n c] 39))
  have hS := Go.Lib.hid (spans_made (w.alloc (.cells #[v0, v1, v2, v3, v4, .slice A n c] 39)) n)
  clear hn hr hA
  have hB1 : Below w.heap.size w ((w.alloc (.cells #[v0, v1, v2, v3, v4, .slice A n c] 39)).alloc (.cells (madeCells #[.int .i64 0, .int .i64 0] (n * 2)) 43)) := hB.alloc (by simp) _
  have hg0 : w.heap.size ≤ (w.alloc (.cells #[v0, v1, v2, v3, v4, .slice A n c] 39)).heap.size := by simp
  have o2 := o1.alloc (.cells (madeCells #[.int .i64 0, .int .i64 0] (n * 2)) 43)
  have z5' := obj6 o2
  go_enter Try.func37, Try.ntmps37
  go_wp2_with fail
  have hG := Go.Lib.hid hg0
  have HB1 := Go.Lib.hid hB1
  have hS2 : Hid (((w.alloc (.cells #[v0, v1, v2, v3, v4, .slice A n c] 39)).alloc (.cells (madeCells #[.int .i64 0, .int .i64 0] (n * 2)) 43)).rowIs (w.heap.size + 1) 43 (n * 2) (fun _ => .int .i64 0)) := Go.Lib.hid (by have := hS.out; simpa using this)
  obtain ⟨g, hg⟩ : ∃ g, g = w.heap.size + 1 := ⟨_, rfl⟩
  rw [← hg] at hS2 ⊢
  have hg1 : w.heap.size ≤ g := by omega
  have HG1 := Go.Lib.hid hg1
  clear hg hB hB1 hM o1 z5 z5' o2 hg0 hS hG hg1
  generalize ((w.alloc (.cells #[v0, v1, v2, v3, v4, .slice A n c] 39)).alloc (.cells (madeCells #[.int .i64 0, .int .i64 0] (n * 2)) 43)) = W at *
  go_loopw [4, 17] (fun s4 s17 wr => ∃ k : Nat, k ≤ n ∧ s17 = .int .i64 (k : Nat) ∧ (∃ f : Nat, f ≤ 32 ∧ s4 = .int .i64 (f : Nat) ∧ Hid (f = Gd.fin 0 ((r.map val).take k))) ∧ Hid (wr.rowIs g 43 (n * 2) (spP (plR r) k)) ∧ Hid (Below w.heap.size w wr)) (fun _ s17 _ => n - (RowKit.intOf s17).toNat)
  case atStart => exact ⟨0, Nat.zero_le _, rfl, ⟨0, by omega, rfl, Go.Lib.hid rfl⟩, Go.Lib.hid (hS2.out.congr fun i _ => by unfold spP; rw [if_neg (by omega)]), HB1⟩
  case round =>
    obtain ⟨k, hk, rfl, ⟨f, hf, rfl, HF⟩, HW, HB⟩ := hrel
    by_cases hlt : k < n
    · have hkr : k < r.length := by rw [HN.out]; exact hlt
      rcases HA.out with h0 | ⟨ga, o, rfl, hga, hcl⟩
      · rw [h0] at hkr; exact absurd hkr (Nat.not_lt_zero _)
      have hsz := HB.out.size
      have hga2 := Nat.lt_of_lt_of_le hga hsz
      obtain ⟨a0, a2, a3, Bp, cp, D, dn, dc, Y, yn, yc, F, fc, c0, c1, c2, c3, c4, c5, c6, hp1, hp2, hP⟩ := ((hcl k hkr).below hga HB.out)
      have hgd := HR.out r[k] (List.getElem_mem hkr)
      have hx : (plR r)[k]'(by rw [plR_len]; exact hkr) = (f, Gd.stp f (getV r[k].props 60), getV r[k].props 61) := by
        have h1 := Gd.cel_get (r.map val) 0 k (by rw [List.length_map]; exact hkr)
        rw [Gd.fin_take_succ _ _ _ (by rw [List.length_map]; exact hkr), ← HF.out] at h1
        simp only [List.getElem_map] at h1
        exact h1
      have HX := Go.Lib.hid hx
      have HF2 := Go.Lib.hid (show Gd.stp f (getV r[k].props 60) = Gd.fin 0 ((r.map val).take (k + 1)) by
        rw [Gd.fin_take_succ _ _ _ (by rw [List.length_map]; exact hkr), ← HF.out]; simp [val])
      have hle := Gd.stp_le (getV r[k].props 60) hf
      have cG := fun w' (hA' : PrAt w' Bp r[k].props) => get_any r[k].props hgd.1 Bp r[k].props.length cp rfl (by have := hgd.2.1; omega) ⟨hp1, hp2⟩ 60 w' hA'
      have PP := Go.Lib.hid (⟨hP, HB.out, HW.out⟩ : PrAt wr Bp r[k].props ∧ Below w.heap.size w wr ∧ wr.rowIs g 43 (n * 2) (spP (plR r) k))
      clear hcl hgd hx hP
      generalize r[k].props.length = lp at *
      generalize r[k].flow = fl at *
      obtain ⟨mx, d, hmx, hd, ES, _⟩ := stp_cast f (getV r[k].props 60) hf
      generalize getV r[k].props 60 = cv at *
      have q1 : IntKind.i64.wrap ((32 : Int) - (f : Int)) = 32 - (f : Int) := IntWalk.i64_in _ (by omega)
      have q2 : IntKind.i64.wrap ((f : Int) + d) = (Gd.stp f cv : Nat) := by rw [ES]; exact IntWalk.i64_in _ (by omega)
      have q3 : (0 : Int) ≤ (k : Int) := by omega
      have q4 : (k : Int) < (n : Int) := by omega
      clear ES
      generalize Gd.stp f cv = t at *
      go_wp2_with fail
      (with_reducible refine (cG _ (PP.out.1.below ((Below.refl _ wr).alloc (Nat.le_refl _) _) (Nat.le_refl _))).mono ?_)
      rintro e w1 ⟨rfl, k1⟩
      have kk : Below wr.heap.size wr w1 := ((Below.refl _ wr).alloc (Nat.le_refl _) _).trans (k1.mono (by simp))
      have RW : w1.rowIs g 43 (n * 2) (spP (plR r) k) := PP.out.2.2.of_block (kk.block g PP.out.2.2.lt)
      have hbb := PP.out.2.1.trans (kk.mono hsz)
      have hgl := RW.lt
      have y0 := RW.cell (show k * 2 < n * 2 by omega)
      have y1 := RW.cell (show k * 2 + 1 < n * 2 by omega)
      have f0 := RW.frozen (k * 2)
      have f1 := RW.frozen (k * 2 + 1)
      have RW2 := (RW.set (k * 2) (.int .i64 (f : Nat))).set (k * 2 + 1) (.int .i64 (t : Nat))
      have HW2 := Go.Lib.hid (show ((w1.setCell ⟨g, k * 2, none⟩ (.int .i64 (f : Nat))).setCell ⟨g, k * 2 + 1, none⟩ (.int .i64 (t : Nat))).rowIs g 43 (n * 2) (spP (plR r) (k + 1)) from RW2.congr fun j _ => spP_step (plR r) k (by rw [plR_len]; exact hkr) f t _ HX.out j)
      have HB2 := Go.Lib.hid (show Below w.heap.size w ((w1.setCell ⟨g, k * 2, none⟩ (.int .i64 (f : Nat))).setCell ⟨g, k * 2 + 1, none⟩ (.int .i64 (t : Nat))) from (hbb.setCell HG1.out _).setCell HG1.out _)
      clear RW RW2 kk k1 cG hbb
      generalize spP (plR r) k = F at *
      go_wp2
      go_roundw
      case rel => exact ⟨k + 1, by omega, by go_num, ⟨t, hle, rfl, HF2⟩, HW2, HB2⟩
      case measure => simp [RowKit.intOf]; omega
    · obtain rfl : k = n := by omega
      go_wp2
      go_ret
      exact ⟨.slice (some ⟨g, 0, none⟩) k k, by simp, ⟨g, by rw [plR_len, HN.out], HG1.out, by rw [plR_len, HN.out]; exact HW.out.congr fun i hi => by unfold spP; rw [if_pos hi]⟩, HB.out⟩

theorem end_any (L : List Gd.Ce) (s : Value) (b : Nat) (w : World) (hs : SpAt w b s L) (h40 : L.length ≤ 40) :
    Calls Try.prog 38 #[s] w fun e w' => e = .returned (.int .i64 (Gd.ends L : Nat)) ∧ w = w' := by
  obtain ⟨g, rfl, hb, hg, hc⟩ := hs.cells
  by_cases h0 : L.length = 0
  · have hL : L = [] := List.eq_nil_of_length_eq_zero h0
    subst hL
    go_enter Try.func38, Try.ntmps38
    go_wp2
    go_ret
    exact ⟨rfl, rfl⟩
  · obtain ⟨n, hn⟩ : ∃ n, L.length = n + 1 := ⟨L.length - 1, by omega⟩
    have c1 := (hc n (by omega)).2
    have HE := Go.Lib.hid (show Gd.ends L = L[n].2.1 by
      unfold Gd.ends
      rw [List.getLast?_eq_getElem?, show L.length - 1 = n by omega, List.getElem?_eq_getElem (by omega)])
    generalize L[n].2.1 = t at c1 HE
    have q1 : IntKind.i64.wrap ((n : Int) + 1 - 1) = (n : Int) := by rw [show (n : Int) + 1 - 1 = n by omega]; exact IntWalk.i64_in _ (by omega)
    have q1' : IntKind.i64.wrap (n : Int) = (n : Int) := IntWalk.i64_in _ (by omega)
    have q2 : (0 : Int) ≤ (n : Int) := by omega
    have q3 : (n : Int) < (n : Int) + 1 := by omega
    have q4 : ((n : Int) + 1 == 0) = false := by simp; omega
    rw [hn]
    clear hc h0
    go_enter Try.func38, Try.ntmps38
    go_wp2
    go_ret
    exact ⟨by simp [HE.out], rfl⟩
end Go.Proofs.Ytkdhffidkopmcaa
