/- Layer 12: the state of lay; goesOn (83). -/
import Derived.Test.YtkdhffidkopmcaaB1
import Derived.Deep.RegionHeld3
import Derived.StillTailTactics
import Derived.Deep.RegionLaw
import Derived.Deep.QuietTactic
import Derived.Deep.RegionWith
namespace Go.Proofs.Ytkdhffidkopmcaa
open Go.RowKit Go.Lib Go.Maps
set_option linter.unusedVariables false

/-- A world below which W is as it was. -/
structure Bw (W : World) where
  w : World
  h : Below W.heap.size W w
instance bwInh (W : World) : Inhabited (Bw W) := ⟨⟨W, Below.refl _ _⟩⟩
theorem bw_of {W : World} {f : FuncId} {args : Array Value} {v : Value} (h : ∀ p : Bw W, Calls Try.prog f args p.w fun e w' => e = .returned v ∧ Below p.w.heap.size p.w w') (p : Bw W) :
    Calls Try.prog f args p.w fun e w'' => e = .returned v ∧ ∃ p' : Bw W, w'' = p'.w :=
  (h p).mono fun _ w'' ⟨he, hb⟩ => ⟨he, ⟨w'', p.h.trans (hb.mono p.h.size)⟩, rfl⟩
theorem wp_region_bw {id : Nat} {Q : Exit → Act → World → Prop} {a : Act} {W w : World} {l : List Oper} (hm : Try.prog.follows .mixedOrders = true) (hB : Region.lexB .any l.toArray = true) (hw : Below W.heap.size W w)
    (h : wpQuiet Try.prog l.toArray (fun w' => ∃ p : Bw W, w' = p.w) (fun a' => ∀ w', (∃ p : Bw W, w' = p.w) → Q .normal a' w') l a) : (Code.region id l.toArray true).wp Try.prog Q a w :=
  wp_region_quiet (C := fun w' => ∃ p : Bw W, w' = p.w) hm hB ⟨⟨w.drew, hw.drew⟩, rfl⟩ (by simpa using h)
def spanV (f t : Int) : Value := .agg #[.int .i64 f, .int .i64 t]

attribute [local irreducible] wpStill in
set_option maxRecDepth 100000 in
set_option maxHeartbeats 8000000 in
theorem goes_any (T : List (List Cl)) (hT : GoodT T) (A : Option Addr) (N c : Nat) (hN : T.length = N) (hc : N ≤ c ∧ c ≤ maxLen) (i k f0 t0 f t : Nat) (bt : Int) (m : Int) (ha : Gd.At (plT T) i k f0 t0 m) (tb : Nat) (rv mv : Value) (w : World)
    (hO : ObjAt w tb #[.slice A N c, rv, mv] 83) (hA : TbAt w A T) :
    Calls Try.prog 83 #[.pointer (some ⟨tb, 0, none⟩), rectV i k i f0 bt t0, spanV f t] w fun e w' => e = .returned (.bool (decide (f = f0 ∧ t = t0 ∧ (m = 1 ∨ m = 2)))) ∧ Below w.heap.size w w' := by
  have hiT := At_lt ha
  have hkr := At_len ha hiT
  have hval : (val T[i][k]).2 = m := by
    obtain ⟨L, h1, h2⟩ := ha
    rw [plT_get hiT] at h1; cases h1
    exact plR_val hkr h2
  have hgd := (hT.2 _ (List.getElem_mem hiT)).2 _ (List.getElem_mem hkr)
  unfold rectV spanV
  have o1 := ObjAt.new w #[.int .i64 i, .int .i64 k, .int .i64 i, .int .i64 f0, .int .i64 bt, .int .i64 t0] 50
  have o2 := ObjAt.new (w.alloc (.cells #[.int .i64 i, .int .i64 k, .int .i64 i, .int .i64 f0, .int .i64 bt, .int .i64 t0] 50)) #[.int .i64 f, .int .i64 t] 43
  have hsz1 : (w.alloc (.cells #[.int .i64 i, .int .i64 k, .int .i64 i, .int .i64 f0, .int .i64 bt, .int .i64 t0] 50)).heap.size = w.heap.size + 1 := by simp
  rw [hsz1] at o2
  have o1' := o1.alloc (.cells #[.int .i64 f, .int .i64 t] 43)
  have hB : Below w.heap.size w ((w.alloc (.cells #[.int .i64 i, .int .i64 k, .int .i64 i, .int .i64 f0, .int .i64 bt, .int .i64 t0] 50)).alloc (.cells #[.int .i64 f, .int .i64 t] 43)) := ((Below.refl _ w).alloc (Nat.le_refl _) _).alloc (by simp) _
  have hO' := hO.below hB
  have hA' := hA.below hB
  obtain ⟨g, o, rfl, hg, hrows⟩ := hA'.row hiT
  obtain ⟨a1, a2, B, n, cB, D, dn, dc, Y, yn, yc, Ac, kc, r0, r1, r2, r3, r4, r5, g1, g2, hcs⟩ := hrows i hiT
  rcases hcs with h0 | ⟨ga, oa, rfl, hga, hcl⟩
  · rw [h0] at hkr; exact absurd hkr (Nat.not_lt_zero _)
  obtain ⟨b0, b2, b3, Bp, cp, Dd, ddn, ddc, Yy, yyn, yyc, F, fc, c0, c1, c2, c3, c4, c5, c6, hp1, hp2, hP⟩ := hcl k hkr
  have hsz : ((w.alloc (.cells #[.int .i64 i, .int .i64 k, .int .i64 i, .int .i64 f0, .int .i64 bt, .int .i64 t0] 50)).alloc (.cells #[.int .i64 f, .int .i64 t] 43)).heap.size = w.heap.size + 2 := by simp
  have cM := Go.Lib.hid (fun w' (hb : Below (w.heap.size + 2) ((w.alloc (.cells #[.int .i64 i, .int .i64 k, .int .i64 i, .int .i64 f0, .int .i64 bt, .int .i64 t0] 50)).alloc (.cells #[.int .i64 f, .int .i64 t] 43)) w') => merge_any T[i][k] hgd (.int .i64 b0) (.int .i64 b2) (.int .i64 b3) (.slice Dd ddn ddc) (.slice Yy yyn yyc) (.slice F T[i][k].flow fc) Bp _ cp rfl ⟨hp1, hp2⟩ w' (hP.below (by rw [← hsz] at hb; exact hb) (Nat.le_refl _)))
  rw [hval] at cM
  have hc1 := hc.1
  have hc2 := hc.2
  unfold maxLen at hc2
  have q0 : (0 : Int) ≤ (i : Int) := by omega
  have q1 : (i : Int) < (N : Int) := by omega
  have q2 : (0 : Int) ≤ (k : Int) := by omega
  have q3 : (k : Int) < (T[i].length : Int) := by omega
  have hcell1 := o1'.s0
  have hcell2 := o1'.s1
  have hcell3 := o1'.s3
  have hcell5 := o1'.s5
  have y0 := o2.a0
  have y1 := o2.a1
  have x0 := hO'.b0
  have HB := Go.Lib.hid hB
  have O1 := Go.Lib.hid o1'
  have O2 := Go.Lib.hid o2
  clear hcl hrows hP hA hA' hO hO' o1 o2 o1' hB hval hgd ha hT hN hc r0 r1 r2 r3 r4
  generalize T[i][k].props.length = lp at *
  generalize T[i][k].flow = fl at *
  generalize T[i].length = ln at *
  go_enter Try.func83, Try.ntmps83
  go_wp2_with fail
  generalize ((w.alloc (.cells #[.int .i64 i, .int .i64 k, .int .i64 i, .int .i64 f0, .int .i64 bt, .int .i64 t0] 50)).alloc (.cells #[.int .i64 f, .int .i64 t] 43)) = W at *
  refine wp_region_still_tail 13 (by kernel_rfl) (by kernel_rfl) ?_
  simp only [List.take_succ_cons, List.take_zero, List.drop_succ_cons, List.drop_zero]
  change wpStill _ _ (World.drew _) _ _ _
  repeat still_step
  refine wpStill_nil ?_
  change wpList _ _ _ _ _ (World.drew _)
  have hbd : Below (w.heap.size + 2) W W.drew := Below.drew (Below.refl _ _)
  have cm := cM.out _ hbd
  go_wp2_with fail
  (with_reducible refine cm.mono ?_)
  rintro e w1 ⟨rfl, k1⟩
  have kk : Below (w.heap.size + 2) W w1 := hbd.trans (k1.mono (by rw [show W.drew.heap.size = W.heap.size from rfl, hsz]; exact Nat.le_refl _))
  have K1 := Go.Lib.hid kk
  have p1 := O1.out.below (by rw [hsz]; exact kk)
  have p2 := O2.out.below (by rw [hsz]; exact kk)
  have z3 := p1.s3
  have z5 := p1.s5
  have z0 := p2.a0
  have z1 := p2.a1
  clear cm k1 kk hbd p1 p2 r5 c0 c1 c2 c3 c4 c5 c6 x0 y0 y1 hcell1 hcell2 hcell3 hcell5
  by_cases e1 : f = f0
  · by_cases e2 : t = t0
    · subst e1 e2
      by_cases m1 : m = 1
      · subst m1
        go_wp2
        go_ret
        exact ⟨by simp, HB.out.trans (K1.out.mono (by omega))⟩
      · have b1 : (m == 1) = false := beq_eq_false_iff_ne.2 m1
        have M1 := Go.Lib.hid m1
        clear m1
        by_cases m2 : m = 2
        · subst m2
          go_wp2
          go_ret
          exact ⟨by simp, HB.out.trans (K1.out.mono (by omega))⟩
        · have b2 : (m == 2) = false := beq_eq_false_iff_ne.2 m2
          have M2 := Go.Lib.hid m2
          clear m2
          go_wp2
          go_ret
          exact ⟨by simp [M1.out, M2.out], HB.out.trans (K1.out.mono (by omega))⟩
    · have E2 := Go.Lib.hid e2
      have b1 : ((t : Int) == (t0 : Int)) = false := beq_eq_false_iff_ne.2 (by omega)
      have b2 : ¬ (t : Int) = (t0 : Int) := by omega
      subst e1
      go_wp2
      go_ret
      exact ⟨by simp, HB.out.trans (K1.out.mono (by omega))⟩
  · have E1 := Go.Lib.hid e1
    have b1 : ((f : Int) == (f0 : Int)) = false := beq_eq_false_iff_ne.2 (by omega)
    have b2 : ¬ (f : Int) = (f0 : Int) := by omega
    go_wp2
    go_ret
    exact ⟨by simp [E1.out], HB.out.trans (K1.out.mono (by omega))⟩
end Go.Proofs.Ytkdhffidkopmcaa
