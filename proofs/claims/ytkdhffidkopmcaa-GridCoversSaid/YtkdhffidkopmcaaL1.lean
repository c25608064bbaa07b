/- Layer 12: the law of spans (3). -/
import Derived.Test.YtkdhffidkopmcaaK5
namespace Go.Proofs.Ytkdhffidkopmcaa
open Go.RowKit Go.Lib Go.Maps
set_option linter.unusedVariables false

def TrueW (w : World) (e : Ending) (w' : World) : Prop := e = .returned (.bool true) ∧ Below w.heap.size w w'

set_option maxRecDepth 100000 in
set_option maxHeartbeats 8000000 in
theorem law_spans (A : Option Addr) (N c : Nat) (T : List (List Cl)) (hN : T.length = N) (hc : N ≤ c ∧ c ≤ maxLen) (row : Int) (w : World) (hA : TbAt w A T) : Calls Try.prog 3 #[.slice A N c, .int .i64 row] w (TrueW w) := by
  have cK := Go.Lib.hid (fun w' => known_any w')
  have cS := Go.Lib.hid (fun w' (hb : Below w.heap.size w w') => small_any T A N c hN hc w' (hA.below hb))
  have HA := Go.Lib.hid hA
  have HN := Go.Lib.hid hN
  have HC := Go.Lib.hid hc
  have hc1 := hc.1
  have hc2 := hc.2
  unfold maxLen at hc2
  clear hA hN hc
  go_enter Try.func3, Try.ntmps3
  go_wp2_with fail
  (with_reducible refine (cK.out _).mono ?_)
  rintro e w1 ⟨rfl, k1⟩
  have s1 := k1.size
  have cs := cS.out w1 k1
  go_wp2_with fail
  (with_reducible refine cs.mono ?_)
  rintro e w2 ⟨⟨b, rfl, hb⟩, k2⟩
  have K2 := Go.Lib.hid (k1.trans (k2.mono s1))
  have s2 := K2.out.size
  clear cs k1 k2
  cases b with
  | false =>
    clear hb
    go_wp2_with fail
    (with_reducible refine (cK.out _).mono ?_)
    rintro e w3 ⟨rfl, k3⟩
    go_wp2
    go_ret
    exact ⟨by simp, K2.out.trans (k3.mono s2)⟩
  | true =>
    have HT := Go.Lib.hid (hb rfl)
    clear hb
    have c1 := spansAt_any T HT.out A N c HN.out HC.out row w2 (HA.out.below K2.out)
    have cC := Go.Lib.hid (fun w' (hb : Below w.heap.size w w') => columns_any T HT.out A N c HN.out HC.out w' (HA.out.below hb))
    have cW := Go.Lib.hid (fun w' (hb : Below w.heap.size w w') => width_any T HT.out A N c HN.out HC.out w' (HA.out.below hb))
    generalize wdt (plT T) = wd at *
    go_wp2_with fail
    (with_reducible refine c1.mono ?_)
    rintro e w3 ⟨hR, k3⟩
    have K3 := Go.Lib.hid (K2.out.trans (k3.mono s2))
    have s3 := K3.out.size
    have cc := cC.out w3 K3.out
    clear c1 k3
    have hwd : ((wd : Int) != (wd : Int)) = false := by simp
    rcases hR with ⟨hno, rfl⟩ | ⟨i, hi, s, rfl, hsp, rfl⟩
    · by_cases hneg : row < 0
      · clear hno
        go_wp2_with fail
        (with_reducible refine cc.mono ?_)
        rintro e w4 ⟨rfl, k4⟩
        have K4 := Go.Lib.hid (K3.out.trans (k4.mono s3))
        have cw := cW.out w4 K4.out
        have s4 := K4.out.size
        clear cc k4
        go_wp2_with fail
        (with_reducible refine cw.mono ?_)
        rintro e w5 ⟨rfl, k5⟩
        have K5 := Go.Lib.hid (K4.out.trans (k5.mono s4))
        clear cw k5
        go_wp2
        go_ret
        exact ⟨by simp, K5.out⟩
      · have hge : (N : Int) ≤ row := by
          obtain ⟨i, rfl⟩ := Int.eq_ofNat_of_zero_le (show 0 ≤ row by omega)
          have := hno i rfl
          have := HN.out
          omega
        clear hno
        go_wp2_with fail
        (with_reducible refine cc.mono ?_)
        rintro e w4 ⟨rfl, k4⟩
        have K4 := Go.Lib.hid (K3.out.trans (k4.mono s3))
        have cw := cW.out w4 K4.out
        have s4 := K4.out.size
        clear cc k4
        go_wp2_with fail
        (with_reducible refine cw.mono ?_)
        rintro e w5 ⟨rfl, k5⟩
        have K5 := Go.Lib.hid (K4.out.trans (k5.mono s4))
        clear cw k5
        go_wp2
        go_ret
        exact ⟨by simp, K5.out⟩
    · have q0 : (0 : Int) ≤ (i : Int) := by omega
      have q1 : (i : Int) < (N : Int) := by have := HN.out; omega
      have hgr := HT.out.2 _ (List.getElem_mem hi)
      have hl40 := hgr.1
      have HLP := Go.Lib.hid (plR_len T[i])
      obtain ⟨gs, rfl⟩ : ∃ gs, s = .slice (some ⟨gs, 0, none⟩) T[i].length T[i].length := by
        obtain ⟨gs, h1, _⟩ := id hsp
        exact ⟨gs, by rw [h1, HLP.out]⟩
      obtain ⟨ln, hln⟩ : ∃ ln, T[i].length = ln := ⟨_, rfl⟩
      have HLN := Go.Lib.hid hln
      rw [hln] at hl40 hsp ⊢
      have HSP := Go.Lib.hid hsp
      obtain ⟨g, o, rfl, hg, hrows⟩ := HA.out.row hi
      obtain ⟨a1, a2, B, n, cB, D, dn, dc, Y, yn, yc, Ac, kc, d0, d1, d2, d3, d4, d5, g1, g2, hcs⟩ := hrows i hi
      rw [hln] at d5 g1
      have DD := Go.Lib.hid (fun w' (hb : Below w.heap.size w w') => (⟨(hb.cell (p := ⟨g, o + i * 6, none⟩) hg).trans d0, (hb.cell (p := ⟨g, o + i * 6 + 1, none⟩) hg).trans d1, (hb.cell (p := ⟨g, o + i * 6 + 2, none⟩) hg).trans d2, (hb.cell (p := ⟨g, o + i * 6 + 3, none⟩) hg).trans d3, (hb.cell (p := ⟨g, o + i * 6 + 4, none⟩) hg).trans d4, (hb.cell (p := ⟨g, o + i * 6 + 5, none⟩) hg).trans d5⟩ : _ ∧ _ ∧ _ ∧ _ ∧ _ ∧ _))
      have SA := Go.Lib.hid (fun (j : Nat) (hj : j < ln) w' (hb : Below w.heap.size w w') => span_any T[i] (.slice B n cB) (.int .i64 a1) (.int .i64 a2) (.slice D dn dc) (.slice Y yn yc) Ac ln kc hln (by omega) ⟨g1, g2⟩ j hj w' (hcs.below hb))
      clear hgr hln hsp hrows hcs d0 d1 d2 d3 d4 d5 g1
      have hni : ¬ N ≤ i := by omega
      have hni' : ¬ (i : Int) < 0 := by omega
      have lz : (0 : Int) ≤ (ln : Int) := by omega
      have bl : ((ln : Int) != (ln : Int)) = false := by simp
      go_wp2_with fail
      (with_reducible refine cc.mono ?_)
      rintro e w4 ⟨rfl, k4⟩
      have K4 := Go.Lib.hid (K3.out.trans (k4.mono s3))
      have cw := cW.out w4 K4.out
      have s4 := K4.out.size
      have HSP4 := Go.Lib.hid (HSP.out.below k4)
      clear cc k4
      go_wp2_with fail
      (with_reducible refine cw.mono ?_)
      rintro e w5 ⟨rfl, k5⟩
      have k55 := K4.out.trans (k5.mono s4)
      have K5 := Go.Lib.hid k55
      have HSP5 := Go.Lib.hid (HSP4.out.below k5)
      obtain ⟨_, _, _, _, _, y5⟩ := DD.out w5 k55
      clear cw k5
      go_wp2_with fail
      clear y5
      have bb0 := Below.refl w5.heap.size w5
      go_loopw [7, 8, 9] (fun s7 _ _ w6 => ∃ k : Nat, k ≤ ln ∧ s7 = .int .i64 (k : Nat) ∧ Below w5.heap.size w5 w6) (fun s7 _ _ _ => ln - (RowKit.intOf s7).toNat)
      case atStart => exact ⟨0, Nat.zero_le _, rfl, bb0⟩
      case round =>
        clear bb0 k55
        obtain ⟨k, hk, rfl, hbk⟩ := hrel
        have hbw := K5.out.trans (hbk.mono K5.out.size)
        have HBW := Go.Lib.hid hbw
        have HBK := Go.Lib.hid hbk
        by_cases hlt : k < ln
        · have r0 : (0 : Int) ≤ (k : Int) := by omega
          have r1 : (k : Int) < (ln : Int) := by omega
          obtain ⟨y0, y1, y2, y3, y4, y5⟩ := DD.out wr hbw
          have sa := SA.out k hlt wr hbw
          have hs := hbk.size
          clear hbw hbk
          go_wp2_with fail
          (with_reducible refine sa.mono ?_)
          rintro e w7 ⟨⟨f, t, m, hx, rfl⟩, k7⟩
          obtain ⟨gs', he, _, hgs, hcl⟩ := HSP5.out.cells
          injection he with he1 he2 he3
          clear he2 he3
          injection he1 with he1
          injection he1 with he1
          subst he1
          have hkL : k < (plR T[i]).length := (List.getElem?_eq_some_iff.1 hx).1
          obtain ⟨x0, x1⟩ := hcl k hkL
          have hxe := (List.getElem?_eq_some_iff.1 hx).2
          rw [hxe] at x0 x1
          have kk := HBK.out.trans (k7.mono hs)
          have z0 : w7.cell? ⟨gs, k * 2, none⟩ = some (.int .i64 (f : Nat)) := (kk.cell (p := ⟨gs, k * 2, none⟩) hgs).trans x0
          have z1 : w7.cell? ⟨gs, k * 2 + 1, none⟩ = some (.int .i64 (t : Nat)) := (kk.cell (p := ⟨gs, k * 2 + 1, none⟩) hgs).trans x1
          have KK := Go.Lib.hid kk
          have n0 : ((f : Int) != (f : Int)) = false := by simp
          have n1 : ((t : Int) != (t : Int)) = false := by simp
          clear sa y0 y1 y2 y3 y4 y5 hx hcl x0 x1 hxe hkL kk k7
          go_wp2
          go_roundw
          case rel => exact ⟨k + 1, by omega, by go_num, KK.out⟩
          case measure => simp [RowKit.intOf]; omega
        · obtain rfl : k = ln := by omega
          clear hbw hbk
          go_wp2
          go_ret
          exact ⟨by simp, HBW.out⟩
end Go.Proofs.Ytkdhffidkopmcaa
