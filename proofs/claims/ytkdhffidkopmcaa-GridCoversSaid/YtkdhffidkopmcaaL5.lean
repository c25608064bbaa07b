/- Layer 12: the law of regular tables (7), walked. -/
import Derived.Test.YtkdhffidkopmcaaR1
import Derived.Deep.QuietTactic
import Derived.BigQuiet
namespace Go.Proofs.Ytkdhffidkopmcaa
open Go.RowKit Go.Lib Go.Maps
set_option linter.unusedVariables false

theorem below_drewN {B : Nat} {a w : World} (h : Below B a w) (n : Nat) : Below B a (w.drewN n) := ⟨h.os, h.tape, h.output, h.size, h.block⟩

set_option maxRecDepth 100000 in
set_option maxHeartbeats 8000000 in
theorem law_regular (A : Option Addr) (N c : Nat) (T : List (List Cl)) (hN : T.length = N) (hc : N ≤ c ∧ c ≤ maxLen) (w : World) (hA : TbAt w A T) : Calls Try.prog 7 #[.slice A N c] w (TrueW w) := by
  have cK := Go.Lib.hid (fun w' => known_any w')
  have cS := Go.Lib.hid (fun w' (hb : Below w.heap.size w w') => small_any T A N c hN hc w' (hA.below hb))
  have HA := Go.Lib.hid hA
  have HN := Go.Lib.hid hN
  have HC := Go.Lib.hid hc
  have hc1 := hc.1
  have hc2 := hc.2
  unfold maxLen at hc2
  clear hA hN hc
  go_enter Try.func7, Try.ntmps7
  go_wp2_with fail
  (with_reducible refine (cK.out _).mono ?_)
  rintro e w1 ⟨rfl, k1⟩
  have s1 := k1.size
  have cs := cS.out w1 k1
  go_wp2_with fail
  (with_reducible refine cs.mono ?_)
  rintro e w2 ⟨⟨b, rfl, hb⟩, k2⟩
  have K2 := Go.Lib.hid (k1.trans (k2.mono s1))
  have s2 := K2.out.size
  clear cs k1 k2
  cases b with
  | false =>
    clear hb
    go_wp2_with fail
    (with_reducible refine (cK.out _).mono ?_)
    rintro e w3 ⟨rfl, k3⟩
    go_wp2
    go_ret
    exact ⟨by simp, K2.out.trans (k3.mono s2)⟩
  | true =>
    have HT := Go.Lib.hid (hb rfl)
    clear hb
    have cR := regular_any T HT.out A N c HN.out HC.out w2 (HA.out.below K2.out)
    have cRR := Go.Lib.hid (fun w' (hb : Below w.heap.size w w') => rregular_any T HT.out A N c HN.out HC.out w' (HA.out.below hb))
    have cRe := Go.Lib.hid (fun w' (hb : Below w.heap.size w w') => rects_any T HT.out A N c HN.out HC.out w' (HA.out.below hb))
    have cC := Go.Lib.hid (fun w' (hb : Below w.heap.size w w') => columns_any T HT.out A N c HN.out HC.out w' (HA.out.below hb))
    have hN10 : N ≤ 10 := by rw [← HN.out]; exact HT.out.1
    have HWL := Go.Lib.hid (show wdt (plT T) ≤ 32 by have := wdt_le T (plT T).length; rwa [List.take_of_length_le (Nat.le_refl _)] at this)
    have HWT := Go.Lib.hid (fun (h : RegP T) => widT_reg h)
    rw [HN.out] at HWT
    generalize wdt (plT T) = wd at *
    go_wp2_with fail
    (with_reducible refine cR.mono ?_)
    rintro e w3 ⟨⟨b, rfl, hb⟩, k3⟩
    have K3 := Go.Lib.hid (K2.out.trans (k3.mono s2))
    have s3 := K3.out.size
    have cr := cRR.out w3 K3.out
    have HB := Go.Lib.hid hb
    clear cR cRR k3 hb
    go_wp2_with fail
    (with_reducible refine cr.mono ?_)
    rintro e w4 ⟨⟨b', rfl, hb'⟩, k4⟩
    have K4 := Go.Lib.hid (K3.out.trans (k4.mono s3))
    have s4 := K4.out.size
    obtain rfl : b = b' := Bool.eq_iff_iff.2 (HB.out.trans hb'.symm)
    have c1 := cRe.out w4 K4.out
    have hbb : (b != b) = false := by simp
    clear cr cRe k4 hb'
    go_wp2_with fail
    (with_reducible refine c1.mono ?_)
    rintro e w5 ⟨rv, rs, f, rfl, hR, hF, hl4, k5⟩
    have K5 := Go.Lib.hid (K4.out.trans (k5.mono s4))
    obtain ⟨rc, rcap, hrv⟩ : ∃ B d, rv = .slice B rs.length d := by
      obtain ⟨_, h | ⟨g, cap, cur, rfl, _⟩⟩ := id hR
      · exact ⟨none, 0, by rw [h.1, h.2]⟩
      · exact ⟨_, _, rfl⟩
    subst hrv
    have HR := Go.Lib.hid hR
    have HF := Go.Lib.hid hF
    obtain ⟨ln, hln⟩ : ∃ ln, rs.length = ln := ⟨_, rfl⟩
    have HLN := Go.Lib.hid hln
    rw [hln] at hl4 ⊢
    clear c1 k5 hR hF hln
    have bb0 := Below.refl w5.heap.size w5
    go_wp2_with fail
    go_loopw [5, 6] (fun s5 s6 wr => ∃ k n : Nat, k ≤ ln ∧ s6 = .int .i64 (k : Nat) ∧ s5 = .int .i64 (n : Nat) ∧ n ≤ 320 * k ∧ Hid (n = Gd.areas (rs.take k)) ∧ Below w5.heap.size w5 wr) (fun _ s6 _ => ln - (RowKit.intOf s6).toNat)
    case atStart => exact ⟨0, 0, Nat.zero_le _, rfl, rfl, Nat.zero_le _, Go.Lib.hid rfl, bb0⟩
    case round =>
      clear bb0
      obtain ⟨k, n, hk, rfl, rfl, hn, HV, hbk⟩ := hrel
      have HBK := Go.Lib.hid hbk
      by_cases hlt : k < ln
      · have r0 : (0 : Int) ≤ (k : Int) := by omega
        have r1 : (k : Int) < (ln : Int) := by omega
        have hkr : k < rs.length := by rw [HLN.out]; exact hlt
        obtain ⟨gr, hgr⟩ : ∃ gr, rc = some ⟨gr, 0, none⟩ := by
          obtain ⟨_, h | ⟨g, cap, cur, he, _⟩⟩ := id HR.out
          · have := h.2; omega
          · injection he with he1; exact ⟨_, he1⟩
        subst hgr
        have hgl := (World.ownsRow.lt HR.out gr rfl).2
        have dd := fun d (hd : d < 6) => (hbk.cell (p := ⟨gr, k * 6 + d, none⟩) hgl).trans ((HR.out.cellAt (k * 6 + d) (by omega)).trans (rcC_get rs k hkr d hd))
        have v2 : wr.cell? ⟨gr, k * 6 + 2, none⟩ = some (.int .i64 (rs[k].row : Nat)) := by have := dd 2 (by omega); simpa [rcV] using this
        have v3 : wr.cell? ⟨gr, k * 6 + 3, none⟩ = some (.int .i64 (rs[k].left : Nat)) := by have := dd 3 (by omega); simpa [rcV] using this
        have v4 : wr.cell? ⟨gr, k * 6 + 4, none⟩ = some (.int .i64 (rs[k].bot : Nat)) := by have := dd 4 (by omega); simpa [rcV] using this
        have v5 : wr.cell? ⟨gr, k * 6 + 5, none⟩ = some (.int .i64 (rs[k].right : Nat)) := by have := dd 5 (by omega); simpa [rcV] using this
        have hal := area_le HF.out HT.out.1 hkr
        have HST := Go.Lib.hid (areas_take hkr)
        generalize rs[k].row = x2 at *
        generalize rs[k].left = x3 at *
        generalize rs[k].bot = x4 at *
        generalize rs[k].right = x5 at *
        obtain ⟨h1, h2, h3, h4, h5⟩ := hal
        obtain ⟨d1, hd1⟩ : ∃ d, x4 - x2 = d := ⟨_, rfl⟩
        obtain ⟨d2, hd2⟩ : ∃ d, x5 - x3 = d := ⟨_, rfl⟩
        rw [hd1, hd2] at h5
        rw [hd1, hd2] at HST
        obtain ⟨p, hp⟩ : ∃ p, d1 * d2 = p := ⟨_, rfl⟩
        rw [hp] at h5
        rw [hp] at HST
        have u1 : IntKind.i64.wrap ((x4 : Int) - (x2 : Int)) = (d1 : Int) := by rw [show (x4 : Int) - (x2 : Int) = (d1 : Int) by omega]; exact IntWalk.i64_in _ (by omega)
        have u2 : IntKind.i64.wrap ((x5 : Int) - (x3 : Int)) = (d2 : Int) := by rw [show (x5 : Int) - (x3 : Int) = (d2 : Int) by omega]; exact IntWalk.i64_in _ (by omega)
        have u3 : IntKind.i64.wrap ((d1 : Int) * (d2 : Int)) = (p : Int) := by rw [show (d1 : Int) * (d2 : Int) = (p : Int) by rw [← hp]; simp]; exact IntWalk.i64_in _ (by omega)
        have u4 : IntKind.i64.wrap ((n : Int) + (p : Int)) = (n : Int) + (p : Int) := IntWalk.i64_in _ (by omega)
        have HNX := Go.Lib.hid (show n + p = Gd.areas (rs.take (k + 1)) by rw [HST.out, ← HV.out])
        have hle : n + p ≤ 320 * (k + 1) := by omega
        have HLE := Go.Lib.hid hle
        clear dd hkr hbk hd1 hd2 hp h1 h2 h3 h4 h5 hle
        go_wp2_with fail
        go_quiet (fail)
        go_wp2
        go_roundw
        case rel => exact ⟨k + 1, n + p, by omega, by go_num, by go_num, HLE.out, HNX, below_drewN HBK.out _⟩
        case measure => simp [RowKit.intOf]; omega
      · obtain rfl : k = ln := by omega
        have HBW := Go.Lib.hid (K5.out.trans (hbk.mono K5.out.size))
        have s6 := HBW.out.size
        have cc := cC.out wr HBW.out
        clear hbk
        cases b with
        | false =>
          clear cc
          go_wp2
          go_ret
          exact ⟨by simp, HBW.out⟩
        | true =>
          have hfin : n = N * wd := by
            have h := HV.out
            rw [List.take_of_length_le (by rw [HLN.out]; exact Nat.le_refl _), HF.out.area, HWT.out (HB.out.1 rfl)] at h
            exact h
          have u1 : IntKind.i64.wrap ((N : Int) * (wd : Int)) = (n : Int) := by rw [show (N : Int) * (wd : Int) = (n : Int) by rw [hfin]; simp]; exact IntWalk.i64_in _ (by omega)
          clear hfin
          go_wp2_with fail
          (with_reducible refine cc.mono ?_)
          rintro e w7 ⟨rfl, k7⟩
          have K7 := Go.Lib.hid (HBW.out.trans (k7.mono s6))
          clear cc k7
          go_wp2
          go_ret
          exact ⟨by simp, K7.out⟩
end Go.Proofs.Ytkdhffidkopmcaa
