/- Layer 12: Cover (23) on an area of the grid. -/
import Derived.Test.YtkdhffidkopmcaaH8
import Derived.Test.YtkdhffidkopmcaaH7
import Derived.Sort.LoopGhostIn
namespace Go.Proofs.Ytkdhffidkopmcaa
open Go.RowKit Go.Lib Go.Maps
open Rg (SeqG rangeG2 Kpt OwnT AbT postT)
set_option linter.unusedVariables false
attribute [local go_sem] Oper.semAt_some

def GCovR (T : List (List Cl)) (x : Ar) (N : Nat) (w : World) (e : Ending) (w' : World) : Prop := ∃ (rs : List Gd.Rc) (gg : Nat → Nat → Option Nat) (c : Ar), Gd.Fin (plT T) rs gg ∧ e = .returned (.tuple #[arN c, .int .i64 0]) ∧ Ar.Least rs x c ∧ Ar.Closed rs c ∧ c.In N ∧ Below w.heap.size w w'
/-- What a round of Cover starts with. -/
def ZI (A rc : Option Addr) (N c ln rcap wd : Nat) (t l b r : Int) (rs : List Gd.Rc) (a : Ar) (w : World) (n : Nat) (fr : Act) (W : World) : Prop :=
  ∃ (u7 u9 u11 u51 u52 u53 u54 u55 u56 u57 u58 u59 u60 u61 u62 u63 u64 u65 u66 u67 u68 u69 u70 u71 u72 u73 u74 u75 : Value) (Ds : List Nat) (x : Ar), fr = { tmps := #[.slice A N c, .agg #[.int .i64 t, .int .i64 l, .int .i64 b, .int .i64 r], undef, .pointer (some ⟨w.heap.size, 0, none⟩), .pointer (some ⟨w.heap.size + 1, 0, none⟩), .int .i64 0, .slice rc ln rcap, u7, undef, u9, undef, u11, .pointer (some ⟨w.heap.size, 0, none⟩), .int .i64 t, .bool false, .bool false, .pointer (some ⟨w.heap.size, 2, none⟩), .int .i64 b, .pointer (some ⟨w.heap.size, 0, none⟩), .int .i64 t, .bool false, .bool false, .bool false, .pointer (some ⟨w.heap.size, 2, none⟩), .int .i64 b, .slice A N c, .int .i64 (N : Nat), .bool false, .bool false, .bool false, .pointer (some ⟨w.heap.size, 1, none⟩), .int .i64 l, .bool false, .bool false, .bool false, .pointer (some ⟨w.heap.size, 3, none⟩), .int .i64 r, .pointer (some ⟨w.heap.size, 1, none⟩), .int .i64 l, .bool false, .bool false, .bool false, .pointer (some ⟨w.heap.size, 3, none⟩), .int .i64 r, .slice A N c, .int .i64 (wd : Nat), .bool false, .bool false, undef, .slice A N c, .slice rc ln rcap, u51, u52, u53, u54, u55, u56, u57, u58, u59, u60, u61, u62, u63, u64, u65, u66, u67, u68, u69, u70, u71, u72, u73, u74, u75], defers := Ds.map mkD } ∧ n = x.mu ∧ ObjAt W w.heap.size #[.int .i64 (x.t : Nat), .int .i64 (x.l : Nat), .int .i64 (x.b : Nat), .int .i64 (x.r : Nat)] 48 ∧ ObjAt W (w.heap.size + 1) #[.int .i64 0, .int .i64 0, .int .i64 0, .int .i64 0] 48 ∧
    W.ownsRow w.heap.size 50 6 (.slice rc ln rcap) ln (rcC rs) ∧ Below w.heap.size w W ∧ Marks w.heap.size Ds W ∧ Ar.Least rs a x ∧ x.In N
attribute [local irreducible] wpQuiet in
set_option maxRecDepth 100000 in
set_option maxHeartbeats 16000000 in
theorem gcover_any (T : List (List Cl)) (hT : GoodT T) (A : Option Addr) (N c : Nat) (hN : T.length = N) (hc : N ≤ c ∧ c ≤ maxLen) (t l b r : Int) (a : Ar) (ha : t = (a.t : Nat) ∧ l = (a.l : Nat) ∧ b = (a.b : Nat) ∧ r = (a.r : Nat)) (hi : Ins t l b r N (wdt (plT T)))
    (w : World) (hA : TbAt w A T) :
    Calls Try.prog 23 #[.slice A N c, arV t l b r] w (GCovR T a N w) := by
  unfold arV
  have hB : Below w.heap.size w (w.alloc (.cells #[.int .i64 t, .int .i64 l, .int .i64 b, .int .i64 r] 48)) := (Below.refl _ w).alloc (Nat.le_refl _) _
  have o1 := ObjAt.new w #[.int .i64 t, .int .i64 l, .int .i64 b, .int .i64 r] 48
  have o2 := ObjAt.new (w.alloc (.cells #[.int .i64 t, .int .i64 l, .int .i64 b, .int .i64 r] 48)) #[.int .i64 0, .int .i64 0, .int .i64 0, .int .i64 0] 48
  rw [World.size_alloc] at o2
  have HB := Go.Lib.hid (hB.alloc hB.size (.cells #[.int .i64 0, .int .i64 0, .int .i64 0, .int .i64 0] 48))
  have o1' := o1.alloc (.cells #[.int .i64 0, .int .i64 0, .int .i64 0, .int .i64 0] 48)
  have cW := Go.Lib.hid (fun w' (hb : Below w.heap.size w w') => columns_any T hT A N c hN hc w' (hA.below hb))
  have cR := Go.Lib.hid (fun w' (hb : Below w.heap.size w w') => rects_any T hT A N c hN hc w' (hA.below hb))
  have O1 := Go.Lib.hid o1'
  have O2 := Go.Lib.hid o2
  have hc1 := hc.1
  have hc2 := hc.2
  unfold maxLen at hc2
  have hN10 : N ≤ 10 := by rw [← hN]; exact hT.1
  have hw32 : wdt (plT T) ≤ 32 := by have := wdt_le T (plT T).length; rwa [List.take_of_length_le (Nat.le_refl _)] at this
  have HN := Go.Lib.hid hN
  clear hA hT hN hc o1 o1' o2 hB
  generalize wdt (plT T) = wd at *
  have HI := Go.Lib.hid (⟨hi, hw32⟩ : Ins t l b r N wd ∧ wd ≤ 32)
  have HAI := Go.Lib.hid (show a.In N from by unfold Ins at hi; unfold Ar.In; omega)
  have HAE := Go.Lib.hid ha
  obtain ⟨i0, i1, i2, i3, i4, i5⟩ := hi
  clear ha
  have d0 : decide (t < 0) = false := decide_eq_false (by omega)
  have d1 : decide (b ≤ t) = false := decide_eq_false (by omega)
  have d2 : decide ((N : Int) < b) = false := decide_eq_false (by omega)
  have d3 : decide (l < 0) = false := decide_eq_false (by omega)
  have d4 : decide (r ≤ l) = false := decide_eq_false (by omega)
  have d5 : decide ((wd : Int) < r) = false := decide_eq_false (by omega)
  refine (callsIn_wide (n := 7)).1 ?_
  refine callsIn_of_wp_marks Try.func23 rfl trivial ?_ rfl
  simp only [Try.ntmps23, List.size_toArray, List.length_cons, List.length_nil, Nat.reduceAdd, Nat.reduceSub, Array.replicate_succ, Array.replicate_zero, List.push_toArray, List.append_toArray, List.nil_append, List.cons_append]
  refine wpIn_wide.2 ?_
  go_wp2_with fail
  generalize (w.alloc (.cells #[.int .i64 t, .int .i64 l, .int .i64 b, .int .i64 r] 48)).alloc (.cells #[.int .i64 0, .int .i64 0, .int .i64 0, .int .i64 0] 48) = W at *
  have hsz := HB.out.size
  have y0F : ∀ p : Bw W, p.w.cell? ⟨w.heap.size, 0, none⟩ = some (.int .i64 t) := fun p => (O1.out.below p.h).e0
  have y1F : ∀ p : Bw W, p.w.cell? ⟨w.heap.size, 1, none⟩ = some (.int .i64 l) := fun p => (O1.out.below p.h).e1
  have y2F : ∀ p : Bw W, p.w.cell? ⟨w.heap.size, 2, none⟩ = some (.int .i64 b) := fun p => (O1.out.below p.h).e2
  have y3F : ∀ p : Bw W, p.w.cell? ⟨w.heap.size, 3, none⟩ = some (.int .i64 r) := fun p => (O1.out.below p.h).e3
  refine wp_region_bw (W := W) (by kernel_rfl) (by kernel_rfl) (by first | exact Below.refl _ _ | exact (Below.refl _ _).drew) ?_
  repeat (quiet_step (first
    | (go_at_call 15; exact bw_of (fun p => cW.out p.w (HB.out.trans (p.h.mono hsz))) _)
    | fail))
  refine wpQuiet_nil ?_
  intro w1 hw'
  have kk : Below W.heap.size W w1 := by obtain ⟨p2, rfl⟩ := hw'; exact p2.h
  clear hw' y0F y1F y2F y3F
  have O13 := Go.Lib.hid (O1.out.below kk)
  have O23 := Go.Lib.hid (O2.out.below kk)
  have K1 := Go.Lib.hid (HB.out.trans (kk.mono hsz))
  have s1 := K1.out.size
  have cr := cR.out w1 K1.out
  clear kk d0 d1 d2 d3 d4
  go_wp2_with fail
  (with_reducible refine cr.mono ?_)
  rintro e w3 ⟨rv, rs, f', rfl, hR, hF', hl4, k3⟩
  have HF := Go.Lib.hid hF'
  have K3 := Go.Lib.hid (K1.out.trans (k3.mono s1))
  have O14 := Go.Lib.hid (O13.out.below k3)
  have O24 := Go.Lib.hid (O23.out.below k3)
  obtain ⟨rc, rcap, hrv⟩ : ∃ B d, rv = .slice B rs.length d := by
    obtain ⟨_, h | ⟨g, cap, cur, rfl, _⟩⟩ := id hR
    · exact ⟨none, 0, by rw [h.1, h.2]⟩
    · exact ⟨_, _, rfl⟩
  subst hrv
  have HR := Go.Lib.hid hR
  obtain ⟨ln, hln⟩ : ∃ ln, rs.length = ln := ⟨_, rfl⟩
  have HLN := Go.Lib.hid hln
  rw [hln] at hl4 ⊢
  have hR2 := hR
  rw [hln] at hR2
  have HR2 := Go.Lib.hid (Rg.own_lower hR2 (b' := w.heap.size) K1.out.size)
  clear cr k3 hR hF' hln hR2
  go_wp2_with fail
  refine (wpIn_wide (n := 7)).1 ?_
  refine wpIn_loop_ghost (ZI A rc N c ln rcap wd t l b r rs a w) a.mu ?start ?round
  case start =>
    obtain ⟨e1, e2, e3, e4⟩ := HAE.out
    refine ⟨_, _, _, _, _, _, _, _, _, _, _, _, _, _, _, _, _, _, _, _, _, _, _, _, _, _, _, _, [], a, rfl, rfl, ?_, O24.out, HR2.out, K3.out, ⟨List.nodup_nil, fun D h => by cases h⟩, Ar.Least.refl rs a, HAI.out⟩
    have := O14.out
    rw [e1, e2, e3, e4] at this
    exact this
  case round =>
    clear O1 O2 O13 O23 O14 O24 HB K1 K3 HR HR2 cW cR HAE HAI hsz s1
    rintro n fr W ⟨u7, u9, u11, u51, u52, u53, u54, u55, u56, u57, u58, u59, u60, u61, u62, u63, u64, u65, u66, u67, u68, u69, u70, u71, u72, u73, u74, u75, Ds, x, rfl, rfl, h1, h2, h3, h4, h5, h6, h7⟩
    refine wpIn_wide.2 ?_
    have H1 := Go.Lib.hid h1
    have H2 := Go.Lib.hid h2
    have H3 := Go.Lib.hid h3
    have H4 := Go.Lib.hid h4
    have H5 := Go.Lib.hid h5
    have H67 := Go.Lib.hid (⟨h6, h7⟩ : Ar.Least rs a x ∧ x.In N)
    have HMU := Go.Lib.hid (show x.mu = x.mu from rfl)
    clear h2 h3 h4 h5 h6 h7
    obtain ⟨xt, xl, xb, xr⟩ := x
    dsimp only at h1 H1
    have e0 := h1.e0
    have e1 := h1.e1
    have e2 := h1.e2
    have e3 := h1.e3
    obtain ⟨G, hG⟩ : ∃ G, W.heap.size = G := ⟨_, rfl⟩
    have HG := Go.Lib.hid hG
    have on := ObjAt.new W #[.int .i64 (xt : Nat), .int .i64 (xl : Nat), .int .i64 (xb : Nat), .int .i64 (xr : Nat)] 48
    have bn : Below G W (W.alloc (.cells #[.int .i64 (xt : Nat), .int .i64 (xl : Nat), .int .i64 (xb : Nat), .int .i64 (xr : Nat)] 48)) := (Below.refl _ W).alloc (by omega) _
    rw [hG] at on
    have ST := Go.Lib.hid (⟨on, Grown'.zero rs ⟨xt, xl, xb, xr⟩, H67.out.1, H67.out.2⟩ : ObjAt (W.alloc (.cells #[.int .i64 (xt : Nat), .int .i64 (xl : Nat), .int .i64 (xb : Nat), .int .i64 (xr : Nat)] 48)) G #[.int .i64 (xt : Nat), .int .i64 (xl : Nat), .int .i64 (xb : Nat), .int .i64 (xr : Nat)] 48 ∧ Grown' rs ⟨xt, xl, xb, xr⟩ 0 ⟨xt, xl, xb, xr⟩ ∧ Ar.Least rs a ⟨xt, xl, xb, xr⟩ ∧ (⟨xt, xl, xb, xr⟩ : Ar).In N)
    have BN := Go.Lib.hid bn
    clear on bn h1
    go_wp2_with fail
    clear hG
    go_loopw [9, 54] (fun _ s54 wr => ∃ (k yt yl yb yr : Nat), k ≤ ln ∧ s54 = .int .i64 (k : Nat) ∧ Hid (ObjAt wr G #[.int .i64 (yt : Nat), .int .i64 (yl : Nat), .int .i64 (yb : Nat), .int .i64 (yr : Nat)] 48 ∧ Grown' rs ⟨xt, xl, xb, xr⟩ k ⟨yt, yl, yb, yr⟩ ∧ Ar.Least rs a ⟨yt, yl, yb, yr⟩ ∧ (⟨yt, yl, yb, yr⟩ : Ar).In N) ∧ Hid (Below G W wr)) (fun _ s54 _ => ln - (RowKit.intOf s54).toNat)
    case atStart => exact ⟨0, xt, xl, xb, xr, Nat.zero_le _, rfl, ST, BN⟩
    case round =>
      clear ST BN e0 e1 e2 e3
      obtain ⟨k, yt, yl, yb, yr, hk, rfl, HY, HK⟩ := hrel
      by_cases hlt : k < ln
      · have r0 : (0 : Int) ≤ (k : Int) := by omega
        have r1 : (k : Int) < (ln : Int) := by omega
        have hkr : k < rs.length := by rw [HLN.out]; exact hlt
        obtain ⟨gr, hgr⟩ : ∃ gr, rc = some ⟨gr, 0, none⟩ := by
          obtain ⟨_, h | ⟨g, cap, cur, he, _⟩⟩ := id H3.out
          · have := h.2; omega
          · injection he with he1; exact ⟨_, he1⟩
        subst hgr
        have hgl := (World.ownsRow.lt H3.out gr rfl).2
        rw [HG.out] at hgl
        have dd := fun d (hd : d < 6) => (HK.out.cell (p := ⟨gr, k * 6 + d, none⟩) hgl).trans ((H3.out.cellAt (k * 6 + d) (by omega)).trans (rcC_get rs k hkr d hd))
        have v0 : wr.cell? ⟨gr, k * 6, none⟩ = some (.int .i64 (rs[k].row : Nat)) := by have := dd 0 (by omega); simpa [rcV] using this
        have v1 : wr.cell? ⟨gr, k * 6 + 1, none⟩ = some (.int .i64 (rs[k].cell : Nat)) := by have := dd 1 (by omega); simpa [rcV] using this
        have v2 : wr.cell? ⟨gr, k * 6 + 2, none⟩ = some (.int .i64 (rs[k].row : Nat)) := by have := dd 2 (by omega); simpa [rcV] using this
        have v3 : wr.cell? ⟨gr, k * 6 + 3, none⟩ = some (.int .i64 (rs[k].left : Nat)) := by have := dd 3 (by omega); simpa [rcV] using this
        have v4 : wr.cell? ⟨gr, k * 6 + 4, none⟩ = some (.int .i64 (rs[k].bot : Nat)) := by have := dd 4 (by omega); simpa [rcV] using this
        have v5 : wr.cell? ⟨gr, k * 6 + 5, none⟩ = some (.int .i64 (rs[k].right : Nat)) := by have := dd 5 (by omega); simpa [rcV] using this
        have HNX := Go.Lib.hid (show ∀ z, cov ⟨yt, yl, yb, yr⟩ (rAr rs[k]) = z → Grown' rs ⟨xt, xl, xb, xr⟩ (k + 1) z ∧ Ar.Least rs a z ∧ z.In N from fun z hz => by
          rw [← hz]
          exact ⟨HY.out.2.1.step hkr, cov_least HY.out.2.2.1 (List.getElem_mem hkr), cov_in HY.out.2.2.2 (by have := rAr_in HF.out (List.getElem_mem hkr); rw [HN.out] at this; exact this)⟩)
        have cA := fun w' => acov_any ⟨yt, yl, yb, yr⟩ (rAr rs[k]) w'
        unfold CovR at cA
        obtain ⟨z, hz⟩ : ∃ z, cov ⟨yt, yl, yb, yr⟩ (rAr rs[k]) = z := ⟨_, rfl⟩
        have HZ := Go.Lib.hid (HNX.out z hz)
        rw [hz] at cA
        obtain ⟨zt, zl, zb, zr⟩ := z
        unfold arN rAr at cA
        dsimp only at cA
        have CA := Go.Lib.hid cA
        clear dd hz cA HNX
        generalize rs[k].row = q0 at *
        generalize rs[k].cell = q1 at *
        generalize rs[k].left = q2 at *
        generalize rs[k].bot = q3 at *
        generalize rs[k].right = q4 at *
        have y1 := HY.out.1.alloc (.cells #[.int .i64 (q0 : Nat), .int .i64 (q1 : Nat), .int .i64 (q0 : Nat), .int .i64 (q2 : Nat), .int .i64 (q3 : Nat), .int .i64 (q4 : Nat)] 50)
        have Y1 := Go.Lib.hid y1
        have g0 := y1.e0
        have g1 := y1.e1
        have g2 := y1.e2
        have g3 := y1.e3
        have BA := Go.Lib.hid (HK.out.alloc (by have := HK.out.size; have := HG.out; omega) (.cells #[.int .i64 (q0 : Nat), .int .i64 (q1 : Nat), .int .i64 (q0 : Nat), .int .i64 (q2 : Nat), .int .i64 (q3 : Nat), .int .i64 (q4 : Nat)] 50))
        have ca := CA.out (wr.alloc (.cells #[.int .i64 (q0 : Nat), .int .i64 (q1 : Nat), .int .i64 (q0 : Nat), .int .i64 (q2 : Nat), .int .i64 (q3 : Nat), .int .i64 (q4 : Nat)] 50))
        have sA := BA.out.size
        rw [HG.out] at sA
        clear y1
        go_wp2_with fail
        (with_reducible refine ca.mono ?_)
        rintro e w5 ⟨rfl, k5⟩
        have Y2 := Go.Lib.hid (Y1.out.below k5)
        have K5 := Go.Lib.hid (BA.out.trans (k5.mono sA))
        clear ca k5 g0 g1 g2 g3 v0 v1 v2 v3 v4 v5
        have g0 := Y2.out.e0
        have g1 := Y2.out.e1
        have g2 := Y2.out.e2
        have g3 := Y2.out.e3
        have f0 := Y2.out.frozen 0
        have f1 := Y2.out.frozen 1
        have f2 := Y2.out.frozen 2
        have f3 := Y2.out.frozen 3
        have Y3 := Go.Lib.hid (set4 Y2.out (.int .i64 (zt : Nat)) (.int .i64 (zl : Nat)) (.int .i64 (zb : Nat)) (.int .i64 (zr : Nat)))
        go_wp2
        go_roundw
        case rel => exact ⟨k + 1, zt, zl, zb, zr, by omega, by go_num, Go.Lib.hid ⟨Y3.out, HZ.out⟩, Go.Lib.hid (set4_below (b := G) K5.out (Nat.le_refl _))⟩
        case measure => simp [RowKit.intOf]; omega
      · obtain rfl : ln = k := by omega
        have cB := backF_any rc ln rcap wr
        go_wp2_with fail
        (with_reducible refine cB.mono ?_)
        rintro e w2 ⟨rfl, rfl⟩
        clear cB
        go_wp2_with fail
        have hS1 := HK.out.size
        rw [HG.out] at hS1
        have hWG := H4.out.size
        rw [HG.out] at hWG
        obtain ⟨Bb, hBb⟩ : ∃ Bb, wr.heap.size = Bb := ⟨_, rfl⟩
        have bx := Boxed.new wr 45 (.slice rc ln rcap)
        have hz2 : (wr.alloc (.cells #[.slice rc ln rcap] 45)).heap.size = wr.heap.size + 1 := by simp
        have yG := HY.out.1.alloc (.cells #[.slice rc ln rcap] 45)
        have bW := HK.out.alloc (by omega) (.cells #[.slice rc ln rcap] 45)
        have mW := (H5.out.below (by rw [HG.out]; exact HK.out)).alloc (.cells #[.slice rc ln rcap] 45)
        have hMl : ∀ D ∈ Ds, D < G := fun D hD => by have := H5.out.lt D hD; rw [HG.out] at this; exact this
        generalize wr.alloc (.cells #[.slice rc ln rcap] 45) = W2 at *
        rw [hBb] at bx hz2 ⊢
        have hGB : G < Bb := by have := HY.out.1.lt; omega
        clear hBb
        obtain ⟨PZ, hPZ⟩ : ∃ P : Ar → Prop, P = fun z => (⟨yt, yl, yb, yr⟩ : Ar).Sub z ∧ Ar.Least rs a z ∧ z.In N := ⟨_, rfl⟩
        have HPZ := Go.Lib.hid hPZ
        have hP0 : PZ ⟨yt, yl, yb, yr⟩ := by rw [hPZ]; exact ⟨Ar.Sub.refl _, HY.out.2.2⟩
        clear hPZ
        refine (wpIn_wide (n := 7)).1 ?_
        refine rangeG2 (T := TZ) (Bs := Bb) (G := fun V => Below G W V) rfl (by decide) (enc1 := fun x => .int .i64 (x.1 : Nat)) (enc2 := fun x => rcAgg x.2) (gf := 67) (lb := #[.pointer (some ⟨Bb, 0, none⟩)]) rfl trivial (enters_of Try.func67 (by kernel_rfl) rfl)
          (by omega) (back_any 6 (by decide) Bb rc ln rcap rs HLN.out (by omega) G w.heap.size W W2 (Nat.le_of_eq HG.out) H3.out bx)
          (fun (pre : List (Nat × Gd.Rc)) V => (∃ z : Ar, ObjAt V G #[.int .i64 (z.t : Nat), .int .i64 (z.l : Nat), .int .i64 (z.b : Nat), .int .i64 (z.r : Nat)] 48 ∧ PZ z) ∧ Below G W V ∧ Marks w.heap.size Ds V) (fun _ _ _ => False)
          (fun _ V h => h.2.1)
          (OwnT.and (own_area rfl (fun _ z => PZ z)) (OwnT.and (OwnT.below (Nat.le_of_eq HG.out.symm) (by omega)) (own_marks (fun D hD => by have := hMl D hD; omega)))) (fun _ _ _ _ _ hs _ _ => hs)
          ⟨⟨⟨yt, yl, yb, yr⟩, yG, hP0⟩, bW, mW⟩ ?inner ?done ?stop
        case stop =>
          rintro D c pre V _ _ h _
          exact h.elim
        case inner =>
          clear yG bW mW bx hP0
          rintro ll pre x' V ⟨⟨z, hz, hp⟩, hB, hM⟩ hlt' hSp hl hlV
          obtain ⟨xi, q⟩ := x'
          have hqrs : q ∈ rs := hSp (xi, q) (by simp)
          obtain ⟨q0, q1, q2, q3, q4⟩ := q
          have hBz := hB.size
          rw [HG.out] at hBz
          unfold rcAgg
          dsimp only
          have HP := Go.Lib.hid hp
          gi_wp2
          refine ⟨(KeepsOthers.alloc _ _).from _, Kpt.alloc (by omega) _, ⟨⟨z, hz.alloc _, HP.out⟩, hB.alloc (by omega) _, hM.alloc _⟩, ?_⟩
          rintro V' hg ⟨⟨z', hz', hp'⟩, hB', hM'⟩
          have hVs := hg.size
          simp only [World.size_alloc] at hVs
          have hc0 : V'.cell? ⟨V.heap.size, 0, none⟩ = some (.int .i64 (q0 : Nat)) := hg.cell (by simp) (fun e => by simp at e; omega)
          have hc1 : V'.cell? ⟨V.heap.size, 1, none⟩ = some (.int .i64 (q1 : Nat)) := hg.cell (by simp) (fun e => by simp at e; omega)
          have hc2 : V'.cell? ⟨V.heap.size, 2, none⟩ = some (.int .i64 (q0 : Nat)) := hg.cell (by simp) (fun e => by simp at e; omega)
          have hc3 : V'.cell? ⟨V.heap.size, 3, none⟩ = some (.int .i64 (q2 : Nat)) := hg.cell (by simp) (fun e => by simp at e; omega)
          have hc4 : V'.cell? ⟨V.heap.size, 4, none⟩ = some (.int .i64 (q3 : Nat)) := hg.cell (by simp) (fun e => by simp at e; omega)
          have hc5 : V'.cell? ⟨V.heap.size, 5, none⟩ = some (.int .i64 (q4 : Nat)) := hg.cell (by simp) (fun e => by simp at e; omega)
          obtain ⟨zt, zl, zb, zr⟩ := z'
          dsimp only at hz'
          have g0 := hz'.e0
          have g1 := hz'.e1
          have g2 := hz'.e2
          have g3 := hz'.e3
          have HZ' := Go.Lib.hid hz'
          have HB' := Go.Lib.hid hB'
          have HM' := Go.Lib.hid hM'
          have hV' : G ≤ V'.heap.size := by omega
          have hVB : Bb < V'.heap.size := by omega
          have ca := acov_any ⟨zt, zl, zb, zr⟩ (rAr ⟨q0, q1, q2, q3, q4⟩) V'
          unfold CovR at ca
          have HPN := Go.Lib.hid (show PZ (cov ⟨zt, zl, zb, zr⟩ (rAr ⟨q0, q1, q2, q3, q4⟩)) by
            rw [HPZ.out] at hp' ⊢
            exact ⟨hp'.1.trans (cov_sub _ _), cov_least hp'.2.1 hqrs, cov_in hp'.2.2 (by have := rAr_in HF.out hqrs; rw [HN.out] at this; exact this)⟩)
          generalize cov ⟨zt, zl, zb, zr⟩ (rAr ⟨q0, q1, q2, q3, q4⟩) = nz at ca HPN
          obtain ⟨nt, nl, nb, nr⟩ := nz
          unfold arN rAr at ca
          dsimp only at ca
          clear hz hp hB hM hg hz' hB' hM' hp' hSp hqrs
          gi_wp2_with (refine ⟨trivial, ?_⟩; gi_at_call 44; (with_reducible refine (CallsIn.inRound ll (callsIn_wide.2 ca)).mono ?_); rintro e w5 ⟨rfl, k5⟩; have Y2 := HZ'.out.below k5; have k0 := Y2.e0; have k1 := Y2.e1; have k2 := Y2.e2; have k3 := Y2.e3; have f0 := Y2.frozen 0; have f1 := Y2.frozen 1; have f2 := Y2.frozen 2; have f3 := Y2.frozen 3)
          have hw5 := k5.size
          refine ⟨(Rg.keeps_below k5).trans ((keeps_set4 _ G _ _ _ _).from _), (Rg.kpt_below hVB k5).trans (kpt_set4 (by omega) Y2 (by omega) rfl), ⟨⟨⟨nt, nl, nb, nr⟩, set4 Y2 _ _ _ _, HPN.out⟩, set4_below (b := G) (HB'.out.trans (k5.mono hV')) (Nat.le_refl _), marks_set4 (HM'.out.below k5) Y2 _ _ _ _⟩⟩
        case done =>
          clear yG bW mW bx hP0
          rintro D xs V hD hxs ⟨⟨z, hz, hp⟩, hB, hM'⟩ hK
          clear hxs
          have hbx := H1.out.below (by rw [HG.out]; exact hB)
          have hb2 := H2.out.below (by rw [HG.out]; exact hB)
          have hro := own_below H3.out (by rw [HG.out]; exact hB)
          have HHB := Go.Lib.hid (H4.out.trans (hB.mono hWG))
          have hDn : D ∉ Ds := fun h => by have := hMl D h; omega
          have HMK := Go.Lib.hid (hM'.snoc (by omega) hK hDn)
          rw [HPZ.out] at hp
          have HP := Go.Lib.hid hp
          obtain ⟨zt, zl, zb, zr⟩ := z
          dsimp only at hz
          have g0 := hz.e0
          have g1 := hz.e1
          have g2 := hz.e2
          have g3 := hz.e3
          have b0 := hbx.e0
          have b1 := hbx.e1
          have b2 := hbx.e2
          have b3 := hbx.e3
          have HBX := Go.Lib.hid hbx
          have HB2 := Go.Lib.hid hb2
          have HRO := Go.Lib.hid hro
          have hGb : G ≠ w.heap.size := by have := H1.out.lt; have := HG.out; omega
          have HZV := Go.Lib.hid hz
          clear hz hp hM' hK hbx hb2 hro hB
          by_cases heq : (⟨zt, zl, zb, zr⟩ : Ar) = ⟨xt, xl, xb, xr⟩
          · injection heq with q1 q2 q3 q4
            subst q1 q2 q3 q4
            have c0 := HB2.out.e0
            have c1 := HB2.out.e1
            have c2 := HB2.out.e2
            have c3 := HB2.out.e3
            have f0 := HB2.out.frozen 0
            have f1 := HB2.out.frozen 1
            have f2 := HB2.out.frozen 2
            have f3 := HB2.out.frozen 3
            have hyx := HP.out.1.anti HY.out.2.1.1
            have hcl : Ar.Closed rs ⟨zt, zl, zb, zr⟩ := Grown'.closed (y := ⟨yt, yl, yb, yr⟩) (by rw [HLN.out]; exact HY.out.2.1) hyx
            have HCL := Go.Lib.hid hcl
            clear hyx hcl
            go_wp2
            refine leaves_marks (lo := w.heap.size) (fun U => Below w.heap.size w U ∧ ObjAt U (w.heap.size + 1) #[.int .i64 (zt : Nat), .int .i64 (zl : Nat), .int .i64 (zb : Nat), .int .i64 (zr : Nat)] 48) ?_ ?_ (D :: Ds) _ ⟨set4_below (b := w.heap.size + 1) HHB.out (Nat.le_add_right _ _), set4 HB2.out _ _ _ _⟩ (marks_set4 HMK.out HB2.out _ _ _ _)
            · rintro U D' ⟨k1, k2⟩ hD' hK'
              exact ⟨below_putM k1 hD' _, obj_putM k2 hK' rfl⟩
            · rintro U ⟨k1, k2⟩
              have t0 := k2.e0
              have t1 := k2.e1
              have t2 := k2.e2
              have t3 := k2.e3
              exact ⟨.tuple #[arN ⟨zt, zl, zb, zr⟩, .int .i64 0], by unfold arN; simp [results, Try.results23, go_sem, t0, t1, t2, t3], rs, f', ⟨zt, zl, zb, zr⟩, HF.out, rfl, HP.out.2.1, HCL.out, HP.out.2.2, k1⟩
          · have f0 := HBX.out.frozen 0
            have f1 := HBX.out.frozen 1
            have f2 := HBX.out.frozen 2
            have f3 := HBX.out.frozen 3
            have HMV := Go.Lib.hid (HMK.out)
            have FIN := Go.Lib.hid (show ∀ U : World, U = (((V.setCell ⟨w.heap.size, 0, none⟩ (.int .i64 (zt : Nat))).setCell ⟨w.heap.size, 1, none⟩ (.int .i64 (zl : Nat))).setCell ⟨w.heap.size, 2, none⟩ (.int .i64 (zb : Nat))).setCell ⟨w.heap.size, 3, none⟩ (.int .i64 (zr : Nat)) →
                (⟨zt, zl, zb, zr⟩ : Ar).mu < (⟨xt, xl, xb, xr⟩ : Ar).mu ∧ ObjAt U w.heap.size #[.int .i64 (zt : Nat), .int .i64 (zl : Nat), .int .i64 (zb : Nat), .int .i64 (zr : Nat)] 48 ∧ ObjAt U (w.heap.size + 1) #[.int .i64 0, .int .i64 0, .int .i64 0, .int .i64 0] 48 ∧
                U.ownsRow w.heap.size 50 6 (.slice rc ln rcap) ln (rcC rs) ∧ Below w.heap.size w U ∧ Marks w.heap.size (D :: Ds) U ∧ Ar.Least rs a ⟨zt, zl, zb, zr⟩ ∧ (⟨zt, zl, zb, zr⟩ : Ar).In N from fun U hU => by
              subst hU
              refine ⟨Ar.mu_lt (HY.out.2.1.1.trans HP.out.1) (fun e => heq e.symm) hN10 HP.out.2.2, set4 HBX.out _ _ _ _, obj_other4 HB2.out (by omega) _ _ _ _, own_set4 HRO.out (own_ne HBX.out HRO.out (by decide)) _ _ _ _, set4_below (b := w.heap.size) HHB.out (Nat.le_refl _), marks_set4 HMV.out HBX.out _ _ _ _, HP.out.2.1, HP.out.2.2⟩)
            clear HMV
            by_cases q1 : zt = xt
            · obtain rfl : xt = zt := q1.symm
              by_cases q2 : zl = xl
              · obtain rfl : xl = zl := q2.symm
                by_cases q3 : zb = xb
                · obtain rfl : xb = zb := q3.symm
                  have q4 : ¬ (zr : Int) = (xr : Int) := fun h => heq (by rw [show zr = xr by omega])
                  clear heq
                  go_wp2_with fail
                  obtain ⟨k1, k2, k3, k4, k5, k6, k7, k8⟩ := FIN.out _ rfl
                  exact ⟨_, k1, _, _, _, _, _, _, _, _, _, _, _, _, _, _, _, _, _, _, _, _, _, _, _, _, _, _, _, _, D :: Ds, ⟨_, _, _, _⟩, rfl, rfl, k2, k3, k4, k5, k6, k7, k8⟩
                · have q5 : ¬ (zb : Int) = (xb : Int) := by omega
                  clear heq
                  go_wp2_with fail
                  obtain ⟨k1, k2, k3, k4, k5, k6, k7, k8⟩ := FIN.out _ rfl
                  exact ⟨_, k1, _, _, _, _, _, _, _, _, _, _, _, _, _, _, _, _, _, _, _, _, _, _, _, _, _, _, _, _, D :: Ds, ⟨_, _, _, _⟩, rfl, rfl, k2, k3, k4, k5, k6, k7, k8⟩
              · have q5 : ¬ (zl : Int) = (xl : Int) := by omega
                clear heq
                go_wp2_with fail
                obtain ⟨k1, k2, k3, k4, k5, k6, k7, k8⟩ := FIN.out _ rfl
                exact ⟨_, k1, _, _, _, _, _, _, _, _, _, _, _, _, _, _, _, _, _, _, _, _, _, _, _, _, _, _, _, _, D :: Ds, ⟨_, _, _, _⟩, rfl, rfl, k2, k3, k4, k5, k6, k7, k8⟩
            · have q5 : ¬ (zt : Int) = (xt : Int) := by omega
              clear heq
              go_wp2_with fail
              obtain ⟨k1, k2, k3, k4, k5, k6, k7, k8⟩ := FIN.out _ rfl
              exact ⟨_, k1, _, _, _, _, _, _, _, _, _, _, _, _, _, _, _, _, _, _, _, _, _, _, _, _, _, _, _, _, D :: Ds, ⟨_, _, _, _⟩, rfl, rfl, k2, k3, k4, k5, k6, k7, k8⟩
end Go.Proofs.Ytkdhffidkopmcaa
