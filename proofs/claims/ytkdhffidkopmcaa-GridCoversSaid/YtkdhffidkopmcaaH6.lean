/- Layer 12: the reference's Cover (46). -/
import Derived.Test.YtkdhffidkopmcaaH3
namespace Go.Proofs.Ytkdhffidkopmcaa
open Go.RowKit Go.Lib Go.Maps
set_option linter.unusedVariables false

/-- A cell's rectangle lies in an area, if the cell has columns in it. -/
def CellIn (T : Gd.Tb) (x : Ar) (i k : Nat) : Prop := ∀ f t m, Gd.At T i k f t m → f < t → f < x.r → x.l < t → ∀ c, Gd.Bt T f t i c → (⟨Gd.top T f t i, f, c, t⟩ : Ar).Sub x
/-- Where the search stands: at row i, ahead of cell k. -/
def Seek (T : Gd.Tb) (rs : List Gd.Rc) (a x y : Ar) (N i k : Nat) (ch : Bool) : Prop :=
  Ar.Least rs a y ∧ y.In N ∧ (ch = false → y = x ∧ (∀ r c, x.t ≤ r → r < i → CellIn T x r c) ∧ ∀ c, c < k → CellIn T x i c) ∧ (ch = true → y.mu < x.mu)
theorem Seek.start {T : Gd.Tb} {rs : List Gd.Rc} {a x : Ar} {N : Nat} (h : Ar.Least rs a x) (h' : x.In N) : Seek T rs a x x N x.t 0 false :=
  ⟨h, h', fun _ => ⟨rfl, fun r c h1 h2 => by omega, fun c h => absurd h (Nat.not_lt_zero _)⟩, fun h => absurd h Bool.false_ne_true⟩
theorem Seek.skip {T : Gd.Tb} {rs : List Gd.Rc} {a x y : Ar} {N i k : Nat} {ch : Bool} (h : Seek T rs a x y N i k ch) (hc : y = x → CellIn T x i k) : Seek T rs a x y N i (k + 1) ch := by
  obtain ⟨h1, h2, h3, h4⟩ := h
  refine ⟨h1, h2, fun e => ?_, h4⟩
  obtain ⟨p1, p2, p3⟩ := h3 e
  refine ⟨p1, p2, fun c hk => ?_⟩
  by_cases ec : c = k
  · subst ec; exact hc p1
  · exact p3 c (by omega)
theorem Seek.rowEnd {T : Gd.Tb} {rs : List Gd.Rc} {a x y : Ar} {N i : Nat} {L : List Gd.Ce} {ch : Bool} (h : Seek T rs a x y N i L.length ch) (hL : T[i]? = some L) : Seek T rs a x y N (i + 1) 0 ch := by
  obtain ⟨h1, h2, h3, h4⟩ := h
  refine ⟨h1, h2, fun e => ?_, h4⟩
  obtain ⟨p1, p2, p3⟩ := h3 e
  refine ⟨p1, fun r c r1 r2 => ?_, fun c h => absurd h (Nat.not_lt_zero _)⟩
  by_cases er : r = i
  · subst er
    by_cases ec : c < L.length
    · exact p3 c ec
    · intro f t m ⟨L', l1, l2⟩
      rw [hL] at l1; cases l1
      exact absurd (List.getElem?_eq_some_iff.1 l2).1 ec
  · exact p2 r c r1 (by omega)
theorem Seek.join {T : List (List Cl)} {rs : List Gd.Rc} {g : Nat → Nat → Option Nat} {a x y : Ar} {N i k f t c : Nat} {m : Int} {ch : Bool} (hF : Gd.Fin (plT T) rs g) (hN : T.length = N) (hN10 : N ≤ 10) (h : Seek (plT T) rs a x y N i k ch)
    (ha : Gd.At (plT T) i k f t m) (hft : f < t) (hb : Gd.Bt (plT T) f t i c) (hi : y.t ≤ i) (hib : i < y.b) (h1 : f < y.r) (h2 : y.l < t) (hno : ¬ (⟨Gd.top (plT T) f t i, f, c, t⟩ : Ar).Sub y) : Seek (plT T) rs a x (y.join ⟨Gd.top (plT T) f t i, f, c, t⟩) N i (k + 1) true := by
  obtain ⟨p1, p2, p3, p4⟩ := h
  obtain ⟨q, hq, e⟩ := rect_mem hF ha hft hb
  have htl := Gd.top_le (plT T) f t i
  have hov : y.Ov (rAr q) := by
    rw [e]
    exact ⟨show Gd.top (plT T) f t i < y.b by omega, show y.t < c by have := hb.1; omega, h1, h2⟩
  have hin := rAr_in hF hq
  rw [hN] at hin
  have hst := p1.step hq hov
  have hin2 := p2.join hin
  rw [e] at hst hin2
  have hmu := Ar.mu_lt (Ar.Sub.join y ⟨Gd.top (plT T) f t i, f, c, t⟩) (fun e' => hno (Ar.join_self e'.symm)) hN10 hin2
  refine ⟨hst, hin2, fun e => absurd e.symm Bool.false_ne_true, fun _ => ?_⟩
  cases ch with
  | false => have := (p3 rfl).1; rw [this] at hmu; rw [this]; exact hmu
  | true => exact Nat.lt_trans hmu (p4 rfl)
theorem Seek.done {T : List (List Cl)} {rs : List Gd.Rc} {g : Nat → Nat → Option Nat} {a x y : Ar} {N i : Nat} (hF : Gd.Fin (plT T) rs g) (hx : x.In N) (h : Seek (plT T) rs a x y N i 0 false) (hi : ¬ i < y.b) : Ar.Closed rs x ∧ y = x := by
  obtain ⟨_, _, h3, _⟩ := h
  obtain ⟨p1, p2, _⟩ := h3 rfl
  subst p1
  exact ⟨closed_cells hF hx.1 fun r k f t m h1 h2 ha hft hr hl c hb => p2 r k h1 (by omega) f t m ha hft hr hl c hb, rfl⟩

def RCovR (rs : List Gd.Rc) (a : Ar) (N : Nat) (w : World) (e : Ending) (w' : World) : Prop := ∃ c : Ar, e = .returned (.tuple #[.int .i64 (c.t : Nat), .int .i64 (c.l : Nat), .int .i64 (c.b : Nat), .int .i64 (c.r : Nat)]) ∧ Ar.Least rs a c ∧ Ar.Closed rs c ∧ c.In N ∧ Below w.heap.size w w'
theorem results_tmp4' {fn : Func} {t u v x : Tmp} (h : fn.results = #[.tmp t, .tmp u, .tmp v, .tmp x]) (tmps : Array Value) (P : Program) (w : World) :
    (results fn tmps).run P w = .ok (.tuple #[tmps.getD t undef, tmps.getD u undef, tmps.getD v undef, tmps.getD x undef]) w := by simp [results, h]

set_option maxRecDepth 100000 in
set_option maxHeartbeats 16000000 in
theorem rcover_any (T : List (List Cl)) (hT : GoodT T) (A : Option Addr) (N c : Nat) (hN : T.length = N) (hc : N ≤ c ∧ c ≤ maxLen) (rs : List Gd.Rc) (gg : Nat → Nat → Option Nat) (hF : Gd.Fin (plT T) rs gg) (a : Ar) (ha : a.In N) (w : World) (hA : TbAt w A T) :
    Calls Try.prog 46 #[.slice A N c, .int .i64 (a.t : Nat), .int .i64 (a.l : Nat), .int .i64 (a.b : Nat), .int .i64 (a.r : Nat)] w (RCovR rs a N w) := by
  have CP := Go.Lib.hid (fun (i k f t : Nat) (m : Int) (hat : Gd.At (plT T) i k f t m) (hft : f < t) w' (hb : Below w.heap.size w w') => rplace_any T hT A N c hN hc i k f t m hat hft w' (hA.below hb))
  have HST := Go.Lib.hid (show Ar.Least rs a ⟨a.t, a.l, a.b, a.r⟩ ∧ (⟨a.t, a.l, a.b, a.r⟩ : Ar).In N from ⟨Ar.Least.refl rs a, ha⟩)
  have hN10 : N ≤ 10 := by rw [← hN]; exact hT.1
  have HF := Go.Lib.hid hF
  have HN := Go.Lib.hid hN
  have HT := Go.Lib.hid hT
  have HA := Go.Lib.hid hA
  have hc1 := hc.1
  have hc2 := hc.2
  unfold maxLen at hc2
  clear hF hN hT hA hc ha
  obtain ⟨at_, hat⟩ : ∃ x, a.t = x := ⟨_, rfl⟩
  obtain ⟨al, hal⟩ : ∃ x, a.l = x := ⟨_, rfl⟩
  obtain ⟨ab, hab⟩ : ∃ x, a.b = x := ⟨_, rfl⟩
  obtain ⟨ar, har⟩ : ∃ x, a.r = x := ⟨_, rfl⟩
  rw [hat, hal, hab, har] at HST ⊢
  clear hat hal hab har
  have bb0 := Below.refl w.heap.size w
  go_enter Try.func46, Try.ntmps46
  go_wp2_with fail
  go_loopw [1, 2, 3, 4, 14, 15, 16, 17, 18, 19, 20, 21] (fun s1 s2 s3 s4 s14 _ _ _ _ _ _ _ wr => ∃ (xt xl xb xr : Nat) (ch : Bool), s1 = .int .i64 (xt : Nat) ∧ s2 = .int .i64 (xl : Nat) ∧ s3 = .int .i64 (xb : Nat) ∧ s4 = .int .i64 (xr : Nat) ∧ s14 = .bool ch ∧
    Hid (Ar.Least rs a ⟨xt, xl, xb, xr⟩ ∧ (⟨xt, xl, xb, xr⟩ : Ar).In N ∧ (ch = false → Ar.Closed rs ⟨xt, xl, xb, xr⟩)) ∧ Below w.heap.size w wr)
    (fun s1 s2 s3 s4 s14 _ _ _ _ _ _ _ _ => 2 * ((RowKit.intOf s1).toNat + (RowKit.intOf s2).toNat + (10 - (RowKit.intOf s3).toNat) + (32 - (RowKit.intOf s4).toNat)) + (match s14 with | .bool true => 1 | _ => 0))
  case atStart => exact ⟨at_, al, ab, ar, true, rfl, rfl, rfl, rfl, rfl, Go.Lib.hid ⟨HST.out.1, HST.out.2, fun h => absurd h.symm Bool.false_ne_true⟩, bb0⟩
  case round =>
    clear bb0 HST
    obtain ⟨xt, xl, xb, xr, ch, rfl, rfl, rfl, rfl, rfl, HX, hbk⟩ := hrel
    have HBK := Go.Lib.hid hbk
    cases ch with
    | false =>
      clear hbk
      go_wp2
      refine bodyPost_ret (results_tmp4' rfl _ _ _) rfl ⟨⟨xt, xl, xb, xr⟩, rfl, HX.out.1, HX.out.2.2 (by first | rfl | trivial), HX.out.2.1, HBK.out⟩
    | true =>
      have HX1 := Go.Lib.hid HX.out.1
      have HXI := Go.Lib.hid HX.out.2.1
      have HSK := Go.Lib.hid (Seek.start (T := plT T) HX.out.1 HX.out.2.1)
      have hxt : xt ≤ 10 := by have := HX.out.2.1; unfold Ar.In at this; simp only at this; omega
      clear HX
      go_wp2_with fail
      go_loopw [1, 2, 3, 4, 14, 15, 16, 17, 18, 19, 20, 21] (fun s1 s2 s3 s4 s14 s15 _ _ _ _ _ _ wr => ∃ (yt yl yb yr i : Nat) (ch : Bool), s1 = .int .i64 (yt : Nat) ∧ s2 = .int .i64 (yl : Nat) ∧ s3 = .int .i64 (yb : Nat) ∧ s4 = .int .i64 (yr : Nat) ∧ s14 = .bool ch ∧ s15 = .int .i64 (i : Nat) ∧ i ≤ 10 ∧ yt ≤ i ∧
        Hid (Seek (plT T) rs a ⟨xt, xl, xb, xr⟩ ⟨yt, yl, yb, yr⟩ N i 0 ch) ∧ Below w.heap.size w wr)
        (fun _ _ _ _ _ s15 _ _ _ _ _ _ _ => 10 - (RowKit.intOf s15).toNat)
      case atStart => exact ⟨xt, xl, xb, xr, xt, false, rfl, rfl, rfl, rfl, rfl, rfl, hxt, Nat.le_refl _, HSK, hbk⟩
      case round =>
        clear hbk HBK HSK hxt
        obtain ⟨yt, yl, yb, yr, i, ch, rfl, rfl, rfl, rfl, rfl, rfl, hi10, hyt, HS, hbk⟩ := hrel
        have HBK := Go.Lib.hid hbk
        have hyb : yb ≤ N := HS.out.2.1.2.1
        by_cases hlt : i < yb
        · have hiN : i < N := by omega
          have p0 : (0 : Int) ≤ (i : Int) := by omega
          have p1 : (i : Int) < (N : Int) := by omega
          have hiT : i < T.length := by have := HN.out; omega
          obtain ⟨g, o, rfl, hg, hrows⟩ := HA.out.row hiT
          obtain ⟨rl, hrl⟩ : ∃ rl, T[i].length = rl := ⟨_, rfl⟩
          have HRL := Go.Lib.hid hrl
          have HRW := Go.Lib.hid (hrows i hiT)
          have hr40 : rl ≤ 40 := by rw [← hrl]; exact (HT.out.2 _ (List.getElem_mem hiT)).1
          clear hrows hrl
          go_wp2_with fail
          go_loopw [1, 2, 3, 4, 14, 16, 17, 18, 19, 20, 21] (fun s1 s2 s3 s4 s14 s16 _ _ _ _ _ wr => ∃ (yt yl yb yr k : Nat) (ch : Bool), s1 = .int .i64 (yt : Nat) ∧ s2 = .int .i64 (yl : Nat) ∧ s3 = .int .i64 (yb : Nat) ∧ s4 = .int .i64 (yr : Nat) ∧ s14 = .bool ch ∧ s16 = .int .i64 (k : Nat) ∧ k ≤ rl ∧ i < yb ∧ yt ≤ i ∧
            Hid (Seek (plT T) rs a ⟨xt, xl, xb, xr⟩ ⟨yt, yl, yb, yr⟩ N i k ch) ∧ Below w.heap.size w wr)
            (fun _ _ _ _ _ s16 _ _ _ _ _ _ => rl - (RowKit.intOf s16).toNat)
          case atStart => exact ⟨yt, yl, yb, yr, 0, ch, rfl, rfl, rfl, rfl, rfl, rfl, Nat.zero_le _, hlt, hyt, HS, hbk⟩
          case round =>
            clear hbk HBK HS hlt hyt hyb
            obtain ⟨yt, yl, yb, yr, k, ch, rfl, rfl, rfl, rfl, rfl, rfl, hk, hlt, hyt, HS, hbk⟩ := hrel
            have HBK := Go.Lib.hid hbk
            obtain ⟨a1, a2, B, n, cB, D, dn, dc, Y, yn, yc, Ac, kc, c0, c1, c2, c3, c4, c5, h1, h2, hcs⟩ := HRW.out.below hg hbk
            rw [HRL.out] at c5 h1
            by_cases hlt2 : k < rl
            · have q0 : (0 : Int) ≤ (k : Int) := by omega
              have q1 : (k : Int) < (rl : Int) := by omega
              have cSp := span_any T[i] (.slice B n cB) (.int .i64 a1) (.int .i64 a2) (.slice D dn dc) (.slice Y yn yc) Ac rl kc HRL.out (by omega) ⟨h1, h2⟩ k hlt2 wr hcs
              have hsz := hbk.size
              clear hcs h1 h2 hbk
              go_wp2_with fail
              (with_reducible refine cSp.mono ?_)
              rintro e w1 ⟨⟨f, t, m, hx, rfl⟩, k1⟩
              have K1 := Go.Lib.hid (HBK.out.trans (k1.mono hsz))
              have hat := At_of hiT hx
              have HAT := Go.Lib.hid hat
              have hok := hat.ok (plT_ok T)
              clear cSp k1 hx hat c0 c1 c2 c3 c4 c5
              by_cases hft : f = t
              · have b1 : ((f : Int) == (t : Int)) = true := beq_iff_eq.2 (by omega)
                have HNX := Go.Lib.hid (HS.out.skip fun e f' t' m' ha' h1 _ _ => absurd h1 (by obtain ⟨e1, e2, _⟩ := Gd.At.fn HAT.out ha'; omega))
                clear hft
                go_wp2
                go_roundw
                case rel => exact ⟨yt, yl, yb, yr, k + 1, ch, rfl, rfl, rfl, rfl, rfl, by go_num, by omega, hlt, hyt, HNX, K1.out⟩
                case measure => simp [RowKit.intOf]; omega
              · have b1 : ((f : Int) == (t : Int)) = false := beq_eq_false_iff_ne.2 (by omega)
                by_cases hfr : yr ≤ f
                · have HNX := Go.Lib.hid (HS.out.skip fun e f' t' m' ha' h1 h2 _ => by
                    obtain ⟨e1, e2, _⟩ := Gd.At.fn HAT.out ha'
                    have h3 : f' < xr := h2
                    injection e with _ _ _ e4
                    omega)
                  have b2 : decide (yr ≤ f) = true := decide_eq_true hfr
                  clear hft
                  go_wp2
                  go_roundw
                  case rel => exact ⟨yt, yl, yb, yr, k + 1, ch, rfl, rfl, rfl, rfl, rfl, by go_num, by omega, hlt, hyt, HNX, K1.out⟩
                  case measure => simp [RowKit.intOf]; omega
                · have b2 : decide (yr ≤ f) = false := decide_eq_false hfr
                  by_cases htl : t ≤ yl
                  · have HNX := Go.Lib.hid (HS.out.skip fun e f' t' m' ha' h1 _ h2 => by
                      obtain ⟨e1, e2, _⟩ := Gd.At.fn HAT.out ha'
                      have h3 : xl < t' := h2
                      injection e with _ e2' _ _
                      omega)
                    have b3 : decide (t ≤ yl) = true := decide_eq_true htl
                    clear hft
                    go_wp2
                    go_roundw
                    case rel => exact ⟨yt, yl, yb, yr, k + 1, ch, rfl, rfl, rfl, rfl, rfl, by go_num, by omega, hlt, hyt, HNX, K1.out⟩
                    case measure => simp [RowKit.intOf]; omega
                  · have b3 : decide (t ≤ yl) = false := decide_eq_false htl
                    have hflt : f < t := by omega
                    have cP := CP.out i k f t m HAT.out hflt w1 K1.out
                    have HFT := Go.Lib.hid hflt
                    have hs1 := K1.out.size
                    clear hft
                    go_wp2_with fail
                    (with_reducible refine cP.mono ?_)
                    rintro e w2 ⟨⟨p, cc, m', ha', hbt, rfl⟩, k2⟩
                    have KP := Go.Lib.hid (K1.out.trans (k2.mono hs1))
                    have htop := Gd.top_le (plT T) f t i
                    have hcb := hbt.1
                    have HBT := Go.Lib.hid hbt
                    clear cP k2 ha' hbt
                    have HJN := Go.Lib.hid (show (Gd.top (plT T) f t i < yt ∨ yb < cc ∨ f < yl ∨ yr < t) → ∀ z : Ar, (⟨yt, yl, yb, yr⟩ : Ar).join ⟨Gd.top (plT T) f t i, f, cc, t⟩ = z → Seek (plT T) rs a ⟨xt, xl, xb, xr⟩ z N i (k + 1) true from fun hw z hz => by
                      rw [← hz]
                      exact HS.out.join HF.out HN.out hN10 HAT.out HFT.out HBT.out hyt hlt (by show f < yr; omega) (by show yl < t; omega) (fun hs => by
                        obtain ⟨s1, s2, s3, s4⟩ := hs
                        have s1' : yt ≤ Gd.top (plT T) f t i := s1
                        have s2' : yl ≤ f := s2
                        have s3' : cc ≤ yb := s3
                        have s4' : t ≤ yr := s4
                        omega))
                    have HSKIP := Go.Lib.hid (show ¬ (Gd.top (plT T) f t i < yt ∨ yb < cc ∨ f < yl ∨ yr < t) → Seek (plT T) rs a ⟨xt, xl, xb, xr⟩ ⟨yt, yl, yb, yr⟩ N i (k + 1) ch from fun hw => HS.out.skip fun e f' t' m' ha' _ _ _ c' hb' => by
                      obtain ⟨e1, e2, _⟩ := Gd.At.fn HAT.out ha'
                      rw [← e1, ← e2] at hb' ⊢
                      have ec := HBT.out.unique hb'
                      injection e with g1 g2 g3 g4
                      exact ⟨by show xt ≤ Gd.top (plT T) f t i; omega, by show xl ≤ f; omega, by show c' ≤ xb; omega, by show t ≤ xr; omega⟩)
                    generalize Gd.top (plT T) f t i = tp at *
                    clear b1 b2 b3
                    by_cases w0 : tp < yt
                    · have d0 : decide (tp < yt) = true := decide_eq_true w0
                      obtain ⟨nt, hnt⟩ : ∃ m, min yt tp = m := ⟨_, rfl⟩
                      obtain ⟨nl, hnl⟩ : ∃ m, min yl f = m := ⟨_, rfl⟩
                      obtain ⟨nb, hnb⟩ : ∃ m, max yb cc = m := ⟨_, rfl⟩
                      obtain ⟨nr, hnr⟩ : ∃ m, max yr t = m := ⟨_, rfl⟩
                      have e1 := min_cast yt tp
                      have e2 := min_cast yl f
                      have e3 := max_cast yb cc
                      have e4 := max_cast yr t
                      rw [hnt] at e1
                      rw [hnl] at e2
                      rw [hnb] at e3
                      rw [hnr] at e4
                      have HNX := Go.Lib.hid (HJN.out (by omega) ⟨nt, nl, nb, nr⟩ (by rw [← hnt, ← hnl, ← hnb, ← hnr]; rfl))
                      have hb1 : i < nb := by omega
                      have hb2 : nt ≤ i := by omega
                      have HQ := Go.Lib.hid (⟨hnt, hnl, hnb, hnr⟩ : min yt tp = nt ∧ min yl f = nl ∧ max yb cc = nb ∧ max yr t = nr)
                      clear hnt hnl hnb hnr
                      go_wp2
                      go_roundw
                      case rel => exact ⟨nt, nl, nb, nr, k + 1, true, (by first | rfl | (have q := HQ.out; congr 1; omega)), (by first | rfl | (have q := HQ.out; congr 1; omega)), (by first | rfl | (have q := HQ.out; congr 1; omega)), (by first | rfl | (have q := HQ.out; congr 1; omega)), rfl, by go_num, by omega, hb1, hb2, HNX, KP.out⟩
                      case measure => simp [RowKit.intOf]; omega
                    · have d0 : decide (tp < yt) = false := decide_eq_false w0
                      by_cases w1 : yb < cc
                      · have d1 : decide (yb < cc) = true := decide_eq_true w1
                        obtain ⟨nt, hnt⟩ : ∃ m, min yt tp = m := ⟨_, rfl⟩
                        obtain ⟨nl, hnl⟩ : ∃ m, min yl f = m := ⟨_, rfl⟩
                        obtain ⟨nb, hnb⟩ : ∃ m, max yb cc = m := ⟨_, rfl⟩
                        obtain ⟨nr, hnr⟩ : ∃ m, max yr t = m := ⟨_, rfl⟩
                        have e1 := min_cast yt tp
                        have e2 := min_cast yl f
                        have e3 := max_cast yb cc
                        have e4 := max_cast yr t
                        rw [hnt] at e1
                        rw [hnl] at e2
                        rw [hnb] at e3
                        rw [hnr] at e4
                        have HNX := Go.Lib.hid (HJN.out (by omega) ⟨nt, nl, nb, nr⟩ (by rw [← hnt, ← hnl, ← hnb, ← hnr]; rfl))
                        have hb1 : i < nb := by omega
                        have hb2 : nt ≤ i := by omega
                        have HQ := Go.Lib.hid (⟨hnt, hnl, hnb, hnr⟩ : min yt tp = nt ∧ min yl f = nl ∧ max yb cc = nb ∧ max yr t = nr)
                        clear hnt hnl hnb hnr
                        go_wp2
                        go_roundw
                        case rel => exact ⟨nt, nl, nb, nr, k + 1, true, (by first | rfl | (have q := HQ.out; congr 1; omega)), (by first | rfl | (have q := HQ.out; congr 1; omega)), (by first | rfl | (have q := HQ.out; congr 1; omega)), (by first | rfl | (have q := HQ.out; congr 1; omega)), rfl, by go_num, by omega, hb1, hb2, HNX, KP.out⟩
                        case measure => simp [RowKit.intOf]; omega
                      · have d1 : decide (yb < cc) = false := decide_eq_false w1
                        by_cases w2 : f < yl
                        · have d2 : decide (f < yl) = true := decide_eq_true w2
                          obtain ⟨nt, hnt⟩ : ∃ m, min yt tp = m := ⟨_, rfl⟩
                          obtain ⟨nl, hnl⟩ : ∃ m, min yl f = m := ⟨_, rfl⟩
                          obtain ⟨nb, hnb⟩ : ∃ m, max yb cc = m := ⟨_, rfl⟩
                          obtain ⟨nr, hnr⟩ : ∃ m, max yr t = m := ⟨_, rfl⟩
                          have e1 := min_cast yt tp
                          have e2 := min_cast yl f
                          have e3 := max_cast yb cc
                          have e4 := max_cast yr t
                          rw [hnt] at e1
                          rw [hnl] at e2
                          rw [hnb] at e3
                          rw [hnr] at e4
                          have HNX := Go.Lib.hid (HJN.out (by omega) ⟨nt, nl, nb, nr⟩ (by rw [← hnt, ← hnl, ← hnb, ← hnr]; rfl))
                          have hb1 : i < nb := by omega
                          have hb2 : nt ≤ i := by omega
                          have HQ := Go.Lib.hid (⟨hnt, hnl, hnb, hnr⟩ : min yt tp = nt ∧ min yl f = nl ∧ max yb cc = nb ∧ max yr t = nr)
                          clear hnt hnl hnb hnr
                          go_wp2
                          go_roundw
                          case rel => exact ⟨nt, nl, nb, nr, k + 1, true, (by first | rfl | (have q := HQ.out; congr 1; omega)), (by first | rfl | (have q := HQ.out; congr 1; omega)), (by first | rfl | (have q := HQ.out; congr 1; omega)), (by first | rfl | (have q := HQ.out; congr 1; omega)), rfl, by go_num, by omega, hb1, hb2, HNX, KP.out⟩
                          case measure => simp [RowKit.intOf]; omega
                        · have d2 : decide (f < yl) = false := decide_eq_false w2
                          by_cases w3 : yr < t
                          · have d3 : decide (yr < t) = true := decide_eq_true w3
                            obtain ⟨nt, hnt⟩ : ∃ m, min yt tp = m := ⟨_, rfl⟩
                            obtain ⟨nl, hnl⟩ : ∃ m, min yl f = m := ⟨_, rfl⟩
                            obtain ⟨nb, hnb⟩ : ∃ m, max yb cc = m := ⟨_, rfl⟩
                            obtain ⟨nr, hnr⟩ : ∃ m, max yr t = m := ⟨_, rfl⟩
                            have e1 := min_cast yt tp
                            have e2 := min_cast yl f
                            have e3 := max_cast yb cc
                            have e4 := max_cast yr t
                            rw [hnt] at e1
                            rw [hnl] at e2
                            rw [hnb] at e3
                            rw [hnr] at e4
                            have HNX := Go.Lib.hid (HJN.out (by omega) ⟨nt, nl, nb, nr⟩ (by rw [← hnt, ← hnl, ← hnb, ← hnr]; rfl))
                            have hb1 : i < nb := by omega
                            have hb2 : nt ≤ i := by omega
                            have HQ := Go.Lib.hid (⟨hnt, hnl, hnb, hnr⟩ : min yt tp = nt ∧ min yl f = nl ∧ max yb cc = nb ∧ max yr t = nr)
                            clear hnt hnl hnb hnr
                            go_wp2
                            go_roundw
                            case rel => exact ⟨nt, nl, nb, nr, k + 1, true, (by first | rfl | (have q := HQ.out; congr 1; omega)), (by first | rfl | (have q := HQ.out; congr 1; omega)), (by first | rfl | (have q := HQ.out; congr 1; omega)), (by first | rfl | (have q := HQ.out; congr 1; omega)), rfl, by go_num, by omega, hb1, hb2, HNX, KP.out⟩
                            case measure => simp [RowKit.intOf]; omega
                          · have d3 : decide (yr < t) = false := decide_eq_false w3
                            have HNX := Go.Lib.hid (HSKIP.out (by omega))
                            go_wp2
                            go_roundw
                            case rel => exact ⟨yt, yl, yb, yr, k + 1, ch, rfl, rfl, rfl, rfl, rfl, by go_num, by omega, hlt, hyt, HNX, KP.out⟩
                            case measure => simp [RowKit.intOf]; omega
            · obtain rfl : k = rl := by omega
              have HNX := Go.Lib.hid (Seek.rowEnd (L := plR T[i]) (by rw [plR_len, HRL.out]; exact HS.out) (plT_get hiT))
              have hyb : yb ≤ N := HS.out.2.1.2.1
              clear hcs h1 h2 hbk
              go_wp2
              go_roundw
              case rel => exact ⟨yt, yl, yb, yr, i + 1, ch, rfl, rfl, rfl, rfl, rfl, by go_num, by omega, by omega, HNX, HBK.out⟩
              case measure => simp [RowKit.intOf]; omega
        · have hib : decide (i < yb) = false := decide_eq_false hlt
          clear hbk
          cases ch with
          | false =>
            obtain ⟨hcl, he⟩ := HS.out.done HF.out HXI.out hlt
            injection he with e1 e2 e3 e4
            subst e1 e2 e3 e4
            have HE := Go.Lib.hid hcl
            clear hcl
            go_wp2
            go_roundw
            case rel => exact ⟨_, _, _, _, false, rfl, rfl, rfl, rfl, rfl, Go.Lib.hid ⟨HX1.out, HXI.out, fun _ => HE.out⟩, HBK.out⟩
            case measure => simp [RowKit.intOf]
          | true =>
            have hmu := HS.out.2.2.2 rfl
            unfold Ar.mu at hmu
            simp only at hmu
            go_wp2
            go_roundw
            case rel => exact ⟨yt, yl, yb, yr, true, rfl, rfl, rfl, rfl, rfl, Go.Lib.hid ⟨HS.out.1, HS.out.2.1, fun h => absurd h.symm Bool.false_ne_true⟩, HBK.out⟩
            case measure => simp [RowKit.intOf]; omega
end Go.Proofs.Ytkdhffidkopmcaa
