/- Layer 12: lay (40), Rects (18). -/
import Derived.Test.YtkdhffidkopmcaaB3
namespace Go.Proofs.Ytkdhffidkopmcaa
open Go.RowKit Go.Lib Go.Maps
set_option linter.unusedVariables false

/-- What has been laid, of the whole table. -/
def LayR (T : Gd.Tb) (rows : Value) (w : World) (e : Ending) (w' : World) : Prop := ∃ tb rs f, e = .returned (.pointer (some ⟨tb, 0, none⟩)) ∧ LyAt w' w.heap.size tb rows rs f 1000 ∧ Gd.Fin T rs f ∧ rs.length ≤ 400 ∧ Below w.heap.size w w'
theorem sp_empty (f t : Nat) (w : World) : Calls Try.prog 48 #[spanV f t] w fun e w' => e = .returned (.bool (decide (f = t))) ∧ Below w.heap.size w w' := by
  unfold spanV
  by_cases h : f = t
  · subst h
    go_enter Try.func48, Try.ntmps48
    go_wp2
    go_ret
    exact ⟨by simp, (Below.refl _ w).alloc (Nat.le_refl _) _⟩
  · have b1 : ((f : Int) == (t : Int)) = false := beq_eq_false_iff_ne.2 (by omega)
    have H := Go.Lib.hid h
    clear h
    go_enter Try.func48, Try.ntmps48
    go_wp2
    go_ret
    exact ⟨by simp [H.out], (Below.refl _ w).alloc (Nat.le_refl _) _⟩
theorem LyAt.below {w w' : World} {base tb : Nat} {rows : Value} {rs : List Gd.Rc} {f : Nat → Nat → Option Nat} {cnt : Nat} (h : LyAt w base tb rows rs f cnt) (hb : Below w.heap.size w w') : LyAt w' base tb rows rs f cnt := by
  obtain ⟨rv, mb, n, h1, h2, h3, h4, h5, h6⟩ := h
  exact ⟨rv, mb, n, h1.below hb, own_below h2 hb, sq_below h3 hb, h4, h5, h6⟩
theorem LyAt.mono {w : World} {base tb : Nat} {rows : Value} {rs : List Gd.Rc} {f : Nat → Nat → Option Nat} {cnt cnt' : Nat} (h : LyAt w base tb rows rs f cnt) (hc : cnt ≤ cnt') : LyAt w base tb rows rs f cnt' := by
  obtain ⟨rv, mb, n, h1, h2, h3, h4, h5, h6⟩ := h
  exact ⟨rv, mb, n, h1, h2, h3, Nat.le_trans h4 hc, h5, h6⟩
theorem SpAt.keep {w w' : World} {b : Nat} {s : Value} {L : List Gd.Ce} (h : SpAt w b s L) (hk : Keep w w') : SpAt w' b s L := by
  obtain ⟨g, h1, h2, cs, hb, h3⟩ := h
  exact ⟨g, h1, h2, cs, hk _ _ _ _ hb (by decide) (by decide), h3⟩
theorem fI_none : fI (fun _ _ => none) = fun _ _ => none := by funext r c; unfold fI; split <;> rfl

set_option maxRecDepth 100000 in
set_option maxHeartbeats 8000000 in
theorem lay_any (T : List (List Cl)) (hT : GoodT T) (A : Option Addr) (N c : Nat) (hN : T.length = N) (hc : N ≤ c ∧ c ≤ maxLen) (w : World) (hA : TbAt w A T) :
    Calls Try.prog 40 #[.slice A N c] w (LayR (plT T) (.slice A N c) w) := by
  have hmk := @run_makeMap Try.prog
  have hB : Below w.heap.size w ((w.alloc (.map #[] 0)).alloc (.cells #[.slice A N c, .slice none 0 0, .map (some w.heap.size)] 83)) := ((Below.refl _ w).alloc (Nat.le_refl _) _).alloc (by simp) _
  have hsz : (w.alloc (.map #[] 0)).heap.size = w.heap.size + 1 := by simp
  have o1 := ObjAt.new (w.alloc (.map #[] 0)) #[.slice A N c, .slice none 0 0, .map (some w.heap.size)] 83
  rw [hsz] at o1
  have s1 : SqAt ((w.alloc (.map #[] 0)).alloc (.cells #[.slice A N c, .slice none 0 0, .map (some w.heap.size)] 83)) w.heap.size 0 (fI (fun _ _ => none)) := by
    rw [fI_none]; exact sq_below (sq_new w) ((Below.refl _ _).alloc (Nat.le_refl _) _)
  have L0 : LyAt ((w.alloc (.map #[] 0)).alloc (.cells #[.slice A N c, .slice none 0 0, .map (some w.heap.size)] 83)) w.heap.size (w.heap.size + 1) (.slice A N c) [] (fun _ _ => none) 0 :=
    ⟨_, _, 0, o1, World.ownsRow_nil _ _ _ _, s1, Nat.le_refl _, by omega, Nat.le_refl _⟩
  have HB := Go.Lib.hid hB
  have HL := Go.Lib.hid L0
  have HA := Go.Lib.hid hA
  have HT := Go.Lib.hid hT
  have HN := Go.Lib.hid hN
  have HC := Go.Lib.hid hc
  have hc1 := hc.1
  have hc2 := hc.2
  unfold maxLen at hc2
  have hN10 : N ≤ 10 := by rw [← hN]; exact hT.1
  clear hB o1 s1 L0 hA hT hN hc hsz
  have HG := Go.Lib.hid (Gd.Inv.start (plT T))
  go_enter Try.func40, Try.ntmps40
  go_wp2_with fail
  generalize ((w.alloc (.map #[] 0)).alloc (.cells #[.slice A N c, .slice none 0 0, .map (some w.heap.size)] 83)) = W at *
  have HSZ := Go.Lib.hid HB.out.size
  go_loopw [13] (fun s13 wr => ∃ (R : Nat) (rs : List Gd.Rc) (f : Nat → Nat → Option Nat), R ≤ N ∧ s13 = .int .i64 (R : Nat) ∧ rs.length ≤ R * 40 ∧ Hid (LyAt wr w.heap.size (w.heap.size + 1) (.slice A N c) rs f (R * 40) ∧ Gd.Inv (plT T) R 0 rs f ∧ Below w.heap.size w wr)) (fun s13 _ => N - (RowKit.intOf s13).toNat)
  case atStart => exact ⟨0, [], _, Nat.zero_le _, rfl, Nat.zero_le _, Go.Lib.hid ⟨HL.out, HG.out, HB.out⟩⟩
  case round =>
    obtain ⟨R, rs, f, hR, rfl, hrs, HX⟩ := hrel
    by_cases hlt : R < N
    · have q0 : (0 : Int) ≤ (R : Int) := by omega
      have q1 : (R : Int) < (N : Int) := by omega
      have hRT : R < T.length := by have := HN.out; omega
      obtain ⟨g, o, rfl, hg, hrows⟩ := HA.out.row hRT
      obtain ⟨a1, a2, B, n, cB, D, dn, dc, Y, yn, yc, Ac, kc, c0, c1, c2, c3, c4, c5, g1, g2, hcs⟩ := (hrows R hRT).below hg HX.out.2.2
      have hgr := HT.out.2 _ (List.getElem_mem hRT)
      have cS := spans_any T[R] hgr (.slice B n cB) (.int .i64 a1) (.int .i64 a2) (.slice D dn dc) (.slice Y yn yc) Ac _ kc rfl ⟨g1, g2⟩ wr hcs
      have hl40 := hgr.1
      have HPL := Go.Lib.hid (plT_get hRT)
      have hln := plR_len T[R]
      clear hrows hcs g1 g2 hgr
      obtain ⟨ln, hlne⟩ : ∃ ln, T[R].length = ln := ⟨_, rfl⟩
      rw [hlne] at c5 cS hl40 hln
      have HLN := Go.Lib.hid hln
      generalize plR T[R] = L at *
      go_wp2_with fail
      (with_reducible refine cS.mono ?_)
      rintro e w1 ⟨s, rfl, hs, k1⟩
      clear cS c0 c1 c2 c3 c4 c5 hlne hln
      have HX1 := Go.Lib.hid (show LyAt w1 w.heap.size (w.heap.size + 1) (.slice (some ⟨g, o, none⟩) N c) rs f (R * 40) ∧ Gd.Inv (plT T) R 0 rs f ∧ Below w.heap.size w w1 from ⟨HX.out.1.below k1, HX.out.2.1, HX.out.2.2.trans (k1.mono HX.out.2.2.size)⟩)
      obtain ⟨gs, rfl⟩ : ∃ gs, s = .slice (some ⟨gs, 0, none⟩) ln ln := by
        obtain ⟨gs, h1, _⟩ := id hs
        exact ⟨gs, by rw [h1, HLN.out]⟩
      have HS := Go.Lib.hid hs
      clear hs k1
      have hlz : (0 : Int) ≤ (ln : Int) := by omega
      go_wp2_with fail
      go_loopw [22] (fun s22 w5 => ∃ (k : Nat) (rs' : List Gd.Rc) (f' : Nat → Nat → Option Nat), k ≤ ln ∧ s22 = .int .i64 (k : Nat) ∧ rs'.length ≤ R * 40 + k ∧ Hid (LyAt w5 w.heap.size (w.heap.size + 1) (.slice (some ⟨g, o, none⟩) N c) rs' f' (R * 40 + k) ∧ Gd.Inv (plT T) R k rs' f' ∧ Below w.heap.size w w5 ∧ ∃ b0, SpAt w5 b0 (.slice (some ⟨gs, 0, none⟩) ln ln) L)) (fun s22 _ => ln - (RowKit.intOf s22).toNat)
      case atStart => exact ⟨0, rs, f, Nat.zero_le _, rfl, by omega, Go.Lib.hid ⟨HX1.out.1, HX1.out.2.1, HX1.out.2.2, _, HS.out⟩⟩
      case round =>
        clear HX1 HS HX
        obtain ⟨k, rs', f', hk, rfl, hrs', HY⟩ := hrel
        by_cases hlt2 : k < ln
        · have p0 : (0 : Int) ≤ (k : Int) := by omega
          have p1 : (k : Int) < (ln : Int) := by omega
          have hkL : k < L.length := by rw [HLN.out]; exact hlt2
          obtain ⟨b0, hsp⟩ := HY.out.2.2.2
          obtain ⟨gs', he, _, hgs, hcl⟩ := hsp.cells
          injection he with he1 he2 he3
          clear he2 he3
          injection he1 with he1
          injection he1 with he1
          subst he1
          obtain ⟨d0, d1⟩ := hcl k hkL
          have hat : Gd.At (plT T) R k L[k].1 L[k].2.1 L[k].2.2 := ⟨L, HPL.out, List.getElem?_eq_getElem hkL⟩
          have HAT := Go.Lib.hid hat
          have hok := hat.ok (plT_ok T)
          generalize hx1 : L[k].1 = fr at *
          generalize hx2 : L[k].2.1 = to at *
          generalize L[k].2.2 = m at *
          have HSP := Go.Lib.hid hsp
          have cE := Go.Lib.hid (fun w' => sp_empty fr to w')
          unfold spanV at cE
          clear hcl hsp hat hx1 hx2
          by_cases hft : fr = to
          · have HE := Go.Lib.hid hft
            rw [decide_eq_true hft] at cE
            clear hft
            go_wp2_with fail
            (with_reducible refine (cE.out _).mono ?_)
            rintro e w2 ⟨rfl, k2⟩
            have kk : Below wr.heap.size wr w2 := ((Below.refl _ wr).alloc (Nat.le_refl _) _).trans (k2.mono (by simp))
            have KK := Go.Lib.hid kk
            clear k2 kk cE
            go_wp2
            go_roundw
            case rel => exact ⟨k + 1, rs', f', by omega, by go_num, by omega, Go.Lib.hid ⟨(HY.out.1.below KK.out).mono (by omega), HY.out.2.1.skip (by have := HAT.out; rw [← HE.out] at this; exact this), HY.out.2.2.1.trans (KK.out.mono HY.out.2.2.1.size), b0, HSP.out.below KK.out⟩⟩
            case measure => simp [RowKit.intOf]; omega
          · have hlt3 : fr < to := by omega
            rw [decide_eq_false hft] at cE
            clear hft
            have cA := Go.Lib.hid (fun w' (hb : Below wr.heap.size wr w') => add_any T HT.out (some ⟨g, o, none⟩) N c HN.out HC.out w HA.out R k fr to m HAT.out hlt3 (w.heap.size + 1) rs' f' (R * 40 + k) (by omega) hrs' HY.out.2.1 w' (HY.out.2.2.1.trans (hb.mono HY.out.2.2.1.size)) (HY.out.1.below hb))
            unfold spanV at cA
            have y0 : (wr.alloc (.cells #[.int .i64 (fr : Nat), .int .i64 (to : Nat)] 43)).cell? ⟨wr.heap.size, 0, none⟩ = some (.int .i64 (fr : Nat)) := (ObjAt.new wr #[.int .i64 (fr : Nat), .int .i64 (to : Nat)] 43).a0
            have y1 : (wr.alloc (.cells #[.int .i64 (fr : Nat), .int .i64 (to : Nat)] 43)).cell? ⟨wr.heap.size, 1, none⟩ = some (.int .i64 (to : Nat)) := (ObjAt.new wr #[.int .i64 (fr : Nat), .int .i64 (to : Nat)] 43).a1
            have ywl : wr.heap.size < (wr.alloc (.cells #[.int .i64 (fr : Nat), .int .i64 (to : Nat)] 43)).heap.size := by simp
            have yb : Below wr.heap.size wr (wr.alloc (.cells #[.int .i64 (fr : Nat), .int .i64 (to : Nat)] 43)) := (Below.refl _ wr).alloc (Nat.le_refl _) _
            have YB := Go.Lib.hid yb
            clear yb
            go_wp2_with fail
            (with_reducible refine (cE.out _).mono ?_)
            rintro e w2 ⟨rfl, k2⟩
            have z0 := (k2.cell (p := ⟨wr.heap.size, 0, none⟩) ywl).trans y0
            have z1 := (k2.cell (p := ⟨wr.heap.size, 1, none⟩) ywl).trans y1
            have kk : Below wr.heap.size wr w2 := YB.out.trans (k2.mono (by simp))
            have KK := Go.Lib.hid kk
            have ca := cA.out w2 kk
            clear k2 kk cE y0 y1
            go_wp2_with fail
            (with_reducible refine ca.mono ?_)
            rintro e w3 ⟨rfl, ⟨rs2, f2, hL2, hI2, hl2⟩, hb2, hk2⟩
            have HZ := Go.Lib.hid (show LyAt w3 w.heap.size (w.heap.size + 1) (.slice (some ⟨g, o, none⟩) N c) rs2 f2 (R * 40 + (k + 1)) ∧ Gd.Inv (plT T) R (k + 1) rs2 f2 ∧ Below w.heap.size w w3 ∧ ∃ b0, SpAt w3 b0 (.slice (some ⟨gs, 0, none⟩) ln ln) L from ⟨hL2, hI2, hb2, b0, (HSP.out.below KK.out).keep hk2⟩)
            clear ca hL2 hI2 hb2 hk2 z0 z1
            go_wp2
            go_roundw
            case rel => exact ⟨k + 1, rs2, f2, by omega, by go_num, by omega, HZ⟩
            case measure => simp [RowKit.intOf]; omega
        · obtain rfl : k = ln := by omega
          go_wp2
          go_roundw
          case rel => exact ⟨R + 1, rs', f', by omega, by go_num, by omega, Go.Lib.hid ⟨HY.out.1.mono (by omega), Gd.Inv.rowEnd (L := L) (by rw [HLN.out]; exact HY.out.2.1) HPL.out, HY.out.2.2.1⟩⟩
          case measure => simp [RowKit.intOf]; omega
    · obtain rfl : R = N := by omega
      go_wp2
      go_ret
      refine ⟨w.heap.size + 1, rs, f, by simp, HX.out.1.mono (by omega), ?_, by omega, HX.out.2.2⟩
      have h := HX.out.2.1
      have hl : R = (plT T).length := by rw [plT_len, HN.out]
      rw [hl] at h
      exact h.fin
def RecR (T : Gd.Tb) (w : World) (e : Ending) (w' : World) : Prop := ∃ rv rs f, e = .returned rv ∧ w'.ownsRow w.heap.size 50 6 rv rs.length (rcC rs) ∧ Gd.Fin T rs f ∧ rs.length ≤ 400 ∧ Below w.heap.size w w'
set_option maxRecDepth 100000 in
set_option maxHeartbeats 8000000 in
theorem rects_any (T : List (List Cl)) (hT : GoodT T) (A : Option Addr) (N c : Nat) (hN : T.length = N) (hc : N ≤ c ∧ c ≤ maxLen) (w : World) (hA : TbAt w A T) :
    Calls Try.prog 18 #[.slice A N c] w (RecR (plT T) w) := by
  have cL := lay_any T hT A N c hN hc w hA
  go_enter Try.func18, Try.ntmps18
  go_wp2_with fail
  (with_reducible refine cL.mono ?_)
  rintro e w1 ⟨tb, rs, f, rfl, ⟨rv, mb, n, h1, h2, h3, h4, h5, h6⟩, hF, hl, k1⟩
  obtain ⟨rc, rcap, hrv⟩ : ∃ B d, rv = .slice B rs.length d := by
    obtain ⟨_, h | ⟨g, cap, cur, rfl, _⟩⟩ := h2
    · exact ⟨none, 0, by rw [h.1, h.2]⟩
    · exact ⟨_, _, rfl⟩
  subst hrv
  have x1 := h1.b1
  have HR := Go.Lib.hid (show RecR (plT T) w (.returned (.slice rc rs.length rcap)) w1 from ⟨_, rs, f, rfl, h2, hF, hl, k1⟩)
  clear cL h1 h2 h3 hF
  generalize rs.length = ln at *
  go_wp2
  go_ret
  exact HR.out
end Go.Proofs.Ytkdhffidkopmcaa
