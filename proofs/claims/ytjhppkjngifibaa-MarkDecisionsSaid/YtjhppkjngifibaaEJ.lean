/- Layer 23: decideLayers. -/
import Derived.Test.YtjhppkjngifibaaEH
import Derived.Test.YtjhppkjngifibaaEA
import Derived.Deep.RegionLaw
import Derived.Deep.AppendLies
import Derived.Deep.RegionHeld3
import Derived.Laws.CopyOwn
import Derived.Deep.Cut
namespace Go.Proofs.Ytjhppkjngifibaa
open Go.RowKit Go.Lib
set_option linter.unusedVariables false

theorem own_ne {w : World} {b : Nat} {c : Array Value} {t : TypeId} (h : ObjAt w b c t) {base : Nat} {v : Value} {n : Nat} {xs : List Value} {e : TypeId} {sz : Nat} (hv : w.ownsRow base e sz v n xs) (hne : t ≠ e) : some b ≠ v.ownBlock := by
  rcases hv.2 with ⟨rfl, _⟩ | ⟨g, cap, cur, rfl, _, hg, _⟩
  · exact fun h => by cases h
  · intro he
    have : b = g := by simpa [Value.ownBlock] using he
    subst this
    have h' : w.heap[b]? = some (.cells c t (0, 0)) := h
    rw [hg] at h'
    injection h' with h'
    injection h' with _ h' _
    exact hne h'.symm
theorem row_setT {w : World} {b : Nat} {c : Array Value} {t : TypeId} (h : ObjAt w b c t) {base : Nat} {v : Value} {n : Nat} {xs : List Value} {e : TypeId} {sz : Nat} (hv : w.ownsRow base e sz v n xs) (hne : t ≠ e) (i : Nat) (u : Value) : (w.setCell ⟨b, i, none⟩ u).ownsRow base e sz v n xs :=
  hv.kept (grown_setC w b i u) (Or.inr (Ne.symm (own_ne h hv hne)))
theorem row_setF {w : World} {q : Nat} {base : Nat} {v : Value} {n : Nat} {xs : List Value} {e : TypeId} {sz : Nat} (hv : w.ownsRow base e sz v n xs) (hl : ∀ j, v.ownBlock = some j → j < q) (i : Nat) (u : Value) : (w.setCell ⟨q, i, none⟩ u).ownsRow base e sz v n xs :=
  hv.kept (grown_setC w q i u) (Or.inr (fun e => by have := hl q e; omega))
theorem ObjAt.drew {W : World} {b : Nat} {c : Array Value} {t : TypeId} (h : ObjAt W b c t) : ObjAt W.drew b c t := h
theorem zs_take_succ (fa fr : Int → Bool) (l : List Ly) (p : St) (k : Nat) (h : k < l.length) :
    ((zs l p).take (k + 1)).foldl (stepZ fa fr) ([], s0 l p) = stepZ fa fr (((zs l p).take k).foldl (stepZ fa fr) ([], s0 l p)) (l[k], if h2 : k + 1 < l.length then stOf l[k + 1] else p) := by
  have hk : k < (zs l p).length := by rw [zs_len]; exact h
  rw [List.take_succ_eq_append_getElem hk, List.foldl_append, List.foldl_cons, List.foldl_nil, zs_get l p k h]
/-- What decideLayers hands back. -/
def LRet (base : Nat) (L : List Ly) (t : St) (w : World) (e : Ending) (w' : World) : Prop := ∃ B cb, e = .returned (.tuple #[.slice B L.length cb, stV t]) ∧ w'.ownsRow base 74 4 (.slice B L.length cb) L.length (rowL L) ∧ Below w.heap.size w w'
set_option maxRecDepth 100000 in
set_option maxHeartbeats 16000000 in
theorem declay_any (ga gr : Nat) (ca cr : Array Value) (fa fr : Int → Bool) (l : List Ly) (n : Nat) (hn : l.length = n) (h1 : 0 < n) (h2 : n ≤ 1000) (A : Option Addr) (cap : Nat) (p : St) (w : World) (hA : AtL w A l) (hTa : TestN ga ca fa w.heap.size w) (hTr : TestN gr cr fr w.heap.size w) :
    Calls Try.prog 85 #[.agg #[.func (.func ga) #[] ca, .func (.func gr) #[] cr], .slice A n cap, stV p] w (LRet w.heap.size (decL fa fr l p).1 (decL fa fr l p).2 w) := by
  obtain ⟨i0, hi, hz0, hz1, hz2⟩ := info_parts info74
  obtain ⟨pv, pb⟩ := p
  have egA := hTa.en
  have egR := hTr.en
  have RA := Lib.hid hTa.run
  have RR := Lib.hid hTr.run
  have HA := Lib.hid hA
  have HN := Lib.hid hn
  clear hTa hTr hA
  unfold stV
  dsimp only
  obtain ⟨g, o, rfl, hg, hcl⟩ := HA.out.pos (by omega)
  have b0 := (((Below.refl w.heap.size w).alloc (Nat.le_refl _) (.cells #[.func (.func ga) #[] ca, .func (.func gr) #[] cr] 81)).alloc (by simp) (.cells #[.int .i64 pv, .bool pb] 99)).alloc (by simp; omega) (.cells #[.int .i64 0, .bool false] 99)
  have O3 := ((ObjAt.new w #[.func (.func ga) #[] ca, .func (.func gr) #[] cr] 81).alloc (.cells #[.int .i64 pv, .bool pb] 99)).alloc (.cells #[.int .i64 0, .bool false] 99)
  have O5 := (ObjAt.new (w.alloc (.cells #[.func (.func ga) #[] ca, .func (.func gr) #[] cr] 81)) #[.int .i64 pv, .bool pb] 99).alloc (.cells #[.int .i64 0, .bool false] 99)
  have O7 := ObjAt.new ((w.alloc (.cells #[.func (.func ga) #[] ca, .func (.func gr) #[] cr] 81)).alloc (.cells #[.int .i64 pv, .bool pb] 99)) #[.int .i64 0, .bool false] 99
  rw [World.size_alloc] at O5 O7
  rw [World.size_alloc] at O7
  have hl0 : 0 < l.length := by rw [hn]; exact h1
  obtain ⟨c0, c1, c2, c3⟩ := hcl 0 hl0
  rw [Nat.zero_mul, Nat.add_zero] at c0 c1 c2 c3
  have y0 := (b0.cell (p := ⟨g, o, none⟩) hg).trans c0
  have y1 := (b0.cell (p := ⟨g, o + 1, none⟩) hg).trans c1
  have y2 := (b0.cell (p := ⟨g, o + 2, none⟩) hg).trans c2
  have y3 := (b0.cell (p := ⟨g, o + 3, none⟩) hg).trans c3
  have HS0 : s0 l (pv, pb) = stOf l[0] := by cases l with
    | nil => exact absurd hl0 (Nat.not_lt_zero _)
    | cons x l => rfl
  have hb := Lib.hid b0
  have s0' := b0.size
  have H3 := Lib.hid O3
  have H5 := Lib.hid O5
  have H7 := Lib.hid O7
  have f0z : (0 : Int) < (n : Int) := by omega
  clear b0 O3 O5 O7 c0 c1 c2 c3 hcl
  generalize l[0] = x0 at y0 y1 y2 y3 HS0
  obtain ⟨a0, a1, a2, a3⟩ := x0
  dsimp only [stOf] at y0 y1 y2 y3 HS0
  have HSS := Lib.hid HS0
  clear HS0
  have cB := fun W => before_any a0 a1 a2 a3 W
  generalize hbb : w.heap.size = b at hb s0' H3 H5 H7 RA RR hg ⊢
  have HBB := Lib.hid hbb
  clear hbb
  go_enter Try.func85, Try.ntmps85
  go_wp2_with fail
  have e1 := HBB.out
  refine (cB _).mono ?_
  rintro e w1 ⟨rfl, k1⟩
  have K1 := Lib.hid (hb.out.trans (k1.mono s0'))
  have X3 := Lib.hid (H3.out.below k1)
  have X5 := Lib.hid (H5.out.below k1)
  have X7 := H7.out.below k1
  have z0 := X7.get (k := 0) (v := .int .i64 0) rfl
  have z1 := X7.get (k := 1) (v := .bool false) rfl
  have t0 := X7.frozen 0
  have t1 := X7.frozen 1
  have s1 := K1.out.size
  have hs3 : b + 3 ≤ w1.heap.size := by have := k1.size; simp only [World.size_alloc] at this; omega
  rw [e1]
  rw [e1] at s1
  clear cB k1 e1
  have N3 := Lib.hid ((X3.out.other (C := b + 2) (by omega) 0 (.int .i64 a2)).other (C := b + 2) (by omega) 1 (.bool a3))
  have N5 := Lib.hid ((X5.out.other (C := b + 2) (by omega) 0 (.int .i64 a2)).other (C := b + 2) (by omega) 1 (.bool a3))
  have N7 := Lib.hid (show ObjAt ((w1.setCell ⟨b + 2, 0, none⟩ (.int .i64 a2)).setCell ⟨b + 2, 1, none⟩ (.bool a3)) (b + 2) #[.int .i64 a2, .bool a3] 99 from by have := (X7.set 0 (.int .i64 a2)).set 1 (.bool a3); simpa using this)
  have NB := Lib.hid ((K1.out.setCell (p := ⟨b + 2, 0, none⟩) (by simp) (.int .i64 a2)).setCell (p := ⟨b + 2, 1, none⟩) (by simp) (.bool a3))
  clear X3 X5 X7 H3 H5 H7 hb y0 y1 y2 y3
  go_wp2_with fail
  clear z0 z1 t0 t1
  go_loopw [6, 8, 9, 10, 17, 34, 41] (fun s6 _ _ _ s17 _ _ wr => ∃ (k m : Nat) (B : Option Addr) (cb : Nat) (L : List Ly) (t : St), k ≤ n ∧ m ≤ k ∧ s6 = .slice B m cb ∧ s17 = .int .i64 (k : Nat) ∧ Hid (((zs l (pv, pb)).take k).foldl (stepZ fa fr) ([], s0 l (pv, pb)) = (L, t)) ∧ Hid (L.length = m) ∧ Hid (wr.ownsRow (b + 3) 74 4 (.slice B m cb) m (rowL L)) ∧
    Hid (ObjAt wr b #[.func (.func ga) #[] ca, .func (.func gr) #[] cr] 81) ∧ Hid (ObjAt wr (b + 1) #[.int .i64 pv, .bool pb] 99) ∧ Hid (ObjAt wr (b + 2) #[.int .i64 t.1, .bool t.2] 99) ∧ Hid (Below b w wr)) (fun _ _ _ _ s17 _ _ _ => n - (RowKit.intOf s17).toNat)
  case atStart => exact ⟨0, 0, none, 0, [], (a2, a3), Nat.zero_le _, Nat.le_refl _, rfl, rfl, Lib.hid (by rw [HSS.out]; rfl), Lib.hid rfl, Lib.hid (World.ownsRow_nil _ _ _ _), N3, N5, N7, NB⟩
  case round =>
    clear N3 N5 N7 NB K1
    obtain ⟨k, m, B, cb, L, t, hk, hmk, rfl, rfl, HS, HL, HO, M3, M5, M7, HB⟩ := hrel
    obtain ⟨tv, tb⟩ := t
    dsimp only at M7
    have HLT := Lib.hid (fun j (e : Value.ownBlock (.slice B m cb) = some j) => (HO.out.lt j e).2)
    have sB : b ≤ wr.heap.size := by have := HB.out.size; rw [HBB.out] at this; exact this
    have hb3 : b + 3 ≤ wr.heap.size := by have := M7.out.lt; omega
    by_cases hlt : k < n
    · have hkl : k < l.length := by rw [HN.out]; exact hlt
      obtain ⟨g', o', hgo, hg', hcl⟩ := HA.out.pos (by omega)
      injection hgo with hgo
      injection hgo with hg1 ho1 _
      subst hg1 ho1
      obtain ⟨c0, c1, c2, c3⟩ := hcl k hkl
      have z0 := (HB.out.cell (p := ⟨g, o + k * 4, none⟩) hg).trans c0
      have z1 := (HB.out.cell (p := ⟨g, o + k * 4 + 1, none⟩) hg).trans c1
      have z2 := (HB.out.cell (p := ⟨g, o + k * 4 + 2, none⟩) hg).trans c2
      have z3 := (HB.out.cell (p := ⟨g, o + k * 4 + 3, none⟩) hg).trans c3
      have f0 : (0 : Int) ≤ (k : Int) := by omega
      have f1 : (k : Int) < (n : Int) := by omega
      have HZ := Lib.hid ((zs_take_succ fa fr l (pv, pb) k hkl).trans (by rw [HS.out]))
      clear c0 c1 c2 c3
      have hkz : IntKind.i64.wrap ((k : Int) + 1) = (k : Int) + 1 := by rw [IntKind.wrap_i64]; omega
      by_cases hk1 : k + 1 < n
      case pos =>
        have hk1l : k + 1 < l.length := by rw [HN.out]; exact hk1
        obtain ⟨d0, d1, d2, d3⟩ := hcl (k + 1) hk1l
        rw [dif_pos hk1l] at HZ
        have e1 : ((k : Int) + 1) < (n : Int) := by omega
        have e2 : decide ((k : Int) + 1 < (n : Int)) = true := decide_eq_true e1
        have e3 : (0 : Int) ≤ (k : Int) + 1 := by omega
        have e4 : ((k : Int) + 1).toNat = k + 1 := by omega
        clear hcl
        generalize l[k] = y at z0 z1 z2 z3 HZ
        generalize l[k + 1] = x at d0 d1 d2 d3 HZ
        obtain ⟨yr, yk, yb, yh⟩ := y
        obtain ⟨xr, xk, xb, xh⟩ := x
        dsimp only [stOf] at z0 z1 z2 z3 d0 d1 d2 d3 HZ
        have q0 := (M5.out.alloc (.cells #[.int .i64 yr, .int .i64 yk, .int .i64 yb, .bool yh] 74)).get (k := 0) (v := .int .i64 pv) rfl
        have q1 := (M5.out.alloc (.cells #[.int .i64 yr, .int .i64 yk, .int .i64 yb, .bool yh] 74)).get (k := 1) (v := .bool pb) rfl
        have B1 := (HB.out.alloc sB (.cells #[.int .i64 yr, .int .i64 yk, .int .i64 yb, .bool yh] 74)).alloc (by rw [World.size_alloc]; omega) (.cells #[.int .i64 pv, .bool pb] 99)
        have u0 := (B1.cell (p := ⟨g, o + (k + 1) * 4, none⟩) hg).trans d0
        have u1 := (B1.cell (p := ⟨g, o + (k + 1) * 4 + 1, none⟩) hg).trans d1
        have u2 := (B1.cell (p := ⟨g, o + (k + 1) * 4 + 2, none⟩) hg).trans d2
        have u3 := (B1.cell (p := ⟨g, o + (k + 1) * 4 + 3, none⟩) hg).trans d3
        have sB1 : b ≤ ((wr.alloc (.cells #[.int .i64 yr, .int .i64 yk, .int .i64 yb, .bool yh] 74)).alloc (.cells #[.int .i64 pv, .bool pb] 99)).heap.size := by rw [World.size_alloc, World.size_alloc]; omega
        have U9 := (ObjAt.new wr #[.int .i64 yr, .int .i64 yk, .int .i64 yb, .bool yh] 74).alloc (.cells #[.int .i64 pv, .bool pb] 99)
        have U10 := ObjAt.new (wr.alloc (.cells #[.int .i64 yr, .int .i64 yk, .int .i64 yb, .bool yh] 74)) #[.int .i64 pv, .bool pb] 99
        rw [World.size_alloc] at U10
        have HB1 := Lib.hid B1
        have V9 := Lib.hid U9
        have V10 := Lib.hid U10
        clear B1 U9 U10 d0 d1 d2 d3
        have cB := fun W => before_any xr xk xb xh W
        go_upto_region 8 with (go_at_call 75; (with_reducible refine (cB _).mono ?_); rintro e w5 ⟨rfl, k5⟩; have J9 := V9.out.below k5; have J10 := V10.out.below k5; have J3 := (((M3.out.alloc _).alloc _).below k5); have J5 := (((M5.out.alloc _).alloc _).below k5); have J7 := (((M7.out.alloc _).alloc _).below k5); have JO := row_below ((HO.out.alloc _).alloc _) k5; have JB := HB1.out.trans (k5.mono sB1); have j0 := J10.get (k := 0) (v := .int .i64 pv) rfl; have j1 := J10.get (k := 1) (v := .bool pb) rfl; have jf0 := J10.frozen 0; have jf1 := J10.frozen 1; have k5s := k5.size)
        have U9 := (J9.other (C := wr.heap.size + 1) (by omega) 0 (.int .i64 xb)).other (C := wr.heap.size + 1) (by omega) 1 (.bool xh)
        have U10 : ObjAt ((w5.setCell ⟨wr.heap.size + 1, 0, none⟩ (.int .i64 xb)).setCell ⟨wr.heap.size + 1, 1, none⟩ (.bool xh)) (wr.heap.size + 1) #[.int .i64 xb, .bool xh] 99 := by have := (J10.set 0 (.int .i64 xb)).set 1 (.bool xh); simpa using this
        have T3 := (J3.other (C := wr.heap.size + 1) (by omega) 0 (.int .i64 xb)).other (C := wr.heap.size + 1) (by omega) 1 (.bool xh)
        have T5 := (J5.other (C := wr.heap.size + 1) (by omega) 0 (.int .i64 xb)).other (C := wr.heap.size + 1) (by omega) 1 (.bool xh)
        have T7 := (J7.other (C := wr.heap.size + 1) (by omega) 0 (.int .i64 xb)).other (C := wr.heap.size + 1) (by omega) 1 (.bool xh)
        have TB := (JB.setCell (p := ⟨wr.heap.size + 1, 0, none⟩) (by simp; omega) (.int .i64 xb)).setCell (p := ⟨wr.heap.size + 1, 1, none⟩) (by simp; omega) (.bool xh)
        have TO : ((w5.setCell ⟨wr.heap.size + 1, 0, none⟩ (.int .i64 xb)).setCell ⟨wr.heap.size + 1, 1, none⟩ (.bool xh)).ownsRow (b + 3) 74 4 (.slice B m cb) m (rowL L) := row_setT (J10.set 0 (.int .i64 xb)) (row_setT J10 JO (by decide) 0 (.int .i64 xb)) (by decide) 1 (.bool xh)
        have hz8 : wr.heap.size + 2 ≤ ((w5.setCell ⟨wr.heap.size + 1, 0, none⟩ (.int .i64 xb)).setCell ⟨wr.heap.size + 1, 1, none⟩ (.bool xh)).heap.size := by simpa using k5s
        clear J9 J10 J3 J5 J7 JO JB j0 j1 jf0 jf1 k5 k5s cB u0 u1 u2 u3 HB1 V9 V10 M3 M5 M7 HO q0 q1 z0 z1 z2 z3
        generalize hW8 : (w5.setCell ⟨wr.heap.size + 1, 0, none⟩ (.int .i64 xb)).setCell ⟨wr.heap.size + 1, 1, none⟩ (.bool xh) = W8 at U9 U10 T3 T5 T7 TO TB hz8 ⊢
        have HW8 := Lib.hid hW8
        clear hW8
        have d0 := T3.get (k := 0) (v := .func (.func ga) #[] ca) rfl
        have d1 := U9.get (k := 0) (v := .int .i64 yr) rfl
        have cT := RA.out yr W8 TB
        have sW : b ≤ W8.heap.size := by omega
        cases hv : fa yr with
        | true =>
          rw [hv] at cT
          go_upto_region 9 with (go_at_fn ga; (with_reducible refine cT.mono ?_); rintro e w9 ⟨rfl, k9⟩)
          have R10 := U10.below k9
          have R3 := T3.below k9
          have R5 := T5.below k9
          have R7 := T7.below k9
          have RB := TB.trans (k9.mono sW)
          have r0 := R10.get (k := 0) (v := .int .i64 xb) rfl
          have r1 := R10.get (k := 1) (v := .bool xh) rfl
          have v0 := R7.get (k := 0) (v := .int .i64 tv) rfl
          have v1 := R7.get (k := 1) (v := .bool tb) rfl
          have y0 := R7.frozen 0
          have y1 := R7.frozen 1
          have F7 := Lib.hid (show ObjAt (((w9.drew).setCell ⟨b + 1 + 1, 0, none⟩ (.int .i64 xb)).setCell ⟨b + 1 + 1, 1, none⟩ (.bool xh)) (b + 1 + 1) #[.int .i64 xb, .bool xh] 99 from by have := (R7.drew.set 0 (.int .i64 xb)).set 1 (.bool xh); simpa using this)
          have F3 := Lib.hid ((R3.drew.other (C := b + 1 + 1) (by omega) 0 (.int .i64 xb)).other (C := b + 1 + 1) (by omega) 1 (.bool xh))
          have F5 := Lib.hid ((R5.drew.other (C := b + 1 + 1) (by omega) 0 (.int .i64 xb)).other (C := b + 1 + 1) (by omega) 1 (.bool xh))
          have FB := Lib.hid ((RB.drew.setCell (p := ⟨b + 1 + 1, 0, none⟩) (by simp; omega) (.int .i64 xb)).setCell (p := ⟨b + 1 + 1, 1, none⟩) (by simp; omega) (.bool xh))
          have HZ2 := Lib.hid (HZ.out.trans (by simp only [stepZ, hv, if_true] : _ = (([], (xb, xh)) : List Ly × St)))
          clear U9 U10 T3 T5 T7 TO TB d0 d1 cT R10 R3 R5 R7 RB k9 hv HZ
          go_region
          go_wp2
          go_roundw
          case rel => exact ⟨k + 1, 0, none, 0, [], (xb, xh), by omega, by omega, rfl, by go_num, HZ2, Lib.hid rfl, Lib.hid (World.ownsRow_nil _ _ _ _), F3, F5, F7, FB⟩
          case measure => simp [RowKit.intOf]; omega
        | false =>
          rw [hv] at cT
          go_upto_region 10 with (go_at_fn ga; (with_reducible refine cT.mono ?_); rintro e w9 ⟨rfl, k9⟩)
          have R9 := U9.below k9
          have R10 := U10.below k9
          have R3 := T3.below k9
          have R5 := T5.below k9
          have R7 := T7.below k9
          have RO := row_below TO k9
          have RB := TB.trans (k9.mono sW)
          have hz9 : wr.heap.size + 2 ≤ w9.heap.size := Nat.le_trans hz8 k9.size
          have sW9 : b ≤ w9.heap.size := by omega
          have d2 := R3.get (k := 1) (v := .func (.func gr) #[] cr) rfl
          have d3 := R9.get (k := 0) (v := .int .i64 yr) rfl
          have cR := RR.out yr w9 RB
          clear U9 U10 T3 T5 T7 TO TB d0 d1 cT k9 hz8 sW
          cases hv2 : fr yr with
          | true =>
            rw [hv2] at cR
            have HZ2 := Lib.hid (HZ.out.trans (by simp only [stepZ, hv, hv2, if_true, Bool.false_eq_true, if_false] : _ = ((L, (tv, tb)) : List Ly × St)))
            clear HZ hv hv2
            go_wp2_with (go_at_fn gr; (with_reducible refine cR.mono ?_); rintro e w10 ⟨rfl, k10⟩)
            have F3 := Lib.hid (R3.below k10)
            have F5 := Lib.hid (R5.below k10)
            have F7 := Lib.hid (R7.below k10)
            have FO := Lib.hid (row_below RO k10)
            have FB := Lib.hid (RB.trans (k10.mono sW9))
            clear R9 R10 R3 R5 R7 RO RB k10 cR d2 d3
            go_roundw
            case rel => exact ⟨k + 1, m, B, cb, L, (tv, tb), by omega, by omega, rfl, by go_num, HZ2, HL, FO, F3, F5, F7, FB⟩
            case measure => simp [RowKit.intOf]; omega
          | false =>
            rw [hv2] at cR
            have HZ2 := Lib.hid (HZ.out.trans (by simp only [stepZ, hv, hv2, Bool.false_eq_true, if_false] : _ = ((L ++ [⟨yr, yk, tv, tb⟩], (xb, xh)) : List Ly × St)))
            clear HZ hv hv2
            go_upto_region 11 with (go_at_fn gr; (with_reducible refine cR.mono ?_); rintro e w10 ⟨rfl, k10⟩)
            have S9 := R9.below k10
            have S10 := R10.below k10
            have S3 := R3.below k10
            have S5 := R5.below k10
            have S7 := R7.below k10
            have SO := row_below RO k10
            have SB := RB.trans (k10.mono sW9)
            have hz10 : wr.heap.size + 2 ≤ w10.heap.size := Nat.le_trans hz9 k10.size
            clear R9 R10 R3 R5 R7 RO RB k10 cR d2 d3 hz9 sW9
            have r0 := S7.get (k := 0) (v := .int .i64 tv) rfl
            have r1 := S7.get (k := 1) (v := .bool tb) rfl
            have v2 := S9.get (k := 2) (v := .int .i64 yb) rfl
            have v3 := S9.get (k := 3) (v := .bool yh) rfl
            have y2 := S9.frozen 2
            have y3 := S9.frozen 3
            go_region
            have X9 : ObjAt ((w10.setCell ⟨wr.heap.size, 2, none⟩ (.int .i64 tv)).setCell ⟨wr.heap.size, 3, none⟩ (.bool tb)).drew wr.heap.size #[.int .i64 yr, .int .i64 yk, .int .i64 tv, .bool tb] 74 := by have := ((S9.set 2 (.int .i64 tv)).set 3 (.bool tb)).drew; simpa using this
            have X10 := ((S10.other (C := wr.heap.size) (by omega) 2 (.int .i64 tv)).other (C := wr.heap.size) (by omega) 3 (.bool tb)).drew
            have X3 := ((S3.other (C := wr.heap.size) (by omega) 2 (.int .i64 tv)).other (C := wr.heap.size) (by omega) 3 (.bool tb)).drew
            have X5 := ((S5.other (C := wr.heap.size) (by omega) 2 (.int .i64 tv)).other (C := wr.heap.size) (by omega) 3 (.bool tb)).drew
            have X7 := ((S7.other (C := wr.heap.size) (by omega) 2 (.int .i64 tv)).other (C := wr.heap.size) (by omega) 3 (.bool tb)).drew
            have XO := (row_setF (row_setF SO HLT.out 2 (.int .i64 tv)) HLT.out 3 (.bool tb)).drew
            have XB := ((SB.setCell (p := ⟨wr.heap.size, 2, none⟩) (by simp; omega) (.int .i64 tv)).setCell (p := ⟨wr.heap.size, 3, none⟩) (by simp; omega) (.bool tb)).drew
            have hz11 : wr.heap.size + 2 ≤ ((w10.setCell ⟨wr.heap.size, 2, none⟩ (.int .i64 tv)).setCell ⟨wr.heap.size, 3, none⟩ (.bool tb)).drew.heap.size := by simpa using hz10
            clear S9 S10 S3 S5 S7 SO SB r0 r1 v2 v3 y2 y3
            generalize hW11 : ((w10.setCell ⟨wr.heap.size, 2, none⟩ (.int .i64 tv)).setCell ⟨wr.heap.size, 3, none⟩ (.bool tb)).drew = W11 at X9 X10 X3 X5 X7 XO XB hz11 ⊢
            have HW11 := Lib.hid hW11
            clear hW11
            have r0 := X9.q0
            have r1 := X9.q1
            have r2 := X9.q2
            have r3 := X9.q3
            have p0 := X10.a0
            have p1 := X10.a1
            have pp0 := (X10.alloc (.cells #[.int .i64 yr, .int .i64 yk, .int .i64 tv, .bool tb] 74)).a0
            have pp1 := (X10.alloc (.cells #[.int .i64 yr, .int .i64 yk, .int .i64 tv, .bool tb] 74)).a1
            have v0 := X7.a0
            have v1 := X7.a1
            have fz0 := X7.frozen 0
            have fz1 := X7.frozen 1
            have G3 := Lib.hid X3
            have G5 := Lib.hid X5
            have G7 := Lib.hid X7
            have G10 := Lib.hid X10
            have GO := Lib.hid XO
            have GB := Lib.hid XB
            have hmz : m ≤ 1000 := by omega
            clear X9 X10 X3 X5 X7 XO XB
            go_upto_region 12 with fail
            go_region_law (first
              | (refine step_append_lies _ (by rfl) _ _ _ (by rfl) (b + 3) 74 i0 (.agg #[.int .i64 0, .int .i64 0, .int .i64 0, .bool false]) 4 32 Try.underlying24 hi hz0 hz1 hz2 rfl (by decide) _ m (rowL L) (by rfl) (by first | exact GO.out.alloc _ | exact World.ownsRow.drew (GO.out.alloc _) | exact World.ownsRow.drew (World.ownsRow.drew (GO.out.alloc _)) | exact World.ownsRow.drew (World.ownsRow.drew (World.ownsRow.drew (GO.out.alloc _))) | exact World.ownsRow.drew (World.ownsRow.drew (World.ownsRow.drew (World.ownsRow.drew (GO.out.alloc _))))) ⟨W11.heap.size, 0, none⟩ 1 1 [.int .i64 yr, .int .i64 yk, .int .i64 tv, .bool tb] (by rfl) (by rfl) (by first | exact World.news_of_block (cs := #[.int .i64 yr, .int .i64 yk, .int .i64 tv, .bool tb]) (t := 74) (fr := (0, 0)) (heap_alloc_new W11 _)) (by simp [Value.oneCell']) (by omega) (by unfold maxLen; omega) (by omega) (by simp; omega) (W11.heap.size + 1) (by simp) ?_; intro gg cap' w12 hown12 hgrow12 hat12 hlt12; have N10 : ObjAt w12 (wr.heap.size + 1) #[.int .i64 xb, .bool xh] 99 := (hgrow12.block _ (by simp; omega) (fun e => by have := HLT.out _ e.symm; omega)).trans (G10.out.alloc _); have N7 : ObjAt w12 (b + 1 + 1) #[.int .i64 tv, .bool tb] 99 := (hgrow12.block _ (by simp; omega) (fun e => by have := (GO.out.lt _ e.symm).1; omega)).trans (G7.out.alloc _); have N5 := Lib.hid (show ObjAt w12 (b + 1) #[.int .i64 pv, .bool pb] 99 from (hgrow12.block _ (by simp; omega) (fun e => by have := (GO.out.lt _ e.symm).1; omega)).trans (G5.out.alloc _)); have N3 := Lib.hid (show ObjAt w12 b #[.func (.func ga) #[] ca, .func (.func gr) #[] cr] 81 from (hgrow12.block _ (by simp; omega) (fun e => by have := (GO.out.lt _ e.symm).1; omega)).trans (G3.out.alloc _)); have NBB := Lib.hid (show Below b w w12 from ((GB.out.alloc (by omega) _).drew).grown hgrow12 (by simp; omega) (fun j e => by have := (GO.out.lt j e).1; omega)); have NO := Lib.hid hown12; have n0 := N10.a0; have n1 := N10.a1; have k0 := N7.a0; have k1 := N7.a1; have kf0 := N7.frozen 0; have kf1 := N7.frozen 1; have NN7 := Lib.hid N7; clear hown12 hgrow12 hat12 N10 N7)
              | fail)
            all_goals
              have F7 := Lib.hid (show ObjAt ((w12.setCell ⟨b + 1 + 1, 0, none⟩ (.int .i64 xb)).setCell ⟨b + 1 + 1, 1, none⟩ (.bool xh)) (b + 1 + 1) #[.int .i64 xb, .bool xh] 99 from by have := (NN7.out.set 0 (.int .i64 xb)).set 1 (.bool xh); simpa using this)
              have F3 := Lib.hid ((N3.out.other (C := b + 1 + 1) (by omega) 0 (.int .i64 xb)).other (C := b + 1 + 1) (by omega) 1 (.bool xh))
              have F5 := Lib.hid ((N5.out.other (C := b + 1 + 1) (by omega) 0 (.int .i64 xb)).other (C := b + 1 + 1) (by omega) 1 (.bool xh))
              have FO := Lib.hid (row_setT (NN7.out.set 0 (.int .i64 xb)) (row_setT NN7.out NO.out (by decide) 0 (.int .i64 xb)) (by decide) 1 (.bool xh))
              have FB := Lib.hid ((NBB.out.setCell (p := ⟨b + 1 + 1, 0, none⟩) (by simp; omega) (.int .i64 xb)).setCell (p := ⟨b + 1 + 1, 1, none⟩) (by simp; omega) (.bool xh))
              have HL2 := Lib.hid (show (L ++ [(⟨yr, yk, tv, tb⟩ : Ly)]).length = m + 1 by rw [List.length_append, HL.out]; rfl)
              clear NN7 N3 N5 NO NBB n0 n1 k0 k1 kf0 kf1 r0 r1 r2 r3 p0 p1 pp0 pp1 v0 v1 fz0 fz1 G3 G5 G7 G10 GO GB
              go_wp2
              go_roundw
              case rel => exact ⟨k + 1, m + 1, some ⟨gg, 0, none⟩, cap', L ++ [⟨yr, yk, tv, tb⟩], (xb, xh), by omega, by omega, rfl, by go_num, HZ2, HL2, Lib.hid (by rw [rowL_snoc]; exact FO.out), F3, F5, F7, FB⟩
              case measure => simp [RowKit.intOf]; omega

      case neg =>
        rw [dif_neg (by rw [HN.out]; exact hk1)] at HZ
        have e1 : ¬ ((k : Int) + 1) < (n : Int) := by omega
        have e2 : decide ((k : Int) + 1 < (n : Int)) = false := decide_eq_false e1
        clear hcl
        generalize l[k] = y at z0 z1 z2 z3 HZ
        obtain ⟨yr, yk, yb, yh⟩ := y
        dsimp only at z0 z1 z2 z3 HZ
        have q0 := (M5.out.alloc (.cells #[.int .i64 yr, .int .i64 yk, .int .i64 yb, .bool yh] 74)).get (k := 0) (v := .int .i64 pv) rfl
        have q1 := (M5.out.alloc (.cells #[.int .i64 yr, .int .i64 yk, .int .i64 yb, .bool yh] 74)).get (k := 1) (v := .bool pb) rfl
        have TB := (HB.out.alloc sB (.cells #[.int .i64 yr, .int .i64 yk, .int .i64 yb, .bool yh] 74)).alloc (by rw [World.size_alloc]; omega) (.cells #[.int .i64 pv, .bool pb] 99)
        have U9 := (ObjAt.new wr #[.int .i64 yr, .int .i64 yk, .int .i64 yb, .bool yh] 74).alloc (.cells #[.int .i64 pv, .bool pb] 99)
        have U10 := ObjAt.new (wr.alloc (.cells #[.int .i64 yr, .int .i64 yk, .int .i64 yb, .bool yh] 74)) #[.int .i64 pv, .bool pb] 99
        rw [World.size_alloc] at U10
        go_upto_region 8 with fail
        have T3 := (M3.out.alloc (.cells #[.int .i64 yr, .int .i64 yk, .int .i64 yb, .bool yh] 74)).alloc (.cells #[.int .i64 pv, .bool pb] 99)
        have T5 := (M5.out.alloc (.cells #[.int .i64 yr, .int .i64 yk, .int .i64 yb, .bool yh] 74)).alloc (.cells #[.int .i64 pv, .bool pb] 99)
        have T7 := (M7.out.alloc (.cells #[.int .i64 yr, .int .i64 yk, .int .i64 yb, .bool yh] 74)).alloc (.cells #[.int .i64 pv, .bool pb] 99)
        have TO := (HO.out.alloc (.cells #[.int .i64 yr, .int .i64 yk, .int .i64 yb, .bool yh] 74)).alloc (.cells #[.int .i64 pv, .bool pb] 99)
        have hz8 : wr.heap.size + 2 ≤ ((wr.alloc (.cells #[.int .i64 yr, .int .i64 yk, .int .i64 yb, .bool yh] 74)).alloc (.cells #[.int .i64 pv, .bool pb] 99)).heap.size := by simp
        clear q0 q1 z0 z1 z2 z3 M3 M5 M7 HO
        generalize hW8 : (wr.alloc (.cells #[.int .i64 yr, .int .i64 yk, .int .i64 yb, .bool yh] 74)).alloc (.cells #[.int .i64 pv, .bool pb] 99) = W8 at U9 U10 T3 T5 T7 TO TB hz8 ⊢
        have HW8 := Lib.hid hW8
        clear hW8
        have d0 := T3.get (k := 0) (v := .func (.func ga) #[] ca) rfl
        have d1 := U9.get (k := 0) (v := .int .i64 yr) rfl
        have cT := RA.out yr W8 TB
        have sW : b ≤ W8.heap.size := by omega
        cases hv : fa yr with
        | true =>
          rw [hv] at cT
          go_upto_region 9 with (go_at_fn ga; (with_reducible refine cT.mono ?_); rintro e w9 ⟨rfl, k9⟩)
          have R10 := U10.below k9
          have R3 := T3.below k9
          have R5 := T5.below k9
          have R7 := T7.below k9
          have RB := TB.trans (k9.mono sW)
          have r0 := R10.get (k := 0) (v := .int .i64 pv) rfl
          have r1 := R10.get (k := 1) (v := .bool pb) rfl
          have v0 := R7.get (k := 0) (v := .int .i64 tv) rfl
          have v1 := R7.get (k := 1) (v := .bool tb) rfl
          have y0 := R7.frozen 0
          have y1 := R7.frozen 1
          have F7 := Lib.hid (show ObjAt (((w9.drew).setCell ⟨b + 1 + 1, 0, none⟩ (.int .i64 pv)).setCell ⟨b + 1 + 1, 1, none⟩ (.bool pb)) (b + 1 + 1) #[.int .i64 pv, .bool pb] 99 from by have := (R7.drew.set 0 (.int .i64 pv)).set 1 (.bool pb); simpa using this)
          have F3 := Lib.hid ((R3.drew.other (C := b + 1 + 1) (by omega) 0 (.int .i64 pv)).other (C := b + 1 + 1) (by omega) 1 (.bool pb))
          have F5 := Lib.hid ((R5.drew.other (C := b + 1 + 1) (by omega) 0 (.int .i64 pv)).other (C := b + 1 + 1) (by omega) 1 (.bool pb))
          have FB := Lib.hid ((RB.drew.setCell (p := ⟨b + 1 + 1, 0, none⟩) (by simp; omega) (.int .i64 pv)).setCell (p := ⟨b + 1 + 1, 1, none⟩) (by simp; omega) (.bool pb))
          have HZ2 := Lib.hid (HZ.out.trans (by simp only [stepZ, hv, if_true] : _ = (([], (pv, pb)) : List Ly × St)))
          clear U9 U10 T3 T5 T7 TO TB d0 d1 cT R10 R3 R5 R7 RB k9 hv HZ
          go_region
          go_wp2
          go_roundw
          case rel => exact ⟨k + 1, 0, none, 0, [], (pv, pb), by omega, by omega, rfl, by go_num, HZ2, Lib.hid rfl, Lib.hid (World.ownsRow_nil _ _ _ _), F3, F5, F7, FB⟩
          case measure => simp [RowKit.intOf]; omega
        | false =>
          rw [hv] at cT
          go_upto_region 10 with (go_at_fn ga; (with_reducible refine cT.mono ?_); rintro e w9 ⟨rfl, k9⟩)
          have R9 := U9.below k9
          have R10 := U10.below k9
          have R3 := T3.below k9
          have R5 := T5.below k9
          have R7 := T7.below k9
          have RO := row_below TO k9
          have RB := TB.trans (k9.mono sW)
          have hz9 : wr.heap.size + 2 ≤ w9.heap.size := Nat.le_trans hz8 k9.size
          have sW9 : b ≤ w9.heap.size := by omega
          have d2 := R3.get (k := 1) (v := .func (.func gr) #[] cr) rfl
          have d3 := R9.get (k := 0) (v := .int .i64 yr) rfl
          have cR := RR.out yr w9 RB
          clear U9 U10 T3 T5 T7 TO TB d0 d1 cT k9 hz8 sW
          cases hv2 : fr yr with
          | true =>
            rw [hv2] at cR
            have HZ2 := Lib.hid (HZ.out.trans (by simp only [stepZ, hv, hv2, if_true, Bool.false_eq_true, if_false] : _ = ((L, (tv, tb)) : List Ly × St)))
            clear HZ hv hv2
            go_wp2_with (go_at_fn gr; (with_reducible refine cR.mono ?_); rintro e w10 ⟨rfl, k10⟩)
            have F3 := Lib.hid (R3.below k10)
            have F5 := Lib.hid (R5.below k10)
            have F7 := Lib.hid (R7.below k10)
            have FO := Lib.hid (row_below RO k10)
            have FB := Lib.hid (RB.trans (k10.mono sW9))
            clear R9 R10 R3 R5 R7 RO RB k10 cR d2 d3
            go_roundw
            case rel => exact ⟨k + 1, m, B, cb, L, (tv, tb), by omega, by omega, rfl, by go_num, HZ2, HL, FO, F3, F5, F7, FB⟩
            case measure => simp [RowKit.intOf]; omega
          | false =>
            rw [hv2] at cR
            have HZ2 := Lib.hid (HZ.out.trans (by simp only [stepZ, hv, hv2, Bool.false_eq_true, if_false] : _ = ((L ++ [⟨yr, yk, tv, tb⟩], (pv, pb)) : List Ly × St)))
            clear HZ hv hv2
            go_upto_region 11 with (go_at_fn gr; (with_reducible refine cR.mono ?_); rintro e w10 ⟨rfl, k10⟩)
            have S9 := R9.below k10
            have S10 := R10.below k10
            have S3 := R3.below k10
            have S5 := R5.below k10
            have S7 := R7.below k10
            have SO := row_below RO k10
            have SB := RB.trans (k10.mono sW9)
            have hz10 : wr.heap.size + 2 ≤ w10.heap.size := Nat.le_trans hz9 k10.size
            clear R9 R10 R3 R5 R7 RO RB k10 cR d2 d3 hz9 sW9
            have r0 := S7.get (k := 0) (v := .int .i64 tv) rfl
            have r1 := S7.get (k := 1) (v := .bool tb) rfl
            have v2 := S9.get (k := 2) (v := .int .i64 yb) rfl
            have v3 := S9.get (k := 3) (v := .bool yh) rfl
            have y2 := S9.frozen 2
            have y3 := S9.frozen 3
            go_region
            have X9 : ObjAt ((w10.setCell ⟨wr.heap.size, 2, none⟩ (.int .i64 tv)).setCell ⟨wr.heap.size, 3, none⟩ (.bool tb)).drew wr.heap.size #[.int .i64 yr, .int .i64 yk, .int .i64 tv, .bool tb] 74 := by have := ((S9.set 2 (.int .i64 tv)).set 3 (.bool tb)).drew; simpa using this
            have X10 := ((S10.other (C := wr.heap.size) (by omega) 2 (.int .i64 tv)).other (C := wr.heap.size) (by omega) 3 (.bool tb)).drew
            have X3 := ((S3.other (C := wr.heap.size) (by omega) 2 (.int .i64 tv)).other (C := wr.heap.size) (by omega) 3 (.bool tb)).drew
            have X5 := ((S5.other (C := wr.heap.size) (by omega) 2 (.int .i64 tv)).other (C := wr.heap.size) (by omega) 3 (.bool tb)).drew
            have X7 := ((S7.other (C := wr.heap.size) (by omega) 2 (.int .i64 tv)).other (C := wr.heap.size) (by omega) 3 (.bool tb)).drew
            have XO := (row_setF (row_setF SO HLT.out 2 (.int .i64 tv)) HLT.out 3 (.bool tb)).drew
            have XB := ((SB.setCell (p := ⟨wr.heap.size, 2, none⟩) (by simp; omega) (.int .i64 tv)).setCell (p := ⟨wr.heap.size, 3, none⟩) (by simp; omega) (.bool tb)).drew
            have hz11 : wr.heap.size + 2 ≤ ((w10.setCell ⟨wr.heap.size, 2, none⟩ (.int .i64 tv)).setCell ⟨wr.heap.size, 3, none⟩ (.bool tb)).drew.heap.size := by simpa using hz10
            clear S9 S10 S3 S5 S7 SO SB r0 r1 v2 v3 y2 y3
            generalize hW11 : ((w10.setCell ⟨wr.heap.size, 2, none⟩ (.int .i64 tv)).setCell ⟨wr.heap.size, 3, none⟩ (.bool tb)).drew = W11 at X9 X10 X3 X5 X7 XO XB hz11 ⊢
            have HW11 := Lib.hid hW11
            clear hW11
            have r0 := X9.q0
            have r1 := X9.q1
            have r2 := X9.q2
            have r3 := X9.q3
            have p0 := X10.a0
            have p1 := X10.a1
            have pp0 := (X10.alloc (.cells #[.int .i64 yr, .int .i64 yk, .int .i64 tv, .bool tb] 74)).a0
            have pp1 := (X10.alloc (.cells #[.int .i64 yr, .int .i64 yk, .int .i64 tv, .bool tb] 74)).a1
            have v0 := X7.a0
            have v1 := X7.a1
            have fz0 := X7.frozen 0
            have fz1 := X7.frozen 1
            have G3 := Lib.hid X3
            have G5 := Lib.hid X5
            have G7 := Lib.hid X7
            have G10 := Lib.hid X10
            have GO := Lib.hid XO
            have GB := Lib.hid XB
            have hmz : m ≤ 1000 := by omega
            clear X9 X10 X3 X5 X7 XO XB
            go_upto_region 12 with fail
            go_region_law (first
              | (refine step_append_lies _ (by rfl) _ _ _ (by rfl) (b + 3) 74 i0 (.agg #[.int .i64 0, .int .i64 0, .int .i64 0, .bool false]) 4 32 Try.underlying24 hi hz0 hz1 hz2 rfl (by decide) _ m (rowL L) (by rfl) (by first | exact GO.out.alloc _ | exact World.ownsRow.drew (GO.out.alloc _) | exact World.ownsRow.drew (World.ownsRow.drew (GO.out.alloc _)) | exact World.ownsRow.drew (World.ownsRow.drew (World.ownsRow.drew (GO.out.alloc _))) | exact World.ownsRow.drew (World.ownsRow.drew (World.ownsRow.drew (World.ownsRow.drew (GO.out.alloc _))))) ⟨W11.heap.size, 0, none⟩ 1 1 [.int .i64 yr, .int .i64 yk, .int .i64 tv, .bool tb] (by rfl) (by rfl) (by first | exact World.news_of_block (cs := #[.int .i64 yr, .int .i64 yk, .int .i64 tv, .bool tb]) (t := 74) (fr := (0, 0)) (heap_alloc_new W11 _)) (by simp [Value.oneCell']) (by omega) (by unfold maxLen; omega) (by omega) (by simp; omega) (W11.heap.size + 1) (by simp) ?_; intro gg cap' w12 hown12 hgrow12 hat12 hlt12; have N10 : ObjAt w12 (wr.heap.size + 1) #[.int .i64 pv, .bool pb] 99 := (hgrow12.block _ (by simp; omega) (fun e => by have := HLT.out _ e.symm; omega)).trans (G10.out.alloc _); have N7 : ObjAt w12 (b + 1 + 1) #[.int .i64 tv, .bool tb] 99 := (hgrow12.block _ (by simp; omega) (fun e => by have := (GO.out.lt _ e.symm).1; omega)).trans (G7.out.alloc _); have N5 := Lib.hid (show ObjAt w12 (b + 1) #[.int .i64 pv, .bool pb] 99 from (hgrow12.block _ (by simp; omega) (fun e => by have := (GO.out.lt _ e.symm).1; omega)).trans (G5.out.alloc _)); have N3 := Lib.hid (show ObjAt w12 b #[.func (.func ga) #[] ca, .func (.func gr) #[] cr] 81 from (hgrow12.block _ (by simp; omega) (fun e => by have := (GO.out.lt _ e.symm).1; omega)).trans (G3.out.alloc _)); have NBB := Lib.hid (show Below b w w12 from ((GB.out.alloc (by omega) _).drew).grown hgrow12 (by simp; omega) (fun j e => by have := (GO.out.lt j e).1; omega)); have NO := Lib.hid hown12; have n0 := N10.a0; have n1 := N10.a1; have k0 := N7.a0; have k1 := N7.a1; have kf0 := N7.frozen 0; have kf1 := N7.frozen 1; have NN7 := Lib.hid N7; clear hown12 hgrow12 hat12 N10 N7)
              | fail)
            all_goals
              have F7 := Lib.hid (show ObjAt ((w12.setCell ⟨b + 1 + 1, 0, none⟩ (.int .i64 pv)).setCell ⟨b + 1 + 1, 1, none⟩ (.bool pb)) (b + 1 + 1) #[.int .i64 pv, .bool pb] 99 from by have := (NN7.out.set 0 (.int .i64 pv)).set 1 (.bool pb); simpa using this)
              have F3 := Lib.hid ((N3.out.other (C := b + 1 + 1) (by omega) 0 (.int .i64 pv)).other (C := b + 1 + 1) (by omega) 1 (.bool pb))
              have F5 := Lib.hid ((N5.out.other (C := b + 1 + 1) (by omega) 0 (.int .i64 pv)).other (C := b + 1 + 1) (by omega) 1 (.bool pb))
              have FO := Lib.hid (row_setT (NN7.out.set 0 (.int .i64 pv)) (row_setT NN7.out NO.out (by decide) 0 (.int .i64 pv)) (by decide) 1 (.bool pb))
              have FB := Lib.hid ((NBB.out.setCell (p := ⟨b + 1 + 1, 0, none⟩) (by simp; omega) (.int .i64 pv)).setCell (p := ⟨b + 1 + 1, 1, none⟩) (by simp; omega) (.bool pb))
              have HL2 := Lib.hid (show (L ++ [(⟨yr, yk, tv, tb⟩ : Ly)]).length = m + 1 by rw [List.length_append, HL.out]; rfl)
              clear NN7 N3 N5 NO NBB n0 n1 k0 k1 kf0 kf1 r0 r1 r2 r3 p0 p1 pp0 pp1 v0 v1 fz0 fz1 G3 G5 G7 G10 GO GB
              go_wp2
              go_roundw
              case rel => exact ⟨k + 1, m + 1, some ⟨gg, 0, none⟩, cap', L ++ [⟨yr, yk, tv, tb⟩], (pv, pb), by omega, by omega, rfl, by go_num, HZ2, HL2, Lib.hid (by rw [rowL_snoc]; exact FO.out), F3, F5, F7, FB⟩
              case measure => simp [RowKit.intOf]; omega

    · obtain rfl : k = n := by omega
      have r0 := M7.out.a0
      have r1 := M7.out.a1
      have y0 := M7.out.frozen 0
      have y1 := M7.out.frozen 1
      have F7 : ObjAt ((wr.setCell ⟨b + 1 + 1, 0, none⟩ (.int .i64 tv)).setCell ⟨b + 1 + 1, 1, none⟩ (.bool tb)).drew (b + 1 + 1) #[.int .i64 tv, .bool tb] 99 := by have := ((M7.out.set 0 (.int .i64 tv)).set 1 (.bool tb)).drew; simpa using this
      have q0 := F7.a0
      have q1 := F7.a1
      have FB := Lib.hid (((HB.out.setCell (p := ⟨b + 1 + 1, 0, none⟩) (by simp; omega) (.int .i64 tv)).setCell (p := ⟨b + 1 + 1, 1, none⟩) (by simp; omega) (.bool tb)).drew)
      have FO := Lib.hid ((row_setT (M7.out.set 0 (.int .i64 tv)) (row_setT M7.out HO.out (by decide) 0 (.int .i64 tv)) (by decide) 1 (.bool tb)).drew)
      have HD := Lib.hid (show decL fa fr l (pv, pb) = (L, (tv, tb)) by
        have := HS.out
        rw [List.take_of_length_le (by rw [zs_len, HN.out]; exact Nat.le_refl _)] at this
        exact this)
      clear F7
      go_wp2_with fail
      go_region
      go_wp2
      refine bodyPost_ret (v := .tuple #[.slice B m cb, .agg #[.int .i64 tv, .bool tb]]) (by simp [results, Try.results85, go_sem, q0, q1]) rfl ?_
      rw [HD.out]
      have e := HL.out
      subst e
      exact ⟨B, cb, rfl, own_lower FO.out (by omega), by rw [HBB.out]; exact FB.out⟩
end Go.Proofs.Ytjhppkjngifibaa
