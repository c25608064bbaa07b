/- Layer 23: CloneHead. -/
import Derived.Test.YtjhppkjngifibaaEB
import Derived.Test.YtjhppkjngifibaaEG
import Derived.Test.YtjhppkjngifibaaEE
namespace Go.Proofs.Ytjhppkjngifibaa
open Go.RowKit Go.Lib
set_option linter.unusedVariables false

/-- A head of the call's own. -/
structure HOwn (w : World) (base : Nat) (A B C : Option Addr) (cp cd cl : Nat) (h : Hd) : Prop where
  p : w.ownsRow base 61 2 (.slice A h.props.length cp) h.props.length (rowP h.props)
  d : w.ownsRow base 59 2 (.slice B h.dels.length cd) h.dels.length (rowD h.dels)
  l : w.ownsRow base 74 4 (.slice C h.lays.length cl) h.lays.length (rowL h.lays)
theorem HOwn.at {w : World} {base : Nat} {A B C : Option Addr} {cp cd cl : Nat} {h : Hd} (x : HOwn w base A B C cp cd cl h) : HAt w A B C h.props.length cp h.dels.length cd h.lays.length cl h :=
  ⟨own_atP x.p rfl, own_atD x.d rfl, own_atL x.l rfl, rfl, rfl, rfl, own_caps x.p, own_caps x.d, own_caps x.l⟩
theorem HOwn.below {w w' : World} {base : Nat} {A B C : Option Addr} {cp cd cl : Nat} {h : Hd} (x : HOwn w base A B C cp cd cl h) (hb : Below w.heap.size w w') : HOwn w' base A B C cp cd cl h :=
  ⟨row_below x.p hb, row_below x.d hb, row_below x.l hb⟩
/-- What hands back such a head. -/
def HRet (base : Nat) (h : Hd) (w : World) (e : Ending) (w' : World) : Prop := ∃ A B C cp cd cl, e = .returned (hdV A B C h.props.length cp h.dels.length cd h.lays.length cl h.ins h.move) ∧ HOwn w' base A B C cp cd cl h ∧ Below w.heap.size w w'
set_option maxRecDepth 100000 in
set_option maxHeartbeats 8000000 in
theorem clonehead_any (h : Hd) (hm : Mod h) (A B C : Option Addr) (np cp nd cd nl cl : Nat) (w : World) (hA : HAt w A B C np cp nd cd nl cl h) :
    Calls Try.prog 66 #[hdV A B C np cp nd cd nl cl h.ins h.move] w (HRet w.heap.size h w) := by
  obtain ⟨hp, hd, hl, ep, ed, el, hcp, hcd, hcl⟩ := hA
  obtain ⟨mp, md, ml⟩ := hm
  subst ep ed el
  have cP := fun w' (hb : Below w.heap.size w w') => cloneP_any A h.props.length cp h.props rfl hcp (by omega) w' (hp.below hb (Nat.le_refl _))
  have cD := fun w' (hb : Below w.heap.size w w') => cloneD_any B h.dels.length cd h.dels rfl hcd (by omega) w' (hd.below hb (Nat.le_refl _))
  have cL := fun w' (hb : Below w.heap.size w w') => cloneL_any C h.lays.length cl h.lays rfl hcl (by omega) w' (hl.below hb (Nat.le_refl _))
  clear hp hd hl hcp hcd hcl
  obtain ⟨lp, i, m, ld, ll⟩ := h
  dsimp only at *
  unfold HRet hdV
  dsimp only
  generalize hnp : lp.length = np at cP ⊢
  generalize hnd : ld.length = nd at cD ⊢
  generalize hnl : ll.length = nl at cL ⊢
  have NP := Lib.hid hnp
  have ND := Lib.hid hnd
  have NL := Lib.hid hnl
  clear hnp hnd hnl mp md ml
  have b0 := ((Below.refl w.heap.size w).alloc (Nat.le_refl _) (.cells #[.slice A np cp, .int .i64 i, .int .i64 m, .slice B nd cd, .slice C nl cl] 28)).alloc (by simp) (.cells #[.slice none 0 0, .int .i64 0, .int .i64 0, .slice none 0 0, .slice none 0 0] 28)
  have O1 := (ObjAt.new w #[.slice A np cp, .int .i64 i, .int .i64 m, .slice B nd cd, .slice C nl cl] 28).alloc (.cells #[.slice none 0 0, .int .i64 0, .int .i64 0, .slice none 0 0, .slice none 0 0] 28)
  have O2 := ObjAt.new (w.alloc (.cells #[.slice A np cp, .int .i64 i, .int .i64 m, .slice B nd cd, .slice C nl cl] 28)) #[.slice none 0 0, .int .i64 0, .int .i64 0, .slice none 0 0, .slice none 0 0] 28
  rw [World.size_alloc] at O2
  have HB := Lib.hid b0
  have s0 := b0.size
  have P1 := Lib.hid O1
  have P2 := Lib.hid O2
  have c1 := cP _ b0
  clear cP b0 O1 O2
  go_enter Try.func66, Try.ntmps66
  go_wp2_with fail
  (with_reducible refine c1.mono ?_)
  rintro e w1 ⟨A1, ca, rfl, r1, k1⟩
  have K1 := Lib.hid (HB.out.trans (k1.mono s0))
  have s1 := K1.out.size
  have X1 := P1.out.below k1
  have Y1 := Lib.hid (P2.out.below k1)
  have R1 := Lib.hid (own_lower (b' := w.heap.size + 2) r1 (by simp))
  have hz : w.heap.size + 2 ≤ w1.heap.size := by have := k1.size; simpa using this
  have x0 := X1.get (k := 0) (v := .slice A np cp) rfl
  have x3 := X1.get (k := 3) (v := .slice B nd cd) rfl
  have f0 := X1.frozen 0
  have X2 := Lib.hid (X1.set 0 (.slice A1 np ca))
  have K2 := Lib.hid (K1.out.setCell (p := ⟨w.heap.size, 0, none⟩) (Nat.le_refl _) (.slice A1 np ca))
  have Y2 := Lib.hid (Y1.out.other (C := w.heap.size) (by omega) 0 (.slice A1 np ca))
  have R2 := Lib.hid (row_setO R1.out (b := w.heap.size) (by omega) 0 (.slice A1 np ca))
  have hx3 := X2.out.get (k := 3) (v := .slice B nd cd) (by simp)
  clear c1 k1 r1 X1
  have c2 := cD _ K2.out
  go_wp2_with fail
  (with_reducible refine c2.mono ?_)
  rintro e w2 ⟨B2, cb, rfl, r2, k2⟩
  have K3 := Lib.hid (K2.out.trans (k2.mono (by simpa [World.setCell] using s1)))
  have s3 := K3.out.size
  have hz2 : w.heap.size + 2 ≤ w2.heap.size := by have := k2.size; simp only [World.size_setCell] at this; omega
  have X3 := X2.out.below k2
  have Y3 := Lib.hid (Y2.out.below k2)
  have R3 := Lib.hid (row_below R2.out k2)
  have D3 := Lib.hid (own_lower (b' := w.heap.size + 2) r2 (by simp only [World.size_setCell]; omega))
  have y3 := X3.get (k := 3) (v := .slice B nd cd) (by simp)
  have f3 := X3.frozen 3
  have X4 := Lib.hid (X3.set 3 (.slice B2 nd cb))
  have K4 := Lib.hid (K3.out.setCell (p := ⟨w.heap.size, 3, none⟩) (Nat.le_refl _) (.slice B2 nd cb))
  have Y4 := Lib.hid (Y3.out.other (C := w.heap.size) (by omega) 3 (.slice B2 nd cb))
  have R4 := Lib.hid (row_setO R3.out (b := w.heap.size) (by omega) 3 (.slice B2 nd cb))
  have D4 := Lib.hid (row_setO D3.out (b := w.heap.size) (by omega) 3 (.slice B2 nd cb))
  have hx4 := X4.out.get (k := 4) (v := .slice C nl cl) (by simp)
  clear c2 k2 r2 X3 x0 x3 f0 hx3
  have c3 := cL _ K4.out
  go_wp2_with fail
  (with_reducible refine c3.mono ?_)
  rintro e w3 ⟨C3, cc, rfl, r3, k3⟩
  have K5 := Lib.hid (K4.out.trans (k3.mono (by simpa [World.setCell] using s3)))
  have hz3 : w.heap.size + 2 ≤ w3.heap.size := by have := k3.size; simp only [World.size_setCell] at this; omega
  have X5 := X4.out.below k3
  have Y5 := Y4.out.below k3
  have R5 := Lib.hid (row_below R4.out k3)
  have D5 := Lib.hid (row_below D4.out k3)
  have L5 := Lib.hid (own_lower (b' := w.heap.size + 2) r3 (by simp only [World.size_setCell]; omega))
  have z4 := X5.get (k := 4) (v := .slice C nl cl) (by simp)
  have f4 := X5.frozen 4
  have X6 := X5.set 4 (.slice C3 nl cc)
  have Y6 := Y5.other (C := w.heap.size) (by omega) 4 (.slice C3 nl cc)
  have v0 := X6.get (k := 0) (v := .slice A1 np ca) (by simp)
  have v1 := X6.get (k := 1) (v := .int .i64 i) (by simp)
  have v2 := X6.get (k := 2) (v := .int .i64 m) (by simp)
  have v3 := X6.get (k := 3) (v := .slice B2 nd cb) (by simp)
  have v4 := X6.get (k := 4) (v := .slice C3 nl cc) (by simp)
  have g0 := Y6.frozen 0
  have g1 := Y6.frozen 1
  have g2 := Y6.frozen 2
  have g3 := Y6.frozen 3
  have g4 := Y6.frozen 4
  have u0 := Y6.get (k := 0) (v := .slice none 0 0) rfl
  have u1 := Y6.get (k := 1) (v := .int .i64 0) rfl
  have u2 := Y6.get (k := 2) (v := .int .i64 0) rfl
  have u3 := Y6.get (k := 3) (v := .slice none 0 0) rfl
  have u4 := Y6.get (k := 4) (v := .slice none 0 0) rfl
  have YF := ((((Y6.set 0 (.slice A1 np ca)).set 1 (.int .i64 i)).set 2 (.int .i64 m)).set 3 (.slice B2 nd cb)).set 4 (.slice C3 nl cc)
  have q0 := YF.get (k := 0) (v := .slice A1 np ca) (by simp)
  have q1 := YF.get (k := 1) (v := .int .i64 i) (by simp)
  have q2 := YF.get (k := 2) (v := .int .i64 m) (by simp)
  have q3 := YF.get (k := 3) (v := .slice B2 nd cb) (by simp)
  have q4 := YF.get (k := 4) (v := .slice C3 nl cc) (by simp)
  have K6 := K5.out.setCell (p := ⟨w.heap.size, 4, none⟩) (Nat.le_refl _) (.slice C3 nl cc)
  have KF := Lib.hid (((((K6.setCell (p := ⟨w.heap.size + 1, 0, none⟩) (Nat.le_succ _) (.slice A1 np ca)).setCell (p := ⟨w.heap.size + 1, 1, none⟩) (Nat.le_succ _) (.int .i64 i)).setCell (p := ⟨w.heap.size + 1, 2, none⟩) (Nat.le_succ _) (.int .i64 m)).setCell (p := ⟨w.heap.size + 1, 3, none⟩) (Nat.le_succ _) (.slice B2 nd cb)).setCell (p := ⟨w.heap.size + 1, 4, none⟩) (Nat.le_succ _) (.slice C3 nl cc))
  have upR := fun {n sz : Nat} {t : TypeId} {v : Value} {xs : List Value} (r : w3.ownsRow (w.heap.size + 2) t sz v n xs) =>
    row_setO (row_setO (row_setO (row_setO (row_setO (row_setO r (b := w.heap.size) (by omega) 4 (.slice C3 nl cc)) (b := w.heap.size + 1) (by omega) 0 (.slice A1 np ca)) (b := w.heap.size + 1) (by omega) 1 (.int .i64 i)) (b := w.heap.size + 1) (by omega) 2 (.int .i64 m)) (b := w.heap.size + 1) (by omega) 3 (.slice B2 nd cb)) (b := w.heap.size + 1) (by omega) 4 (.slice C3 nl cc)
  have RF := Lib.hid (own_lower (b' := w.heap.size) (upR R5.out) (by omega))
  have DF := Lib.hid (own_lower (b' := w.heap.size) (upR D5.out) (by omega))
  have LF := Lib.hid (own_lower (b' := w.heap.size) (upR L5.out) (by omega))
  clear c3 k3 r3 X5 X6 Y5 Y6 YF K6 upR y3 f3 hx4 cD cL
  go_wp2
  refine bodyPost_ret (v := .agg #[.slice A1 np ca, .int .i64 i, .int .i64 m, .slice B2 nd cb, .slice C3 nl cc]) (by simp [results, Try.results66, go_sem, q0, q1, q2, q3, q4]) rfl ⟨A1, B2, C3, ca, cb, cc, rfl, ?_, KF.out⟩
  have e1 := NP.out
  have e2 := ND.out
  have e3 := NL.out
  subst e1 e2 e3
  exact ⟨RF.out, DF.out, LF.out⟩
end Go.Proofs.Ytjhppkjngifibaa
