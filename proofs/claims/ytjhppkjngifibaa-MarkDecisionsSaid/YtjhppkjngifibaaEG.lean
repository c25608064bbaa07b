/- Layer 23: heads in memory; EqualHead. -/
import Derived.Test.YtjhppkjngifibaaE5
namespace Go.Proofs.Ytjhppkjngifibaa
open Go.RowKit Go.Lib
set_option linter.unusedVariables false

/-- A head as a value: where its lists lie. -/
def hdV (A B C : Option Addr) (np cp nd cd nl cl : Nat) (i m : Int) : Value := .agg #[.slice A np cp, .int .i64 i, .int .i64 m, .slice B nd cd, .slice C nl cl]
structure HAt (w : World) (A B C : Option Addr) (np cp nd cd nl cl : Nat) (h : Hd) : Prop where
  p : AtP w A h.props
  d : AtD w B h.dels
  l : AtL w C h.lays
  ep : h.props.length = np
  ed : h.dels.length = nd
  el : h.lays.length = nl
  cp : np ≤ cp ∧ cp ≤ maxLen
  cd : nd ≤ cd ∧ cd ≤ maxLen
  cl : nl ≤ cl ∧ cl ≤ maxLen
theorem HAt.below {w w' : World} {A B C : Option Addr} {np cp nd cd nl cl : Nat} {h : Hd} (x : HAt w A B C np cp nd cd nl cl h) {n : Nat} (hb : Below n w w') (hn : w.heap.size ≤ n) : HAt w' A B C np cp nd cd nl cl h :=
  ⟨x.p.below hb hn, x.d.below hb hn, x.l.below hb hn, x.ep, x.ed, x.el, x.cp, x.cd, x.cl⟩
/-- Lists of moderate length. -/
structure Mod (h : Hd) : Prop where
  p : h.props.length ≤ 500
  d : h.dels.length ≤ 500
  l : h.lays.length ≤ 500
/-- A value that reads as a head. -/
def HVal (w : World) (v : Value) (h : Hd) : Prop := ∃ A B C np cp nd cd nl cl, v = hdV A B C np cp nd cd nl cl h.ins h.move ∧ HAt w A B C np cp nd cd nl cl h
theorem HVal.below {w w' : World} {v : Value} {h : Hd} (x : HVal w v h) {n : Nat} (hb : Below n w w') (hn : w.heap.size ≤ n) : HVal w' v h := by
  obtain ⟨A, B, C, np, cp, nd, cd, nl, cl, rfl, y⟩ := x
  exact ⟨A, B, C, np, cp, nd, cd, nl, cl, rfl, y.below hb hn⟩
set_option maxRecDepth 100000 in
set_option maxHeartbeats 8000000 in
theorem eqhead_at (a b : Hd) (ha : Mod a) (hb : Mod b) (A B C A' B' C' : Option Addr) (np cp nd cd nl cl np' cp' nd' cd' nl' cl' : Nat) (w : World) (hA : HAt w A B C np cp nd cd nl cl a) (hB : HAt w A' B' C' np' cp' nd' cd' nl' cl' b) :
    Calls Try.prog 18 #[hdV A B C np cp nd cd nl cl a.ins a.move, hdV A' B' C' np' cp' nd' cd' nl' cl' b.ins b.move] w fun e w' => e = .returned (.bool (decide (a = b))) ∧ Below w.heap.size w w' := by
  have b0 := ((Below.refl w.heap.size w).alloc (Nat.le_refl _) (.cells #[.slice A np cp, .int .i64 a.ins, .int .i64 a.move, .slice B nd cd, .slice C nl cl] 28)).alloc (by simp) (.cells #[.slice A' np' cp', .int .i64 b.ins, .int .i64 b.move, .slice B' nd' cd', .slice C' nl' cl'] 28)
  have O1 := (ObjAt.new w #[.slice A np cp, .int .i64 a.ins, .int .i64 a.move, .slice B nd cd, .slice C nl cl] 28).alloc (.cells #[.slice A' np' cp', .int .i64 b.ins, .int .i64 b.move, .slice B' nd' cd', .slice C' nl' cl'] 28)
  have O2 := ObjAt.new (w.alloc (.cells #[.slice A np cp, .int .i64 a.ins, .int .i64 a.move, .slice B nd cd, .slice C nl cl] 28)) #[.slice A' np' cp', .int .i64 b.ins, .int .i64 b.move, .slice B' nd' cd', .slice C' nl' cl'] 28
  have cP := fun w' (hw : Below w.heap.size w w') => eqlistP_any a.props b.props np np' hA.ep hB.ep (by have := hA.ep; have := ha.p; omega) (by have := hB.ep; have := hb.p; omega) A A' cp cp' w' (hA.p.below hw (Nat.le_refl _)) (hB.p.below hw (Nat.le_refl _))
  have cD := fun w' (hw : Below w.heap.size w w') => eqlistD_any a.dels b.dels nd nd' hA.ed hB.ed (by have := hA.ed; have := ha.d; omega) (by have := hB.ed; have := hb.d; omega) B B' cd cd' w' (hA.d.below hw (Nat.le_refl _)) (hB.d.below hw (Nat.le_refl _))
  have cL := fun w' (hw : Below w.heap.size w w') => eqlistL_any a.lays b.lays nl nl' hA.el hB.el (by have := hA.el; have := ha.l; omega) (by have := hB.el; have := hb.l; omega) C C' cl cl' w' (hA.l.below hw (Nat.le_refl _)) (hB.l.below hw (Nat.le_refl _))
  have HE := Lib.hid (show decide (a = b) = (decide (a.ins = b.ins) && decide (a.move = b.move) && decide (a.props = b.props) && decide (a.dels = b.dels) && decide (a.lays = b.lays)) by
    rw [← Bool.decide_and, ← Bool.decide_and, ← Bool.decide_and, ← Bool.decide_and, decide_eq_decide]
    cases a; cases b
    simp only [Hd.mk.injEq]
    constructor
    · rintro ⟨h1, h2, h3, h4, h5⟩; exact ⟨⟨⟨⟨h2, h3⟩, h1⟩, h4⟩, h5⟩
    · rintro ⟨⟨⟨⟨h2, h3⟩, h1⟩, h4⟩, h5⟩; exact ⟨h1, h2, h3, h4, h5⟩)
  generalize decide (a.props = b.props) = rp at cP HE
  generalize decide (a.dels = b.dels) = rd at cD HE
  generalize decide (a.lays = b.lays) = rl at cL HE
  generalize a.ins = ai at b0 O1 O2 HE ⊢
  generalize a.move = am at b0 O1 O2 HE ⊢
  generalize b.ins = bi at b0 O1 O2 HE ⊢
  generalize b.move = bm at b0 O1 O2 HE ⊢
  have HB0 := Lib.hid b0
  have s0 := b0.size
  have P1 := Lib.hid O1
  have P2 := Lib.hid O2
  clear b0 O1 O2 hA hB ha hb
  unfold hdV
  by_cases h1 : ai = bi
  case neg =>
    have e1 : (ai == bi) = false := neB h1
    have HF := Lib.hid (show decide (a = b) = false by rw [HE.out, decide_eq_false h1]; simp)
    clear h1 HE cP cD cL
    go_enter Try.func18, Try.ntmps18
    go_wp2
    go_ret
    exact ⟨by rw [HF.out]; rfl, HB0.out⟩
  by_cases h2 : am = bm
  case neg =>
    have e1 : (ai == bi) = true := by simpa using h1
    have e2 : (am == bm) = false := neB h2
    have HF := Lib.hid (show decide (a = b) = false by rw [HE.out, decide_eq_false h2]; simp)
    clear h1 h2 HE cP cD cL
    go_enter Try.func18, Try.ntmps18
    go_wp2
    go_ret
    exact ⟨by rw [HF.out]; rfl, HB0.out⟩
  have e1 : (ai == bi) = true := by simpa using h1
  have e2 : (am == bm) = true := by simpa using h2
  have HE2 := Lib.hid (HE.out.trans (by rw [decide_eq_true h1, decide_eq_true h2, Bool.true_and, Bool.true_and] : _ = (rp && rd && rl)))
  clear h1 h2 HE
  have c1 := cP _ HB0.out
  cases rp with
  | false =>
    clear cP cD cL
    go_enter Try.func18, Try.ntmps18
    go_wp2_with fail
    (with_reducible refine c1.mono ?_)
    rintro e w1 ⟨rfl, k1⟩
    have K1 := Lib.hid (HB0.out.trans (k1.mono s0))
    go_wp2
    go_ret
    exact ⟨by rw [HE2.out]; rfl, K1.out⟩
  | true =>
    clear cP
    go_enter Try.func18, Try.ntmps18
    go_wp2_with fail
    (with_reducible refine c1.mono ?_)
    rintro e w1 ⟨rfl, k1⟩
    have K1 := Lib.hid (HB0.out.trans (k1.mono s0))
    have Q1 := P1.out.below k1
    have Q2 := P2.out.below k1
    have x3 := Q1.get (k := 3) (v := .slice B nd cd) rfl
    have x4 := Q1.get (k := 4) (v := .slice C nl cl) rfl
    have y3 := Q2.get (k := 3) (v := .slice B' nd' cd') rfl
    have y4 := Q2.get (k := 4) (v := .slice C' nl' cl') rfl
    rw [World.size_alloc] at y3 y4
    have s1 := K1.out.size
    have c2 := cD _ K1.out
    clear c1 k1 Q1 Q2
    cases rd with
    | false =>
      clear cD cL
      go_wp2_with fail
      (with_reducible refine c2.mono ?_)
      rintro e w2 ⟨rfl, k2⟩
      have K2 := Lib.hid (K1.out.trans (k2.mono s1))
      clear x3 x4 y3 y4 c2 k2
      go_wp2
      go_ret
      exact ⟨by rw [HE2.out]; rfl, K2.out⟩
    | true =>
      clear cD
      go_wp2_with fail
      (with_reducible refine c2.mono ?_)
      rintro e w2 ⟨rfl, k2⟩
      have K2 := Lib.hid (K1.out.trans (k2.mono s1))
      have hl1 : w.heap.size < w1.heap.size := by have := World.block_lt_of_cell? w1 ⟨w.heap.size, 4, none⟩ x4; exact this
      have hl2 : w.heap.size + 1 < w1.heap.size := by have := World.block_lt_of_cell? w1 ⟨w.heap.size + 1, 4, none⟩ y4; exact this
      have x5 := (k2.cell (p := ⟨w.heap.size, 4, none⟩) hl1).trans x4
      have y5 := (k2.cell (p := ⟨w.heap.size + 1, 4, none⟩) hl2).trans y4
      have s2 := K2.out.size
      have c3 := cL _ K2.out
      clear c2 k2 x3 x4 y3 y4 cL
      go_wp2_with fail
      (with_reducible refine c3.mono ?_)
      rintro e w3 ⟨rfl, k3⟩
      have K3 := Lib.hid (K2.out.trans (k3.mono s2))
      clear x5 y5 c3 k3
      go_wp2
      go_ret
      exact ⟨by rw [HE2.out]; rfl, K3.out⟩
theorem eqhead_any (a b : Hd) (ha : Mod a) (hb : Mod b) (u v : Value) (w : World) (hA : HVal w u a) (hB : HVal w v b) :
    Calls Try.prog 18 #[u, v] w fun e w' => e = .returned (.bool (decide (a = b))) ∧ Below w.heap.size w w' := by
  obtain ⟨A, B, C, np, cp, nd, cd, nl, cl, rfl, hA⟩ := hA
  obtain ⟨A', B', C', np', cp', nd', cd', nl', cl', rfl, hB⟩ := hB
  exact eqhead_at a b ha hb A B C A' B' C' np cp nd cd nl cl np' cp' nd' cd' nl' cl' w hA hB
end Go.Proofs.Ytjhppkjngifibaa
