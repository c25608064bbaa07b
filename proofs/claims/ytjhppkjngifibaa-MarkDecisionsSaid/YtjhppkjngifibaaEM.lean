/- Layer 23: verdict.decide. -/
import Derived.Test.YtjhppkjngifibaaEM1
import Derived.Sort.CutIn
namespace Go.Proofs.Ytjhppkjngifibaa
open Go.RowKit Go.Lib
set_option linter.unusedVariables false

/-- What deciding a head hands back. -/
def DRet (fa fr : Int → Bool) (h : Hd) (w : World) (e : Ending) (w' : World) : Prop :=
  ∃ r A B C cp cd cl, r = (if goneH fa fr h then ⟨[], 0, 0, [], []⟩ else keptH fa fr h) ∧ e = .returned (.tuple #[hdV A B C r.props.length cp r.dels.length cd r.lays.length cl r.ins r.move, .bool (!goneH fa fr h)]) ∧ HOwn w' w.heap.size A B C cp cd cl r ∧ Below w.heap.size w w'
theorem hown_zero (w : World) (base : Nat) : HOwn w base none none none 0 0 0 ⟨[], 0, 0, [], []⟩ := ⟨World.ownsRow_nil _ _ _ _, World.ownsRow_nil _ _ _ _, World.ownsRow_nil _ _ _ _⟩
attribute [local go_sem] Oper.semAt_some
set_option maxRecDepth 100000 in
set_option maxHeartbeats 16000000 in
theorem decide_any (h : Hd) (ho : Ord h) (hm : Mod h) (hpl : h.props.length + h.lays.length ≤ 900) (ga gr : Nat) (ca cr : Array Value) (fa fr : Int → Bool) (A B C : Option Addr) (np cp nd cd nl cl : Nat) (w : World) (hA : HAt w A B C np cp nd cd nl cl h) (hTa : TestN ga ca fa w.heap.size w) (hTr : TestN gr cr fr w.heap.size w) :
    Calls Try.prog 48 #[.agg #[.func (.func ga) #[] ca, .func (.func gr) #[] cr], hdV A B C np cp nd cd nl cl h.ins h.move] w (DRet fa fr h w) := by
  have HO := Lib.hid ho
  have HM := Lib.hid hm
  have HPL := Lib.hid hpl
  clear hpl
  have HA := Lib.hid hA
  have TA := Lib.hid hTa
  have TR := Lib.hid hTr
  have egA := hTa.en
  have egR := hTr.en
  obtain ⟨hi, hhi⟩ : ∃ x, h.ins = x := ⟨_, rfl⟩
  obtain ⟨hmv, hhm⟩ : ∃ x, h.move = x := ⟨_, rfl⟩
  have b0 := (((Below.refl w.heap.size w).alloc (Nat.le_refl _) (.cells #[.func (.func ga) #[] ca, .func (.func gr) #[] cr] 81)).alloc (by simp) (.cells #[.slice A np cp, .int .i64 hi, .int .i64 hmv, .slice B nd cd, .slice C nl cl] 28)).alloc (by simp; omega) (.cells #[.slice none 0 0, .int .i64 0, .int .i64 0, .slice none 0 0, .slice none 0 0] 28)
  have O1 := ((ObjAt.new w #[.func (.func ga) #[] ca, .func (.func gr) #[] cr] 81).alloc (.cells #[.slice A np cp, .int .i64 hi, .int .i64 hmv, .slice B nd cd, .slice C nl cl] 28)).alloc (.cells #[.slice none 0 0, .int .i64 0, .int .i64 0, .slice none 0 0, .slice none 0 0] 28)
  have O2 := (ObjAt.new (w.alloc (.cells #[.func (.func ga) #[] ca, .func (.func gr) #[] cr] 81)) #[.slice A np cp, .int .i64 hi, .int .i64 hmv, .slice B nd cd, .slice C nl cl] 28).alloc (.cells #[.slice none 0 0, .int .i64 0, .int .i64 0, .slice none 0 0, .slice none 0 0] 28)
  have O3 := ObjAt.new ((w.alloc (.cells #[.func (.func ga) #[] ca, .func (.func gr) #[] cr] 81)).alloc (.cells #[.slice A np cp, .int .i64 hi, .int .i64 hmv, .slice B nd cd, .slice C nl cl] 28)) #[.slice none 0 0, .int .i64 0, .int .i64 0, .slice none 0 0, .slice none 0 0] 28
  rw [World.size_alloc] at O2 O3
  rw [World.size_alloc] at O3
  have s0 := b0.size
  have cR := removes_any ga gr ca cr fa fr h.dels nd cd nl cl hA.ed (by have := hA.ed; have := hm.d; omega) h.ins h.move B C _ (hA.d.below b0 (Nat.le_refl _)) (hTa.later b0 s0) (hTr.later b0 s0)
  obtain ⟨gn, hgn⟩ : ∃ x, goneH fa fr h = x := ⟨_, rfl⟩
  rw [show ((decide (h.ins ≠ 0) && fr h.ins) || h.dels.any (fun d => fa d.rev)) = gn from hgn] at cR
  have cC := fun w1 (hb : Below w.heap.size w w1) => clonehead_any h hm A B C np cp nd cd nl cl w1 (hA.below hb (Nat.le_refl _))
  unfold hdV at cC ⊢
  unfold DRet
  rw [hgn]
  obtain ⟨res, hres⟩ : ∃ r, (if gn then (⟨[], 0, 0, [], []⟩ : Hd) else keptH fa fr h) = r := ⟨_, rfl⟩
  rw [hres]
  have HRES := Lib.hid hres
  clear hres
  rw [hhi, hhm] at cR cC
  rw [hhi, hhm]
  have HG := Lib.hid hgn
  have HI := Lib.hid hhi
  have HMV := Lib.hid hhm
  have H1 := Lib.hid O1
  have H2 := Lib.hid O2
  have H3 := Lib.hid O3
  have hb := Lib.hid b0
  have CC := Lib.hid cC
  clear hgn hhi hhm O1 O2 O3 b0 cC hTa hTr hA ho hm
  obtain ⟨b, hbb⟩ : ∃ b, w.heap.size = b := ⟨_, rfl⟩
  rw [hbb] at hb s0 H1 H2 H3 CC TA TR ⊢
  have HBB := Lib.hid hbb
  refine (callsIn_wide (n := 7)).1 ?_
  refine callsIn_of_wp_marks Try.func48 rfl trivial ?_ rfl
  simp only [Try.ntmps48, List.size_toArray, List.length_cons, List.length_nil, Nat.reduceAdd, Nat.reduceSub, Array.replicate_succ, Array.replicate_zero, List.push_toArray, List.append_toArray, List.nil_append, List.cons_append]
  refine wpIn_wide.2 ?_
  go_wp2_with fail
  (with_reducible refine cR.mono ?_)
  rintro e w1 ⟨rfl, k1⟩
  have K1 := Lib.hid (hb.out.trans (k1.mono s0))
  have X1 := Lib.hid (H1.out.below k1)
  have X2 := Lib.hid (H2.out.below k1)
  have X3 := Lib.hid (H3.out.below k1)
  have s1 := K1.out.size
  rw [HBB.out] at s1
  have hz1 : b + 3 ≤ w1.heap.size := by have := X3.out.lt; omega
  clear cR k1 H1 H2 H3 hb
  cases gn with
  | true =>
    have f0 := X3.out.frozen 0
    have f1 := X3.out.frozen 1
    have f2 := X3.out.frozen 2
    have f3 := X3.out.frozen 3
    have f4 := X3.out.frozen 4
    have YF := ((((X3.out.set 0 (.slice none 0 0)).set 1 (.int .i64 0)).set 2 (.int .i64 0)).set 3 (.slice none 0 0)).set 4 (.slice none 0 0)
    have q0 := YF.get (k := 0) (v := .slice none 0 0) (by simp)
    have q1 := YF.get (k := 1) (v := .int .i64 0) (by simp)
    have q2 := YF.get (k := 2) (v := .int .i64 0) (by simp)
    have q3 := YF.get (k := 3) (v := .slice none 0 0) (by simp)
    have q4 := YF.get (k := 4) (v := .slice none 0 0) (by simp)
    have x0 := X3.out.get (k := 0) (v := .slice none 0 0) rfl
    have x1 := X3.out.get (k := 1) (v := .int .i64 0) rfl
    have x2 := X3.out.get (k := 2) (v := .int .i64 0) rfl
    have x3 := X3.out.get (k := 3) (v := .slice none 0 0) rfl
    have x4 := X3.out.get (k := 4) (v := .slice none 0 0) rfl
    have KF := Lib.hid (((((K1.out.setCell (p := ⟨b + 1 + 1, 0, none⟩) (Nat.le_add_right b 2) (.slice none 0 0)).setCell (p := ⟨b + 1 + 1, 1, none⟩) (Nat.le_add_right b 2) (.int .i64 0)).setCell (p := ⟨b + 1 + 1, 2, none⟩) (Nat.le_add_right b 2) (.int .i64 0)).setCell (p := ⟨b + 1 + 1, 3, none⟩) (Nat.le_add_right b 2) (.slice none 0 0)).setCell (p := ⟨b + 1 + 1, 4, none⟩) (Nat.le_add_right b 2) (.slice none 0 0))
    clear YF
    go_wp2
    refine ⟨.tuple #[.agg #[.slice none 0 0, .int .i64 0, .int .i64 0, .slice none 0 0, .slice none 0 0], .bool false], by simp [results, Try.results48, go_sem, q0, q1, q2, q3, q4], ?_⟩
    exact ⟨⟨[], 0, 0, [], []⟩, none, none, none, 0, 0, 0, HRES.out, rfl, hown_zero _ _, KF.out⟩
  | false =>
    have y0 := X2.out.get (k := 0) (v := .slice A np cp) rfl
    have y1 := X2.out.get (k := 1) (v := .int .i64 hi) rfl
    have y2 := X2.out.get (k := 2) (v := .int .i64 hmv) rfl
    have y3 := X2.out.get (k := 3) (v := .slice B nd cd) rfl
    have y4 := X2.out.get (k := 4) (v := .slice C nl cl) rfl
    have cC := CC.out w1 K1.out
    go_wp2_with fail
    (with_reducible refine cC.mono ?_)
    rintro e w2 ⟨PA, PD, PL, c1, c2, c3, rfl, hown, k2⟩
    have K2 := Lib.hid (K1.out.trans (k2.mono s1))
    have Z1 := Lib.hid (X1.out.below k2)
    have Z2 := Lib.hid (X2.out.below k2)
    have Z3 := X3.out.below k2
    have RP := Lib.hid (own_lower (b' := b + 3) hown.p hz1)
    have RD := Lib.hid (own_lower (b' := b + 3) hown.d hz1)
    obtain ⟨np2, hnp2⟩ : ∃ x, h.props.length = x := ⟨_, rfl⟩
    obtain ⟨nd2, hnd2⟩ : ∃ x, h.dels.length = x := ⟨_, rfl⟩
    obtain ⟨nl2, hnl2⟩ : ∃ x, h.lays.length = x := ⟨_, rfl⟩
    rw [hnp2] at RP ⊢
    rw [hnd2] at RD ⊢
    rw [hnl2, HI.out, HMV.out]
    unfold hdV
    have x0 := Z3.get (k := 0) (v := .slice none 0 0) rfl
    have x1 := Z3.get (k := 1) (v := .int .i64 0) rfl
    have x2 := Z3.get (k := 2) (v := .int .i64 0) rfl
    have x3 := Z3.get (k := 3) (v := .slice none 0 0) rfl
    have x4 := Z3.get (k := 4) (v := .slice none 0 0) rfl
    have f0 := Z3.frozen 0
    have f1 := Z3.frozen 1
    have f2 := Z3.frozen 2
    have f3 := Z3.frozen 3
    have f4 := Z3.frozen 4
    have YF := Lib.hid (show ObjAt (((((w2.setCell ⟨b + 1 + 1, 0, none⟩ (.slice PA np2 c1)).setCell ⟨b + 1 + 1, 1, none⟩ (.int .i64 hi)).setCell ⟨b + 1 + 1, 2, none⟩ (.int .i64 hmv)).setCell ⟨b + 1 + 1, 3, none⟩ (.slice PD nd2 c2)).setCell ⟨b + 1 + 1, 4, none⟩ (.slice PL nl2 c3)) (b + 1 + 1) #[.slice PA np2 c1, .int .i64 hi, .int .i64 hmv, .slice PD nd2 c2, .slice PL nl2 c3] 28 from by
      have := ((((Z3.set 0 (.slice PA np2 c1)).set 1 (.int .i64 hi)).set 2 (.int .i64 hmv)).set 3 (.slice PD nd2 c2)).set 4 (.slice PL nl2 c3)
      simpa using this)
    have up := fun {c : Array Value} {t : TypeId} {q : Nat} (r : ObjAt w2 q c t) (hq : q ≠ b + 1 + 1) =>
      ((((r.other (C := b + 1 + 1) hq 0 (.slice PA np2 c1)).other (C := b + 1 + 1) hq 1 (.int .i64 hi)).other (C := b + 1 + 1) hq 2 (.int .i64 hmv)).other (C := b + 1 + 1) hq 3 (.slice PD nd2 c2)).other (C := b + 1 + 1) hq 4 (.slice PL nl2 c3)
    have upR := fun {n sz : Nat} {t : TypeId} {v : Value} {xs : List Value} (r : w2.ownsRow (b + 3) t sz v n xs) =>
      row_setO (row_setO (row_setO (row_setO (row_setO r (b := b + 1 + 1) (by omega) 0 (.slice PA np2 c1)) (b := b + 1 + 1) (by omega) 1 (.int .i64 hi)) (b := b + 1 + 1) (by omega) 2 (.int .i64 hmv)) (b := b + 1 + 1) (by omega) 3 (.slice PD nd2 c2)) (b := b + 1 + 1) (by omega) 4 (.slice PL nl2 c3)
    have Y1 := Lib.hid (up Z1.out (by omega))
    have Y2 := Lib.hid (up Z2.out (by omega))
    have YP := Lib.hid (upR RP.out)
    have YD := Lib.hid (upR RD.out)
    have YK := Lib.hid (((((K2.out.setCell (p := ⟨b + 1 + 1, 0, none⟩) (Nat.le_add_right b 2) (.slice PA np2 c1)).setCell (p := ⟨b + 1 + 1, 1, none⟩) (Nat.le_add_right b 2) (.int .i64 hi)).setCell (p := ⟨b + 1 + 1, 2, none⟩) (Nat.le_add_right b 2) (.int .i64 hmv)).setCell (p := ⟨b + 1 + 1, 3, none⟩) (Nat.le_add_right b 2) (.slice PD nd2 c2)).setCell (p := ⟨b + 1 + 1, 4, none⟩) (Nat.le_add_right b 2) (.slice PL nl2 c3))
    clear up upR hown cC k2 Z3
    go_upto_region 4 with fail

    generalize hW3 : ((((w2.setCell ⟨b + 1 + 1, 0, none⟩ (.slice PA np2 c1)).setCell ⟨b + 1 + 1, 1, none⟩ (.int .i64 hi)).setCell ⟨b + 1 + 1, 2, none⟩ (.int .i64 hmv)).setCell ⟨b + 1 + 1, 3, none⟩ (.slice PD nd2 c2)).setCell ⟨b + 1 + 1, 4, none⟩ (.slice PL nl2 c3) = W3 at YF Y1 Y2 YP YD YK ⊢
    clear hW3 x0 x1 x2 x3 x4 f0 f1 f2 f3 f4 y0 y1 y2 y3 y4 Z1 Z2 RP RD X1 X2 X3 K1 K2 hz1 s1
    obtain ⟨q, hq⟩ : ∃ q, W3.heap.size = q := ⟨_, rfl⟩
    have HQ := Lib.hid hq
    have hqb : b + 3 ≤ q := by have := YF.out.lt; omega
    have sK : b ≤ W3.heap.size := by have := YK.out.size; have := HBB.out; omega
    have NB := Lib.hid (YK.out.alloc sK (.cells #[.pointer (some ⟨b + 1 + 1, 1, none⟩)] 113))
    have N1 := Lib.hid (Y1.out.alloc (.cells #[.pointer (some ⟨b + 1 + 1, 1, none⟩)] 113))
    have N2 := Lib.hid (Y2.out.alloc (.cells #[.pointer (some ⟨b + 1 + 1, 1, none⟩)] 113))
    have N3 := Lib.hid (YF.out.alloc (.cells #[.pointer (some ⟨b + 1 + 1, 1, none⟩)] 113))
    have NP := Lib.hid (YP.out.alloc (.cells #[.pointer (some ⟨b + 1 + 1, 1, none⟩)] 113))
    have ND := Lib.hid (YD.out.alloc (.cells #[.pointer (some ⟨b + 1 + 1, 1, none⟩)] 113))
    have NQ := Lib.hid (ObjAt.new W3 #[.pointer (some ⟨b + 1 + 1, 1, none⟩)] 113)
    rw [hq] at NQ
    clear YF Y1 Y2 YP YD YK sK
    go_upto_region 5 with fail
    have D4 := Lib.hid (show DS w b q #[.func (.func ga) #[] ca, .func (.func gr) #[] cr] #[.slice A np cp, .int .i64 hi, .int .i64 hmv, .slice B nd cd, .slice C nl cl] #[.slice PA np2 c1, .int .i64 hi, .int .i64 hmv, .slice PD nd2 c2, .slice PL nl2 c3] (.slice PA np2 c1) np2 (rowP h.props) (.slice PD nd2 c2) nd2 (rowD h.dels) (.slice none 0 0) 0 [] (W3.alloc (.cells #[.pointer (some ⟨b + 1 + 1, 1, none⟩)] 113)) from ⟨HBB.out, hqb, NB.out, N1.out, N2.out, N3.out, NQ.out, NP.out, ND.out, World.ownsRow_nil _ _ _ _⟩)
    clear NB N1 N2 N3 NP ND NQ HQ
    clear hq
    generalize W3.alloc (.cells #[.pointer (some ⟨b + 1 + 1, 1, none⟩)] 113) = W4 at D4 ⊢
    have s4 := D4.out.sz
    have y0F : ∀ p : Bw W4, p.w.cell? ⟨b, 0, none⟩ = some (.func (.func ga) #[] ca) := fun p => (D4.out.o1.below p.h).get (k := 0) (v := .func (.func ga) #[] ca) rfl
    have qF : ∀ p : Bw W4, p.w.cell? ⟨q, 0, none⟩ = some (.pointer (some ⟨b + 1 + 1, 1, none⟩)) := fun p => (D4.out.oq.below p.h).get (k := 0) (v := .pointer (some ⟨b + 1 + 1, 1, none⟩)) rfl
    have iF : ∀ p : Bw W4, p.w.cell? ⟨b + 1 + 1, 1, none⟩ = some (.int .i64 hi) := fun p => (D4.out.o3.below p.h).get (k := 1) (v := .int .i64 hi) rfl
    refine wp_region_bw (W := W4) (by kernel_rfl) (by kernel_rfl) (by first | exact Below.refl _ _ | exact (Below.refl _ _).drew) ?_
    repeat (quiet_step (first
      | (go_at_fn ga; exact bw_of (fun p => TA.out.run hi p.w (D4.out.bel.trans (p.h.mono (by omega)))) _)
      | fail))
    refine wpQuiet_nil ?_
    intro w5 hw'
    have kk : Below W4.heap.size W4 w5 := by obtain ⟨p2, rfl⟩ := hw'; exact p2.h
    have D5 := Lib.hid (D4.out.below kk)
    clear kk hw' y0F qF iF s4 D4
    obtain ⟨ai, hai⟩ : ∃ x, fa hi = x := ⟨_, rfl⟩
    have HAI := Lib.hid hai
    rw [hai]
    clear hai
    go_upto_if 25 with fail
    go_cut [] from 26 (fun wc => ∃ iv mv : Int, Hid (iv = (if ai then 0 else hi) ∧ mv = (if ai then 0 else hmv)) ∧ Hid (DS w b q #[.func (.func ga) #[] ca, .func (.func gr) #[] cr] #[.slice A np cp, .int .i64 hi, .int .i64 hmv, .slice B nd cd, .slice C nl cl] #[.slice PA np2 c1, .int .i64 iv, .int .i64 mv, .slice PD nd2 c2, .slice PL nl2 c3] (.slice PA np2 c1) np2 (rowP h.props) (.slice PD nd2 c2) nd2 (rowD h.dels) (.slice none 0 0) 0 [] wc))
    case first =>
      cases ai with
      | false =>
        go_wp2_with fail
        go_meet
        case rel => exact ⟨hi, hmv, Lib.hid ⟨rfl, rfl⟩, D5⟩
      | true =>
        have x1 := D5.out.o3.get (k := 1) (v := .int .i64 hi) rfl
        have x2 := D5.out.o3.get (k := 2) (v := .int .i64 hmv) rfl
        have xq := D5.out.oq.get (k := 0) (v := .pointer (some ⟨b + 1 + 1, 1, none⟩)) rfl
        have f1 := D5.out.o3.frozen 1
        have f2 := D5.out.o3.frozen 2
        have P1 := Lib.hid ((D5.out.drew.out 1 (.int .i64 0)).out 2 (.int .i64 0))
        have P2 := Lib.hid ((D5.out.drew.out 2 (.int .i64 0)).out 1 (.int .i64 0))
        go_upto_region 6 with fail
        go_region
        all_goals
          go_wp2_with fail
          go_meet
          case rel => exact ⟨0, 0, Lib.hid ⟨rfl, rfl⟩, Lib.hid (by first | exact P1.out | exact P2.out)⟩
    case rest =>
      obtain ⟨iv, mv, HV', D6⟩ := hcut
      clear D5
      have TD : Hid (∀ V, DS w b q #[.func (.func ga) #[] ca, .func (.func gr) #[] cr] #[.slice A np cp, .int .i64 hi, .int .i64 hmv, .slice B nd cd, .slice C nl cl] #[.slice PA np2 c1, .int .i64 iv, .int .i64 mv, .slice PD nd2 c2, .slice PL nl2 c3] (.slice PA np2 c1) np2 (rowP h.props) (.slice PD nd2 c2) nd2 (rowD h.dels) (.slice none 0 0) 0 [] V → TestD 83 #[.pointer (some ⟨b, 0, none⟩)] (fun d => fr d.rev) (b + 3) V) :=
        fun V x => ⟨en83, fun x' y' w' hb' => f83_any gr cr fr w'.heap.size b x' y' w' (Nat.le_refl _) (TR.out.later (x.bel.trans (hb'.mono (by omega))) (by have := x.sz.1; have := hb'.size; omega)) ((hb'.cell (p := ⟨b, 1, none⟩) (by show b < b + 3; omega)).trans (x.o1.get (k := 1) (v := .func (.func gr) #[] cr) rfl))⟩
      have cD := Lib.hid (fun V (x : DS w b q #[.func (.func ga) #[] ca, .func (.func gr) #[] cr] #[.slice A np cp, .int .i64 hi, .int .i64 hmv, .slice B nd cd, .slice C nl cl] #[.slice PA np2 c1, .int .i64 iv, .int .i64 mv, .slice PD nd2 c2, .slice PL nl2 c3] (.slice PA np2 c1) np2 (rowP h.props) (.slice PD nd2 c2) nd2 (rowD h.dels) (.slice none 0 0) 0 [] V) =>
        delfunc_any h.dels nd2 c2 hnd2 (by have := HM.out.d; omega) PD (b + 3) (fun d => fr d.rev) 83 #[.pointer (some ⟨b, 0, none⟩)] V x.sz.1 x.rd (TD.out V x))
      have xq := D6.out.oq.get (k := 0) (v := .pointer (some ⟨b + 1 + 1, 1, none⟩)) rfl
      have x3 := D6.out.o3.get (k := 3) (v := .slice PD nd2 c2) rfl
      have en3 := en83
      clear TD
      go_upto_region 7 with fail
      go_cut [] from 32 (fun wk => ∃ nd7 : Nat, Hid ((keepD (fun d => fr d.rev) h.dels).length = nd7) ∧ Hid (DS w b q #[.func (.func ga) #[] ca, .func (.func gr) #[] cr] #[.slice A np cp, .int .i64 hi, .int .i64 hmv, .slice B nd cd, .slice C nl cl] #[.slice PA np2 c1, .int .i64 iv, .int .i64 mv, .slice PD nd7 c2, .slice PL nl2 c3] (.slice PA np2 c1) np2 (rowP h.props) (.slice PD nd7 c2) nd7 (rowD (keepD (fun d => fr d.rev) h.dels)) (.slice none 0 0) 0 [] wk))
      case first =>
        refine wp_nofail ?_
        go_region_with (first
          | (go_at_call 82; (with_reducible refine (cD.out _ (by first | exact D6.out.drew | exact D6.out)).mono ?_); rintro e w7 ⟨nd7, rfl, hn7, hown7, hb7, oth7⟩; have E7 := D6.out.drew.delD hown7 hb7 (fun k hk hne => oth7 k hk (fun g o f e he => hne (by subst e; subst he; rfl))); have HN7 := Lib.hid hn7; have DD7 := Lib.hid E7; have v0 := E7.oq.get (k := 0) (v := .pointer (some ⟨b + 1 + 1, 1, none⟩)) rfl; have v3 := E7.o3.get (k := 3) (v := .slice PD nd2 c2) rfl; have vf := E7.o3.frozen 3; clear E7 hn7 hown7 hb7 oth7)
          | fail)
        all_goals
          (try go_wp2_with fail)
          go_meet
          case rel => exact ⟨nd7, HN7, Lib.hid (DD7.out.out 3 (.slice PD nd7 c2))⟩
      case rest =>
        clear D6 cD xq x3 en3
        obtain ⟨nd7, HN7, D7⟩ := hcut
        have xq := D7.out.oq.get (k := 0) (v := .pointer (some ⟨b + 1 + 1, 1, none⟩)) rfl
        have x4 := D7.out.o3.get (k := 4) (v := .slice PL nl2 c3) rfl
        have f4 := D7.out.o3.frozen 4
        have E8 := D7.out.out 4 (.slice none 0 0)
        have z4 := E8.o2.get (k := 4) (v := .slice C nl cl) rfl
        have D8 := Lib.hid E8
        have cG := fun V => groups_any C nl cl V
        clear E8
        go_wp2_with fail
        refine (cG _).mono ?_
        rintro e w9 ⟨rfl, rfl⟩
        go_wp2_with fail
        clear cG xq x4 f4 z4
        clear D7
        obtain ⟨Ba, hBa0⟩ : ∃ x, wc.heap.size = x := ⟨_, rfl⟩
        rw [hBa0]
        have hBa : (wc.setCell ⟨b + 1 + 1, 4, none⟩ (.slice none 0 0)).heap.size = Ba := by rw [World.size_setCell, hBa0]
        clear hBa0
        generalize wc.setCell ⟨b + 1 + 1, 4, none⟩ (.slice none 0 0) = W8 at D8 hBa ⊢
        have hbB : b + 3 ≤ Ba := by have := D8.out.sz.1; omega
        have BX := Boxed.new W8 24 (.slice C nl cl)
        rw [hBa] at BX
        have D9 := Lib.hid (show DS w b q #[.func (.func ga) #[] ca, .func (.func gr) #[] cr] #[.slice A np cp, .int .i64 hi, .int .i64 hmv, .slice B nd cd, .slice C nl cl] #[.slice PA np2 c1, .int .i64 iv, .int .i64 mv, .slice PD nd7 c2, .slice none 0 0] (.slice PA np2 c1) np2 (rowP h.props) (.slice PD nd7 c2) nd7 (rowD (keepD (fun d => fr d.rev) h.dels)) (.slice none 0 0) 0 [] (W8.alloc (.cells #[.slice C nl cl] 24)) from D8.out.alloc _)
        have hS9 : (W8.alloc (.cells #[.slice C nl cl] 24)).heap.size = Ba + 1 := by rw [World.size_alloc, hBa]
        clear D8 hBa
        generalize W8.alloc (.cells #[.slice C nl cl] 24) = W9 at D9 BX hS9 ⊢
        refine (wpIn_wide (n := 7)).1 ?_
        refine rangeG1 (T := TZ) (Bs := Ba) (G := fun V => Below b w V) rfl (by decide) (gf := 108) (lb := #[.pointer (some ⟨Ba, 0, none⟩)]) rfl trivial (enters_of Try.func108 (by kernel_rfl) rfl)
          (by omega) (groups_seq 6 (by decide) Ba C nl cl h.lays HA.out.el (by have := HA.out.el; have := HM.out.l; omega) HA.out.cl b w W9 (Nat.le_of_eq HBB.out) HA.out.l BX)
          (DI fa fr h w b q Ba #[.func (.func ga) #[] ca, .func (.func gr) #[] cr] #[.slice A np cp, .int .i64 hi, .int .i64 hmv, .slice B nd cd, .slice C nl cl] iv mv (.slice PD nd7 c2) nd7 (rowD (keepD (fun d => fr d.rev) h.dels)) (.slice C nl cl)) (fun _ _ _ => False) (fun _ _ ⟨_, _, _, _, x, _⟩ => x.bel)
          (DI.own (by omega)) (fun _ _ _ _ _ hs _ _ => hs)
          ⟨PA, c1, none, 0, by rw [accH_nil]; dsimp only; rw [hnp2]; exact D9.out, BX⟩ ?inner ?done ?stop
        case stop =>
          rintro D c pre V _ _ h _
          exact h.elim
        case done =>
          rintro D xs V hD ⟨hxp, hxe⟩ ⟨A1, c1', L1, d1, x, _⟩ hKD
          obtain ⟨⟨P9, L9⟩, hac⟩ : ∃ y, accH fa fr h xs = y := ⟨_, rfl⟩
          rw [hac] at x
          dsimp only at x
          have hacc := accH_end (a := fa) (r := fr) (h := h) hxe
          rw [hac] at hacc
          have HACC := Lib.hid hacc
          obtain ⟨np9, hnp9⟩ : ∃ x, P9.length = x := ⟨_, rfl⟩
          obtain ⟨nl9, hnl9⟩ : ∃ x, L9.length = x := ⟨_, rfl⟩
          rw [hnp9, hnl9] at x
          have HNP := Lib.hid hnp9
          have HNL := Lib.hid hnl9
          have hne : D ≠ b + 1 + 1 := by omega
          have q0 := x.o3.get (k := 0) (v := .slice A1 np9 c1') rfl
          have q1 := x.o3.get (k := 1) (v := .int .i64 iv) rfl
          have q2 := x.o3.get (k := 2) (v := .int .i64 mv) rfl
          have q3 := x.o3.get (k := 3) (v := .slice PD nd7 c2) rfl
          have q4 := x.o3.get (k := 4) (v := .slice L1 nl9 d1) rfl
          have f0 := x.o3.frozen 0
          have f1 := x.o3.frozen 1
          have f2 := x.o3.frozen 2
          have f3 := x.o3.frozen 3
          have f4 := x.o3.frozen 4
          have Y2 := Lib.hid (((((x.out 0 (.slice A1 np9 c1')).out 1 (.int .i64 iv)).out 2 (.int .i64 mv)).out 3 (.slice PD nd7 c2)).out 4 (.slice L1 nl9 d1))
          have hK5 : (((((V.setCell ⟨b + 1 + 1, 0, none⟩ (.slice A1 np9 c1')).setCell ⟨b + 1 + 1, 1, none⟩ (.int .i64 iv)).setCell ⟨b + 1 + 1, 2, none⟩ (.int .i64 mv)).setCell ⟨b + 1 + 1, 3, none⟩ (.slice PD nd7 c2)).setCell ⟨b + 1 + 1, 4, none⟩ (.slice L1 nl9 d1)).heap[D]? = some (.deferred (some [])) := by
            rw [Below.heap_setCell _ ⟨b + 1 + 1, 4, none⟩ _ D hne, Below.heap_setCell _ ⟨b + 1 + 1, 3, none⟩ _ D hne, Below.heap_setCell _ ⟨b + 1 + 1, 2, none⟩ _ D hne, Below.heap_setCell _ ⟨b + 1 + 1, 1, none⟩ _ D hne, Below.heap_setCell _ ⟨b + 1 + 1, 0, none⟩ _ D hne]
            exact hKD
          have HK5 := Lib.hid hK5
          have hiv : iv = (keptH fa fr h).ins := by show iv = if fa h.ins then 0 else h.ins; rw [HI.out, HAI.out]; exact HV'.out.1
          have hmv2 : mv = (keptH fa fr h).move := by show mv = if fa h.ins then 0 else h.move; rw [HI.out, HMV.out, HAI.out]; exact HV'.out.2
          have HIV := Lib.hid hiv
          have HMV2 := Lib.hid hmv2
          clear x hac hacc hnp9 hnl9 hK5 hKD hiv hmv2
          go_wp2_with fail
          generalize ((((V.setCell ⟨b + 1 + 1, 0, none⟩ (.slice A1 np9 c1')).setCell ⟨b + 1 + 1, 1, none⟩ (.int .i64 iv)).setCell ⟨b + 1 + 1, 2, none⟩ (.int .i64 mv)).setCell ⟨b + 1 + 1, 3, none⟩ (.slice PD nd7 c2)).setCell ⟨b + 1 + 1, 4, none⟩ (.slice L1 nl9 d1) = V5 at Y2 HK5 ⊢
          refine ⟨by simp, .inl ⟨_, _, rfl, run_takeDeferred HK5.out, ?_⟩⟩
          have O6 := fun o => show ObjAt (V5.putObj D o) (b + 1 + 1) #[.slice A1 np9 c1', .int .i64 iv, .int .i64 mv, .slice PD nd7 c2, .slice L1 nl9 d1] 28 from (World.putObj_heap_other (Ne.symm hne)).trans Y2.out.o3
          have r0 := fun o => (O6 o).get (k := 0) (v := .slice A1 np9 c1') rfl
          have r1 := fun o => (O6 o).get (k := 1) (v := .int .i64 iv) rfl
          have r2 := fun o => (O6 o).get (k := 2) (v := .int .i64 mv) rfl
          have r3 := fun o => (O6 o).get (k := 3) (v := .slice PD nd7 c2) rfl
          have r4 := fun o => (O6 o).get (k := 4) (v := .slice L1 nl9 d1) rfl
          refine ⟨.tuple #[.agg #[.slice A1 np9 c1', .int .i64 iv, .int .i64 mv, .slice PD nd7 c2, .slice L1 nl9 d1], .bool true], by simp [results, Try.results48, go_sem, r0, r1, r2, r3, r4], ?_⟩
          have e1 : (keptH fa fr h).props = P9 := by show ((keysU h.lays).foldl (stepH fa fr h) (h.props, [])).1 = P9; rw [← HACC.out]
          have e2 : (keptH fa fr h).lays = L9 := by show ((keysU h.lays).foldl (stepH fa fr h) (h.props, [])).2 = L9; rw [← HACC.out]
          have e3 : (keptH fa fr h).dels = keepD (fun d => fr d.rev) h.dels := rfl
          have rp := own_lower (b' := b) (ownsRow_putObj Y2.out.rp (.deferred none) HK5.out rfl) (by omega)
          have rd := own_lower (b' := b) (ownsRow_putObj Y2.out.rd (.deferred none) HK5.out rfl) (by omega)
          have rl := own_lower (b' := b) (ownsRow_putObj Y2.out.rl (.deferred none) HK5.out rfl) (by omega)
          have hr : keptH fa fr h = res := by rw [← HRES.out]; rfl
          rw [← HNP.out] at rp
          rw [← HN7.out] at rd
          rw [← HNL.out] at rl
          refine ⟨res, A1, PD, L1, c1', c2, d1, rfl, ?_, ?_, Y2.out.bel.trans (belowK_b (w := w) (Nat.le_of_eq HBB.out.symm) V5 D _ _ (by have := HBB.out; omega) HK5.out rfl rfl)⟩
          · rw [← hr, e1, e2, e3, ← HIV.out, ← HMV2.out, HNP.out, HN7.out, HNL.out]
            rfl
          · rw [← hr]
            exact ⟨by rw [e1]; exact rp, by rw [e3]; exact rd, by rw [e2]; exact rl⟩
        case inner =>
          clear D9 BX
          rintro ll pre x' V0 ⟨A1, c1', L1, d1, x0, bx0⟩ hlt hsp hl hlV
          obtain ⟨s, e⟩ := x'
          have HS := Lib.hid hsp
          obtain ⟨_, hse, hgr⟩ := hsp.last
          dsimp only at hse hgr
          obtain ⟨hlt2, hle, _, _⟩ := hgr
          have HSE := Lib.hid hse
          clear hse
          have hsl : s < h.lays.length := by omega
          obtain ⟨g, o, hCo, hg, hcl⟩ := HA.out.l.pos (by omega)
          subst hCo
          unfold gV
          dsimp only
          obtain ⟨mm, hmm⟩ : ∃ m, e - s = m := ⟨_, rfl⟩
          have hmp : 0 < mm := by omega
          rw [hmm]
          gi_wp2
          refine ⟨KeepsFrom.refl _ _, Kpt.refl _, ⟨A1, c1', L1, d1, x0, bx0⟩, ?_⟩
          clear x0 bx0 hlV
          rintro V hgv ⟨A2, c2', L2, d2, y, by'⟩
          clear hgv
          have Y := Lib.hid y
          have BY := Lib.hid by'
          have hk1 := (hcl s hsl).2.1
          have key0 := (y.bel.cell (p := ⟨g, o + s * 4 + 1, none⟩) (show g < b by have := HBB.out; omega)).trans hk1
          have hi0 : (0 : Int) < (mm : Int) := by omega
          obtain ⟨key, hkey⟩ : ∃ x, h.lays[s].key = x := ⟨_, rfl⟩
          rw [hkey] at key0
          have HKEY := Lib.hid (show kAt h.lays s = key from (kAt_get hsl).trans hkey)
          clear y by' hk1 hkey
          gi_wp2
          have FC := Lib.hid (fun U (hU : Below V.heap.size V U) => show U.cell? ⟨b, 0, none⟩ = some (.func (.func ga) #[] ca) ∧ U.cell? ⟨b, 1, none⟩ = some (.func (.func gr) #[] cr) ∧ U.cell? ⟨b + 1, 0, none⟩ = some (.slice A np cp) ∧ U.cell? ⟨b + 1, 1, none⟩ = some (.int .i64 hi) ∧ U.cell? ⟨b + 1, 2, none⟩ = some (.int .i64 hmv) ∧ U.cell? ⟨b + 1, 3, none⟩ = some (.slice B nd cd) ∧ U.cell? ⟨b + 1, 4, none⟩ = some (.slice (some ⟨g, o, none⟩) nl cl) from by
            have y := Y.out.below hU
            exact ⟨y.o1.get (k := 0) (v := .func (.func ga) #[] ca) rfl, y.o1.get (k := 1) (v := .func (.func gr) #[] cr) rfl, y.o2.get (k := 0) (v := .slice A np cp) rfl, y.o2.get (k := 1) (v := .int .i64 hi) rfl, y.o2.get (k := 2) (v := .int .i64 hmv) rfl, y.o2.get (k := 3) (v := .slice B nd cd) rfl, y.o2.get (k := 4) (v := .slice (some ⟨g, o, none⟩) nl cl) rfl⟩)
          have WB := Lib.hid (fun U (hU : Below V.heap.size V U) => show Below b w U from Y.out.bel.trans (hU.mono (by have := Y.out.sz.1; omega)))
          have cP := Lib.hid (fun U (hU : Below V.heap.size V U) => present_any h (srt_iff.2 HO.out.props) HM.out A B (some ⟨g, o, none⟩) np cp nd cd nl cl key U (HA.out.below (WB.out U hU) (Nat.le_of_eq HBB.out)))
          obtain ⟨⟨pv, pb⟩, hpr⟩ : ∃ x, pres h.props key = x := ⟨_, rfl⟩
          obtain ⟨G, hG⟩ : ∃ x, (h.lays.drop s).take mm = x := ⟨_, rfl⟩
          have hGl : G.length = mm := by rw [← hG, List.length_take, List.length_drop]; omega
          have cL := Lib.hid (fun U (hU : Below V.heap.size V U) => declay_any ga gr ca cr fa fr G mm hGl hmp (by have := HA.out.el; have := HM.out.l; omega) (some ⟨g, o + s * 4, none⟩) (cl - s) (pv, pb) U (by rw [← hG]; exact ((HA.out.l.below (WB.out U hU) (Nat.le_of_eq HBB.out)).drop s).take mm)
            (TA.out.later (WB.out U hU) (by have := (WB.out U hU).size; have := HBB.out; omega)) (TR.out.later (WB.out U hU) (by have := (WB.out U hU).size; have := HBB.out; omega)))
          obtain ⟨⟨Lp, tv, tb⟩, hdec⟩ : ∃ x, decL fa fr G (pv, pb) = x := ⟨_, rfl⟩
          rw [hpr] at cP
          rw [hdec] at cL
          unfold LRet at cL
          unfold hdV at cP
          unfold stV at cP cL
          rw [HI.out, HMV.out] at cP
          dsimp only at cP cL
          have hLl : Lp.length ≤ mm := by have := decL_len fa fr G (pv, pb); rw [hdec, hGl] at this; exact this
          obtain ⟨n9, hn9⟩ : ∃ x, Lp.length = x := ⟨_, rfl⟩
          rw [hn9] at cL hLl
          have HN9 := Lib.hid hn9
          have HDEC := Lib.hid hdec
          have HPR := Lib.hid hpr
          have HGG := Lib.hid hG
          have HGL := Lib.hid hGl
          clear hn9 hdec hpr hG hGl key0 hcl
          gi_cut [9, 10] from 53 (fun s9 s10 wk => ∃ (B2 : Option Addr) (cb X : Nat), s9 = .slice B2 n9 cb ∧ s10 = .pointer (some ⟨X, 0, none⟩) ∧ Hid (wk.ownsRow V.heap.size 74 4 (.slice B2 n9 cb) n9 (rowL Lp)) ∧ Hid (ObjAt wk X #[.int .i64 tv, .bool tb] 99) ∧ Hid (Below V.heap.size V wk) ∧ Hid (V.heap.size ≤ X))
          case first =>
            refine region_round (by kernel_rfl) (by kernel_rfl) ?_
            have BU0 : Below V.heap.size V V.drew := (Below.refl _ V).drew
            (try (change wpAny _ _ _ _ _ _ _ (World.drew _)))
            generalize V.drew = U0 at BU0 ⊢
            obtain ⟨x0, x1, y0, y1, y2, y3, y4⟩ := FC.out _ BU0
            refine wpAny_take (i := 1) (v := ?vv1) rfl (by kernel_rfl) (by kernel_rfl) (by kernel_rfl) (fun _ _ _ h => absurd h.1 (by intro h; cases h)) (Or.inl ⟨by rfl, ?hy1⟩) ?rs1
            case hy1 => (intro w; go_simp); all_goals (with_reducible rfl)
            refine wpAny_take (i := 3) (v := ?vv2) rfl (by kernel_rfl) (by kernel_rfl) (by kernel_rfl) (fun _ _ _ h => absurd h.1 (by intro h; cases h)) (Or.inl ⟨by rfl, ?hy2⟩) ?rs2
            case hy2 => (intro w; go_simp); all_goals (with_reducible rfl)
            refine wpAny_ready (rs := [0, 2, 9]) (by kernel_rfl) (by simp) ?_
            refine AllReady.cons rfl (fun K' hK => ?_) ?_
            · go_simp
              refine hK _ _ ?_
              clear hK
              refine wpAny_ready (rs := [2, 9]) (by kernel_rfl) (by simp) ?_
              refine AllReady.cons rfl (fun K' hK => ?_) ?_
              · go_simp
                refine hK _ _ ?_
                clear hK
                refine wpAny_ready (rs := [4, 9]) (by kernel_rfl) (by simp) ?_
                refine AllReady.cons rfl (fun K' hK => ?_) ?_
                · go_simp
                  go_wp2_with (go_at_call 69; (with_reducible refine (cP.out _ BU0).mono ?_); rintro e U1 ⟨rfl, k⟩; have BU1 := BU0.trans (k.mono BU0.size); clear k x0 x1 y0 y1 y2 y3 y4; obtain ⟨x0, x1, y0, y1, y2, y3, y4⟩ := FC.out _ BU1)
                  try (refine hK _ _ ?_)
                  refine wpAny_ready (rs := [5, 9]) (by kernel_rfl) (by simp) ?_
                  refine AllReady.cons rfl (fun K' hK => ?_) ?_
                  · go_simp
                    go_wp2_with (go_at_call 85; (with_reducible refine (cL.out _ BU1).mono ?_); rintro e U2 ⟨B2, cb, rfl, ro, k⟩; have BU2 := BU1.trans (k.mono BU1.size); have RL2 := own_lower (b' := V.heap.size) ro BU1.size; clear k x0 x1 y0 y1 y2 y3 y4 ro; obtain ⟨x0, x1, y0, y1, y2, y3, y4⟩ := FC.out _ BU2)
                    try (refine hK _ _ ?_)
                    refine wpAny_take (i := 6) (v := ?vv3) rfl (by kernel_rfl) (by kernel_rfl) (by kernel_rfl) (fun _ _ _ h => absurd h.1 (by intro h; cases h)) (Or.inl ⟨by rfl, ?hy3⟩) ?rs3
                    case hy3 => (intro w; go_simp); all_goals (with_reducible rfl)
                    refine wpAny_take (i := 7) (v := ?vv4) rfl (by kernel_rfl) (by kernel_rfl) (by kernel_rfl) (fun _ _ _ h => absurd h.1 (by intro h; cases h)) (Or.inl ⟨by rfl, ?hy4⟩) ?rs4
                    case hy4 => (intro w; go_simp); all_goals (with_reducible rfl)
                    refine wpAny_take (i := 8) (v := ?vv5) rfl (by kernel_rfl) (by kernel_rfl) (by kernel_rfl) (fun _ _ _ h => absurd h.1 (by intro h; cases h)) (Or.inl ⟨by rfl, ?hy5⟩) ?rs5
                    case hy5 => (intro w; go_simp); all_goals (with_reducible rfl)
                    refine wpAny_ready (rs := [9]) (by kernel_rfl) (by simp) ?_
                    refine AllReady.cons rfl (fun K' hK => ?_) ?_
                    · go_simp
                      refine hK _ _ ?_
                      clear hK
                      have BU3 := BU2.alloc BU2.size (.cells #[.int .i64 0, .bool false] 99)
                      have OX3 := ObjAt.new U2 #[.int .i64 0, .bool false] 99
                      have hX : V.heap.size ≤ U2.heap.size := BU2.size
                      have RL3 := RL2.alloc (.cells #[.int .i64 0, .bool false] 99)
                      clear x0 x1 y0 y1 y2 y3 y4
                      generalize U2.heap.size = X at OX3 hX ⊢
                      generalize U2.alloc (.cells #[.int .i64 0, .bool false] 99) = U3 at BU3 OX3 RL3 ⊢
                      obtain ⟨x0, x1, y0, y1, y2, y3, y4⟩ := FC.out _ BU3
                      refine wpAny_take (i := 10) (v := ?vv6) rfl (by kernel_rfl) (by kernel_rfl) (by kernel_rfl) (fun _ _ _ h => absurd h.1 (by intro h; cases h)) (Or.inl ⟨by rfl, ?hy6⟩) ?rs6
                      case hy6 => (intro w; go_simp); all_goals (with_reducible rfl)
                      refine wpAny_ready (rs := [11]) (by kernel_rfl) (by simp) ?_
                      refine AllReady.cons rfl (fun K' hK => ?_) ?_
                      · have o0 := OX3.a0
                        have o1 := OX3.a1
                        have g0 := OX3.frozen 0
                        have g1 := OX3.frozen 1
                        go_simp
                        refine hK _ _ ?_
                        clear hK
                        refine wpAny_done (by kernel_rfl) ?_ _
                        refine ⟨rfl, ?_⟩
                        gi_wp2_with fail
                        gi_meet
                        case rel => exact ⟨B2, cb, X, rfl, rfl, Lib.hid (row_setT (OX3.set 0 (.int .i64 tv)) (row_setT OX3 RL3 (by decide) 0 (.int .i64 tv)) (by decide) 1 (.bool tb)), Lib.hid (by have := (OX3.set 0 (.int .i64 tv)).set 1 (.bool tb); simpa using this), Lib.hid ((BU3.setCell (p := ⟨X, 0, none⟩) hX (.int .i64 tv)).setCell (p := ⟨X, 1, none⟩) hX (.bool tb)), Lib.hid hX⟩
                      exact AllReady.nil
                    exact AllReady.nil
                  refine AllReady.cons rfl (fun K' hK => ?_) ?_
                  · go_simp
                    refine hK _ _ ?_
                    clear hK
                    have BU2 := BU1.alloc BU1.size (.cells #[.int .i64 0, .bool false] 99)
                    have OX2 := ObjAt.new U1 #[.int .i64 0, .bool false] 99
                    have hX : V.heap.size ≤ U1.heap.size := BU1.size
                    clear x0 x1 y0 y1 y2 y3 y4
                    generalize U1.heap.size = X at OX2 hX ⊢
                    generalize U1.alloc (.cells #[.int .i64 0, .bool false] 99) = U2 at BU2 OX2 ⊢
                    obtain ⟨x0, x1, y0, y1, y2, y3, y4⟩ := FC.out _ BU2
                    refine wpAny_ready (rs := [5]) (by kernel_rfl) (by simp) ?_
                    refine AllReady.cons rfl (fun K' hK => ?_) ?_
                    · go_simp
                      go_wp2_with (go_at_call 85; (with_reducible refine (cL.out _ BU2).mono ?_); rintro e U3 ⟨B2, cb, rfl, ro, k⟩; have BU3 := BU2.trans (k.mono BU2.size); have OX3 := OX2.below k; have RL3 := own_lower (b' := V.heap.size) ro BU2.size; clear k x0 x1 y0 y1 y2 y3 y4 ro; obtain ⟨x0, x1, y0, y1, y2, y3, y4⟩ := FC.out _ BU3)
                      try (refine hK _ _ ?_)
                      refine wpAny_take (i := 6) (v := ?vv7) rfl (by kernel_rfl) (by kernel_rfl) (by kernel_rfl) (fun _ _ _ h => absurd h.1 (by intro h; cases h)) (Or.inl ⟨by rfl, ?hy7⟩) ?rs7
                      case hy7 => (intro w; go_simp); all_goals (with_reducible rfl)
                      refine wpAny_take (i := 7) (v := ?vv8) rfl (by kernel_rfl) (by kernel_rfl) (by kernel_rfl) (fun _ _ _ h => absurd h.1 (by intro h; cases h)) (Or.inl ⟨by rfl, ?hy8⟩) ?rs8
                      case hy8 => (intro w; go_simp); all_goals (with_reducible rfl)
                      refine wpAny_take (i := 8) (v := ?vv9) rfl (by kernel_rfl) (by kernel_rfl) (by kernel_rfl) (fun _ _ _ h => absurd h.1 (by intro h; cases h)) (Or.inl ⟨by rfl, ?hy9⟩) ?rs9
                      case hy9 => (intro w; go_simp); all_goals (with_reducible rfl)
                      refine wpAny_take (i := 10) (v := ?vv10) rfl (by kernel_rfl) (by kernel_rfl) (by kernel_rfl) (fun _ _ _ h => absurd h.1 (by intro h; cases h)) (Or.inl ⟨by rfl, ?hy10⟩) ?rs10
                      case hy10 => (intro w; go_simp); all_goals (with_reducible rfl)
                      refine wpAny_ready (rs := [11]) (by kernel_rfl) (by simp) ?_
                      refine AllReady.cons rfl (fun K' hK => ?_) ?_
                      · have o0 := OX3.a0
                        have o1 := OX3.a1
                        have g0 := OX3.frozen 0
                        have g1 := OX3.frozen 1
                        go_simp
                        refine hK _ _ ?_
                        clear hK
                        refine wpAny_done (by kernel_rfl) ?_ _
                        refine ⟨rfl, ?_⟩
                        gi_wp2_with fail
                        gi_meet
                        case rel => exact ⟨B2, cb, X, rfl, rfl, Lib.hid (row_setT (OX3.set 0 (.int .i64 tv)) (row_setT OX3 RL3 (by decide) 0 (.int .i64 tv)) (by decide) 1 (.bool tb)), Lib.hid (by have := (OX3.set 0 (.int .i64 tv)).set 1 (.bool tb); simpa using this), Lib.hid ((BU3.setCell (p := ⟨X, 0, none⟩) hX (.int .i64 tv)).setCell (p := ⟨X, 1, none⟩) hX (.bool tb)), Lib.hid hX⟩
                      exact AllReady.nil
                    exact AllReady.nil
                  exact AllReady.nil
                refine AllReady.cons rfl (fun K' hK => ?_) ?_
                · go_simp
                  refine hK _ _ ?_
                  clear hK
                  have BU1 := BU0.alloc BU0.size (.cells #[.int .i64 0, .bool false] 99)
                  have OX1 := ObjAt.new U0 #[.int .i64 0, .bool false] 99
                  have hX : V.heap.size ≤ U0.heap.size := BU0.size
                  clear x0 x1 y0 y1 y2 y3 y4
                  generalize U0.heap.size = X at OX1 hX ⊢
                  generalize U0.alloc (.cells #[.int .i64 0, .bool false] 99) = U1 at BU1 OX1 ⊢
                  obtain ⟨x0, x1, y0, y1, y2, y3, y4⟩ := FC.out _ BU1
                  refine wpAny_ready (rs := [4]) (by kernel_rfl) (by simp) ?_
                  refine AllReady.cons rfl (fun K' hK => ?_) ?_
                  · go_simp
                    go_wp2_with (go_at_call 69; (with_reducible refine (cP.out _ BU1).mono ?_); rintro e U2 ⟨rfl, k⟩; have BU2 := BU1.trans (k.mono BU1.size); have OX2 := OX1.below k; clear k x0 x1 y0 y1 y2 y3 y4; obtain ⟨x0, x1, y0, y1, y2, y3, y4⟩ := FC.out _ BU2)
                    try (refine hK _ _ ?_)
                    refine wpAny_ready (rs := [5]) (by kernel_rfl) (by simp) ?_
                    refine AllReady.cons rfl (fun K' hK => ?_) ?_
                    · go_simp
                      go_wp2_with (go_at_call 85; (with_reducible refine (cL.out _ BU2).mono ?_); rintro e U3 ⟨B2, cb, rfl, ro, k⟩; have BU3 := BU2.trans (k.mono BU2.size); have OX3 := OX2.below k; have RL3 := own_lower (b' := V.heap.size) ro BU2.size; clear k x0 x1 y0 y1 y2 y3 y4 ro; obtain ⟨x0, x1, y0, y1, y2, y3, y4⟩ := FC.out _ BU3)
                      try (refine hK _ _ ?_)
                      refine wpAny_take (i := 6) (v := ?vv11) rfl (by kernel_rfl) (by kernel_rfl) (by kernel_rfl) (fun _ _ _ h => absurd h.1 (by intro h; cases h)) (Or.inl ⟨by rfl, ?hy11⟩) ?rs11
                      case hy11 => (intro w; go_simp); all_goals (with_reducible rfl)
                      refine wpAny_take (i := 7) (v := ?vv12) rfl (by kernel_rfl) (by kernel_rfl) (by kernel_rfl) (fun _ _ _ h => absurd h.1 (by intro h; cases h)) (Or.inl ⟨by rfl, ?hy12⟩) ?rs12
                      case hy12 => (intro w; go_simp); all_goals (with_reducible rfl)
                      refine wpAny_take (i := 8) (v := ?vv13) rfl (by kernel_rfl) (by kernel_rfl) (by kernel_rfl) (fun _ _ _ h => absurd h.1 (by intro h; cases h)) (Or.inl ⟨by rfl, ?hy13⟩) ?rs13
                      case hy13 => (intro w; go_simp); all_goals (with_reducible rfl)
                      refine wpAny_take (i := 10) (v := ?vv14) rfl (by kernel_rfl) (by kernel_rfl) (by kernel_rfl) (fun _ _ _ h => absurd h.1 (by intro h; cases h)) (Or.inl ⟨by rfl, ?hy14⟩) ?rs14
                      case hy14 => (intro w; go_simp); all_goals (with_reducible rfl)
                      refine wpAny_ready (rs := [11]) (by kernel_rfl) (by simp) ?_
                      refine AllReady.cons rfl (fun K' hK => ?_) ?_
                      · have o0 := OX3.a0
                        have o1 := OX3.a1
                        have g0 := OX3.frozen 0
                        have g1 := OX3.frozen 1
                        go_simp
                        refine hK _ _ ?_
                        clear hK
                        refine wpAny_done (by kernel_rfl) ?_ _
                        refine ⟨rfl, ?_⟩
                        gi_wp2_with fail
                        gi_meet
                        case rel => exact ⟨B2, cb, X, rfl, rfl, Lib.hid (row_setT (OX3.set 0 (.int .i64 tv)) (row_setT OX3 RL3 (by decide) 0 (.int .i64 tv)) (by decide) 1 (.bool tb)), Lib.hid (by have := (OX3.set 0 (.int .i64 tv)).set 1 (.bool tb); simpa using this), Lib.hid ((BU3.setCell (p := ⟨X, 0, none⟩) hX (.int .i64 tv)).setCell (p := ⟨X, 1, none⟩) hX (.bool tb)), Lib.hid hX⟩
                      exact AllReady.nil
                    exact AllReady.nil
                  exact AllReady.nil
                exact AllReady.nil
              refine AllReady.cons rfl (fun K' hK => ?_) ?_
              · go_simp
                refine hK _ _ ?_
                clear hK
                have BU1 := BU0.alloc BU0.size (.cells #[.int .i64 0, .bool false] 99)
                have OX1 := ObjAt.new U0 #[.int .i64 0, .bool false] 99
                have hX : V.heap.size ≤ U0.heap.size := BU0.size
                clear x0 x1 y0 y1 y2 y3 y4
                generalize U0.heap.size = X at OX1 hX ⊢
                generalize U0.alloc (.cells #[.int .i64 0, .bool false] 99) = U1 at BU1 OX1 ⊢
                obtain ⟨x0, x1, y0, y1, y2, y3, y4⟩ := FC.out _ BU1
                refine wpAny_ready (rs := [2]) (by kernel_rfl) (by simp) ?_
                refine AllReady.cons rfl (fun K' hK => ?_) ?_
                · go_simp
                  refine hK _ _ ?_
                  clear hK
                  refine wpAny_ready (rs := [4]) (by kernel_rfl) (by simp) ?_
                  refine AllReady.cons rfl (fun K' hK => ?_) ?_
                  · go_simp
                    go_wp2_with (go_at_call 69; (with_reducible refine (cP.out _ BU1).mono ?_); rintro e U2 ⟨rfl, k⟩; have BU2 := BU1.trans (k.mono BU1.size); have OX2 := OX1.below k; clear k x0 x1 y0 y1 y2 y3 y4; obtain ⟨x0, x1, y0, y1, y2, y3, y4⟩ := FC.out _ BU2)
                    try (refine hK _ _ ?_)
                    refine wpAny_ready (rs := [5]) (by kernel_rfl) (by simp) ?_
                    refine AllReady.cons rfl (fun K' hK => ?_) ?_
                    · go_simp
                      go_wp2_with (go_at_call 85; (with_reducible refine (cL.out _ BU2).mono ?_); rintro e U3 ⟨B2, cb, rfl, ro, k⟩; have BU3 := BU2.trans (k.mono BU2.size); have OX3 := OX2.below k; have RL3 := own_lower (b' := V.heap.size) ro BU2.size; clear k x0 x1 y0 y1 y2 y3 y4 ro; obtain ⟨x0, x1, y0, y1, y2, y3, y4⟩ := FC.out _ BU3)
                      try (refine hK _ _ ?_)
                      refine wpAny_take (i := 6) (v := ?vv15) rfl (by kernel_rfl) (by kernel_rfl) (by kernel_rfl) (fun _ _ _ h => absurd h.1 (by intro h; cases h)) (Or.inl ⟨by rfl, ?hy15⟩) ?rs15
                      case hy15 => (intro w; go_simp); all_goals (with_reducible rfl)
                      refine wpAny_take (i := 7) (v := ?vv16) rfl (by kernel_rfl) (by kernel_rfl) (by kernel_rfl) (fun _ _ _ h => absurd h.1 (by intro h; cases h)) (Or.inl ⟨by rfl, ?hy16⟩) ?rs16
                      case hy16 => (intro w; go_simp); all_goals (with_reducible rfl)
                      refine wpAny_take (i := 8) (v := ?vv17) rfl (by kernel_rfl) (by kernel_rfl) (by kernel_rfl) (fun _ _ _ h => absurd h.1 (by intro h; cases h)) (Or.inl ⟨by rfl, ?hy17⟩) ?rs17
                      case hy17 => (intro w; go_simp); all_goals (with_reducible rfl)
                      refine wpAny_take (i := 10) (v := ?vv18) rfl (by kernel_rfl) (by kernel_rfl) (by kernel_rfl) (fun _ _ _ h => absurd h.1 (by intro h; cases h)) (Or.inl ⟨by rfl, ?hy18⟩) ?rs18
                      case hy18 => (intro w; go_simp); all_goals (with_reducible rfl)
                      refine wpAny_ready (rs := [11]) (by kernel_rfl) (by simp) ?_
                      refine AllReady.cons rfl (fun K' hK => ?_) ?_
                      · have o0 := OX3.a0
                        have o1 := OX3.a1
                        have g0 := OX3.frozen 0
                        have g1 := OX3.frozen 1
                        go_simp
                        refine hK _ _ ?_
                        clear hK
                        refine wpAny_done (by kernel_rfl) ?_ _
                        refine ⟨rfl, ?_⟩
                        gi_wp2_with fail
                        gi_meet
                        case rel => exact ⟨B2, cb, X, rfl, rfl, Lib.hid (row_setT (OX3.set 0 (.int .i64 tv)) (row_setT OX3 RL3 (by decide) 0 (.int .i64 tv)) (by decide) 1 (.bool tb)), Lib.hid (by have := (OX3.set 0 (.int .i64 tv)).set 1 (.bool tb); simpa using this), Lib.hid ((BU3.setCell (p := ⟨X, 0, none⟩) hX (.int .i64 tv)).setCell (p := ⟨X, 1, none⟩) hX (.bool tb)), Lib.hid hX⟩
                      exact AllReady.nil
                    exact AllReady.nil
                  exact AllReady.nil
                exact AllReady.nil
              exact AllReady.nil
            refine AllReady.cons rfl (fun K' hK => ?_) ?_
            · go_simp
              refine hK _ _ ?_
              clear hK
              refine wpAny_ready (rs := [0, 4, 9]) (by kernel_rfl) (by simp) ?_
              refine AllReady.cons rfl (fun K' hK => ?_) ?_
              · go_simp
                refine hK _ _ ?_
                clear hK
                refine wpAny_ready (rs := [4, 9]) (by kernel_rfl) (by simp) ?_
                refine AllReady.cons rfl (fun K' hK => ?_) ?_
                · go_simp
                  go_wp2_with (go_at_call 69; (with_reducible refine (cP.out _ BU0).mono ?_); rintro e U1 ⟨rfl, k⟩; have BU1 := BU0.trans (k.mono BU0.size); clear k x0 x1 y0 y1 y2 y3 y4; obtain ⟨x0, x1, y0, y1, y2, y3, y4⟩ := FC.out _ BU1)
                  try (refine hK _ _ ?_)
                  refine wpAny_ready (rs := [5, 9]) (by kernel_rfl) (by simp) ?_
                  refine AllReady.cons rfl (fun K' hK => ?_) ?_
                  · go_simp
                    go_wp2_with (go_at_call 85; (with_reducible refine (cL.out _ BU1).mono ?_); rintro e U2 ⟨B2, cb, rfl, ro, k⟩; have BU2 := BU1.trans (k.mono BU1.size); have RL2 := own_lower (b' := V.heap.size) ro BU1.size; clear k x0 x1 y0 y1 y2 y3 y4 ro; obtain ⟨x0, x1, y0, y1, y2, y3, y4⟩ := FC.out _ BU2)
                    try (refine hK _ _ ?_)
                    refine wpAny_take (i := 6) (v := ?vv19) rfl (by kernel_rfl) (by kernel_rfl) (by kernel_rfl) (fun _ _ _ h => absurd h.1 (by intro h; cases h)) (Or.inl ⟨by rfl, ?hy19⟩) ?rs19
                    case hy19 => (intro w; go_simp); all_goals (with_reducible rfl)
                    refine wpAny_take (i := 7) (v := ?vv20) rfl (by kernel_rfl) (by kernel_rfl) (by kernel_rfl) (fun _ _ _ h => absurd h.1 (by intro h; cases h)) (Or.inl ⟨by rfl, ?hy20⟩) ?rs20
                    case hy20 => (intro w; go_simp); all_goals (with_reducible rfl)
                    refine wpAny_take (i := 8) (v := ?vv21) rfl (by kernel_rfl) (by kernel_rfl) (by kernel_rfl) (fun _ _ _ h => absurd h.1 (by intro h; cases h)) (Or.inl ⟨by rfl, ?hy21⟩) ?rs21
                    case hy21 => (intro w; go_simp); all_goals (with_reducible rfl)
                    refine wpAny_ready (rs := [9]) (by kernel_rfl) (by simp) ?_
                    refine AllReady.cons rfl (fun K' hK => ?_) ?_
                    · go_simp
                      refine hK _ _ ?_
                      clear hK
                      have BU3 := BU2.alloc BU2.size (.cells #[.int .i64 0, .bool false] 99)
                      have OX3 := ObjAt.new U2 #[.int .i64 0, .bool false] 99
                      have hX : V.heap.size ≤ U2.heap.size := BU2.size
                      have RL3 := RL2.alloc (.cells #[.int .i64 0, .bool false] 99)
                      clear x0 x1 y0 y1 y2 y3 y4
                      generalize U2.heap.size = X at OX3 hX ⊢
                      generalize U2.alloc (.cells #[.int .i64 0, .bool false] 99) = U3 at BU3 OX3 RL3 ⊢
                      obtain ⟨x0, x1, y0, y1, y2, y3, y4⟩ := FC.out _ BU3
                      refine wpAny_take (i := 10) (v := ?vv22) rfl (by kernel_rfl) (by kernel_rfl) (by kernel_rfl) (fun _ _ _ h => absurd h.1 (by intro h; cases h)) (Or.inl ⟨by rfl, ?hy22⟩) ?rs22
                      case hy22 => (intro w; go_simp); all_goals (with_reducible rfl)
                      refine wpAny_ready (rs := [11]) (by kernel_rfl) (by simp) ?_
                      refine AllReady.cons rfl (fun K' hK => ?_) ?_
                      · have o0 := OX3.a0
                        have o1 := OX3.a1
                        have g0 := OX3.frozen 0
                        have g1 := OX3.frozen 1
                        go_simp
                        refine hK _ _ ?_
                        clear hK
                        refine wpAny_done (by kernel_rfl) ?_ _
                        refine ⟨rfl, ?_⟩
                        gi_wp2_with fail
                        gi_meet
                        case rel => exact ⟨B2, cb, X, rfl, rfl, Lib.hid (row_setT (OX3.set 0 (.int .i64 tv)) (row_setT OX3 RL3 (by decide) 0 (.int .i64 tv)) (by decide) 1 (.bool tb)), Lib.hid (by have := (OX3.set 0 (.int .i64 tv)).set 1 (.bool tb); simpa using this), Lib.hid ((BU3.setCell (p := ⟨X, 0, none⟩) hX (.int .i64 tv)).setCell (p := ⟨X, 1, none⟩) hX (.bool tb)), Lib.hid hX⟩
                      exact AllReady.nil
                    exact AllReady.nil
                  refine AllReady.cons rfl (fun K' hK => ?_) ?_
                  · go_simp
                    refine hK _ _ ?_
                    clear hK
                    have BU2 := BU1.alloc BU1.size (.cells #[.int .i64 0, .bool false] 99)
                    have OX2 := ObjAt.new U1 #[.int .i64 0, .bool false] 99
                    have hX : V.heap.size ≤ U1.heap.size := BU1.size
                    clear x0 x1 y0 y1 y2 y3 y4
                    generalize U1.heap.size = X at OX2 hX ⊢
                    generalize U1.alloc (.cells #[.int .i64 0, .bool false] 99) = U2 at BU2 OX2 ⊢
                    obtain ⟨x0, x1, y0, y1, y2, y3, y4⟩ := FC.out _ BU2
                    refine wpAny_ready (rs := [5]) (by kernel_rfl) (by simp) ?_
                    refine AllReady.cons rfl (fun K' hK => ?_) ?_
                    · go_simp
                      go_wp2_with (go_at_call 85; (with_reducible refine (cL.out _ BU2).mono ?_); rintro e U3 ⟨B2, cb, rfl, ro, k⟩; have BU3 := BU2.trans (k.mono BU2.size); have OX3 := OX2.below k; have RL3 := own_lower (b' := V.heap.size) ro BU2.size; clear k x0 x1 y0 y1 y2 y3 y4 ro; obtain ⟨x0, x1, y0, y1, y2, y3, y4⟩ := FC.out _ BU3)
                      try (refine hK _ _ ?_)
                      refine wpAny_take (i := 6) (v := ?vv23) rfl (by kernel_rfl) (by kernel_rfl) (by kernel_rfl) (fun _ _ _ h => absurd h.1 (by intro h; cases h)) (Or.inl ⟨by rfl, ?hy23⟩) ?rs23
                      case hy23 => (intro w; go_simp); all_goals (with_reducible rfl)
                      refine wpAny_take (i := 7) (v := ?vv24) rfl (by kernel_rfl) (by kernel_rfl) (by kernel_rfl) (fun _ _ _ h => absurd h.1 (by intro h; cases h)) (Or.inl ⟨by rfl, ?hy24⟩) ?rs24
                      case hy24 => (intro w; go_simp); all_goals (with_reducible rfl)
                      refine wpAny_take (i := 8) (v := ?vv25) rfl (by kernel_rfl) (by kernel_rfl) (by kernel_rfl) (fun _ _ _ h => absurd h.1 (by intro h; cases h)) (Or.inl ⟨by rfl, ?hy25⟩) ?rs25
                      case hy25 => (intro w; go_simp); all_goals (with_reducible rfl)
                      refine wpAny_take (i := 10) (v := ?vv26) rfl (by kernel_rfl) (by kernel_rfl) (by kernel_rfl) (fun _ _ _ h => absurd h.1 (by intro h; cases h)) (Or.inl ⟨by rfl, ?hy26⟩) ?rs26
                      case hy26 => (intro w; go_simp); all_goals (with_reducible rfl)
                      refine wpAny_ready (rs := [11]) (by kernel_rfl) (by simp) ?_
                      refine AllReady.cons rfl (fun K' hK => ?_) ?_
                      · have o0 := OX3.a0
                        have o1 := OX3.a1
                        have g0 := OX3.frozen 0
                        have g1 := OX3.frozen 1
                        go_simp
                        refine hK _ _ ?_
                        clear hK
                        refine wpAny_done (by kernel_rfl) ?_ _
                        refine ⟨rfl, ?_⟩
                        gi_wp2_with fail
                        gi_meet
                        case rel => exact ⟨B2, cb, X, rfl, rfl, Lib.hid (row_setT (OX3.set 0 (.int .i64 tv)) (row_setT OX3 RL3 (by decide) 0 (.int .i64 tv)) (by decide) 1 (.bool tb)), Lib.hid (by have := (OX3.set 0 (.int .i64 tv)).set 1 (.bool tb); simpa using this), Lib.hid ((BU3.setCell (p := ⟨X, 0, none⟩) hX (.int .i64 tv)).setCell (p := ⟨X, 1, none⟩) hX (.bool tb)), Lib.hid hX⟩
                      exact AllReady.nil
                    exact AllReady.nil
                  exact AllReady.nil
                refine AllReady.cons rfl (fun K' hK => ?_) ?_
                · go_simp
                  refine hK _ _ ?_
                  clear hK
                  have BU1 := BU0.alloc BU0.size (.cells #[.int .i64 0, .bool false] 99)
                  have OX1 := ObjAt.new U0 #[.int .i64 0, .bool false] 99
                  have hX : V.heap.size ≤ U0.heap.size := BU0.size
                  clear x0 x1 y0 y1 y2 y3 y4
                  generalize U0.heap.size = X at OX1 hX ⊢
                  generalize U0.alloc (.cells #[.int .i64 0, .bool false] 99) = U1 at BU1 OX1 ⊢
                  obtain ⟨x0, x1, y0, y1, y2, y3, y4⟩ := FC.out _ BU1
                  refine wpAny_ready (rs := [4]) (by kernel_rfl) (by simp) ?_
                  refine AllReady.cons rfl (fun K' hK => ?_) ?_
                  · go_simp
                    go_wp2_with (go_at_call 69; (with_reducible refine (cP.out _ BU1).mono ?_); rintro e U2 ⟨rfl, k⟩; have BU2 := BU1.trans (k.mono BU1.size); have OX2 := OX1.below k; clear k x0 x1 y0 y1 y2 y3 y4; obtain ⟨x0, x1, y0, y1, y2, y3, y4⟩ := FC.out _ BU2)
                    try (refine hK _ _ ?_)
                    refine wpAny_ready (rs := [5]) (by kernel_rfl) (by simp) ?_
                    refine AllReady.cons rfl (fun K' hK => ?_) ?_
                    · go_simp
                      go_wp2_with (go_at_call 85; (with_reducible refine (cL.out _ BU2).mono ?_); rintro e U3 ⟨B2, cb, rfl, ro, k⟩; have BU3 := BU2.trans (k.mono BU2.size); have OX3 := OX2.below k; have RL3 := own_lower (b' := V.heap.size) ro BU2.size; clear k x0 x1 y0 y1 y2 y3 y4 ro; obtain ⟨x0, x1, y0, y1, y2, y3, y4⟩ := FC.out _ BU3)
                      try (refine hK _ _ ?_)
                      refine wpAny_take (i := 6) (v := ?vv27) rfl (by kernel_rfl) (by kernel_rfl) (by kernel_rfl) (fun _ _ _ h => absurd h.1 (by intro h; cases h)) (Or.inl ⟨by rfl, ?hy27⟩) ?rs27
                      case hy27 => (intro w; go_simp); all_goals (with_reducible rfl)
                      refine wpAny_take (i := 7) (v := ?vv28) rfl (by kernel_rfl) (by kernel_rfl) (by kernel_rfl) (fun _ _ _ h => absurd h.1 (by intro h; cases h)) (Or.inl ⟨by rfl, ?hy28⟩) ?rs28
                      case hy28 => (intro w; go_simp); all_goals (with_reducible rfl)
                      refine wpAny_take (i := 8) (v := ?vv29) rfl (by kernel_rfl) (by kernel_rfl) (by kernel_rfl) (fun _ _ _ h => absurd h.1 (by intro h; cases h)) (Or.inl ⟨by rfl, ?hy29⟩) ?rs29
                      case hy29 => (intro w; go_simp); all_goals (with_reducible rfl)
                      refine wpAny_take (i := 10) (v := ?vv30) rfl (by kernel_rfl) (by kernel_rfl) (by kernel_rfl) (fun _ _ _ h => absurd h.1 (by intro h; cases h)) (Or.inl ⟨by rfl, ?hy30⟩) ?rs30
                      case hy30 => (intro w; go_simp); all_goals (with_reducible rfl)
                      refine wpAny_ready (rs := [11]) (by kernel_rfl) (by simp) ?_
                      refine AllReady.cons rfl (fun K' hK => ?_) ?_
                      · have o0 := OX3.a0
                        have o1 := OX3.a1
                        have g0 := OX3.frozen 0
                        have g1 := OX3.frozen 1
                        go_simp
                        refine hK _ _ ?_
                        clear hK
                        refine wpAny_done (by kernel_rfl) ?_ _
                        refine ⟨rfl, ?_⟩
                        gi_wp2_with fail
                        gi_meet
                        case rel => exact ⟨B2, cb, X, rfl, rfl, Lib.hid (row_setT (OX3.set 0 (.int .i64 tv)) (row_setT OX3 RL3 (by decide) 0 (.int .i64 tv)) (by decide) 1 (.bool tb)), Lib.hid (by have := (OX3.set 0 (.int .i64 tv)).set 1 (.bool tb); simpa using this), Lib.hid ((BU3.setCell (p := ⟨X, 0, none⟩) hX (.int .i64 tv)).setCell (p := ⟨X, 1, none⟩) hX (.bool tb)), Lib.hid hX⟩
                      exact AllReady.nil
                    exact AllReady.nil
                  exact AllReady.nil
                exact AllReady.nil
              refine AllReady.cons rfl (fun K' hK => ?_) ?_
              · go_simp
                go_wp2_with (go_at_call 69; (with_reducible refine (cP.out _ BU0).mono ?_); rintro e U1 ⟨rfl, k⟩; have BU1 := BU0.trans (k.mono BU0.size); clear k x0 x1 y0 y1 y2 y3 y4; obtain ⟨x0, x1, y0, y1, y2, y3, y4⟩ := FC.out _ BU1)
                try (refine hK _ _ ?_)
                refine wpAny_ready (rs := [0, 9]) (by kernel_rfl) (by simp) ?_
                refine AllReady.cons rfl (fun K' hK => ?_) ?_
                · go_simp
                  refine hK _ _ ?_
                  clear hK
                  refine wpAny_ready (rs := [5, 9]) (by kernel_rfl) (by simp) ?_
                  refine AllReady.cons rfl (fun K' hK => ?_) ?_
                  · go_simp
                    go_wp2_with (go_at_call 85; (with_reducible refine (cL.out _ BU1).mono ?_); rintro e U2 ⟨B2, cb, rfl, ro, k⟩; have BU2 := BU1.trans (k.mono BU1.size); have RL2 := own_lower (b' := V.heap.size) ro BU1.size; clear k x0 x1 y0 y1 y2 y3 y4 ro; obtain ⟨x0, x1, y0, y1, y2, y3, y4⟩ := FC.out _ BU2)
                    try (refine hK _ _ ?_)
                    refine wpAny_take (i := 6) (v := ?vv31) rfl (by kernel_rfl) (by kernel_rfl) (by kernel_rfl) (fun _ _ _ h => absurd h.1 (by intro h; cases h)) (Or.inl ⟨by rfl, ?hy31⟩) ?rs31
                    case hy31 => (intro w; go_simp); all_goals (with_reducible rfl)
                    refine wpAny_take (i := 7) (v := ?vv32) rfl (by kernel_rfl) (by kernel_rfl) (by kernel_rfl) (fun _ _ _ h => absurd h.1 (by intro h; cases h)) (Or.inl ⟨by rfl, ?hy32⟩) ?rs32
                    case hy32 => (intro w; go_simp); all_goals (with_reducible rfl)
                    refine wpAny_take (i := 8) (v := ?vv33) rfl (by kernel_rfl) (by kernel_rfl) (by kernel_rfl) (fun _ _ _ h => absurd h.1 (by intro h; cases h)) (Or.inl ⟨by rfl, ?hy33⟩) ?rs33
                    case hy33 => (intro w; go_simp); all_goals (with_reducible rfl)
                    refine wpAny_ready (rs := [9]) (by kernel_rfl) (by simp) ?_
                    refine AllReady.cons rfl (fun K' hK => ?_) ?_
                    · go_simp
                      refine hK _ _ ?_
                      clear hK
                      have BU3 := BU2.alloc BU2.size (.cells #[.int .i64 0, .bool false] 99)
                      have OX3 := ObjAt.new U2 #[.int .i64 0, .bool false] 99
                      have hX : V.heap.size ≤ U2.heap.size := BU2.size
                      have RL3 := RL2.alloc (.cells #[.int .i64 0, .bool false] 99)
                      clear x0 x1 y0 y1 y2 y3 y4
                      generalize U2.heap.size = X at OX3 hX ⊢
                      generalize U2.alloc (.cells #[.int .i64 0, .bool false] 99) = U3 at BU3 OX3 RL3 ⊢
                      obtain ⟨x0, x1, y0, y1, y2, y3, y4⟩ := FC.out _ BU3
                      refine wpAny_take (i := 10) (v := ?vv34) rfl (by kernel_rfl) (by kernel_rfl) (by kernel_rfl) (fun _ _ _ h => absurd h.1 (by intro h; cases h)) (Or.inl ⟨by rfl, ?hy34⟩) ?rs34
                      case hy34 => (intro w; go_simp); all_goals (with_reducible rfl)
                      refine wpAny_ready (rs := [11]) (by kernel_rfl) (by simp) ?_
                      refine AllReady.cons rfl (fun K' hK => ?_) ?_
                      · have o0 := OX3.a0
                        have o1 := OX3.a1
                        have g0 := OX3.frozen 0
                        have g1 := OX3.frozen 1
                        go_simp
                        refine hK _ _ ?_
                        clear hK
                        refine wpAny_done (by kernel_rfl) ?_ _
                        refine ⟨rfl, ?_⟩
                        gi_wp2_with fail
                        gi_meet
                        case rel => exact ⟨B2, cb, X, rfl, rfl, Lib.hid (row_setT (OX3.set 0 (.int .i64 tv)) (row_setT OX3 RL3 (by decide) 0 (.int .i64 tv)) (by decide) 1 (.bool tb)), Lib.hid (by have := (OX3.set 0 (.int .i64 tv)).set 1 (.bool tb); simpa using this), Lib.hid ((BU3.setCell (p := ⟨X, 0, none⟩) hX (.int .i64 tv)).setCell (p := ⟨X, 1, none⟩) hX (.bool tb)), Lib.hid hX⟩
                      exact AllReady.nil
                    exact AllReady.nil
                  refine AllReady.cons rfl (fun K' hK => ?_) ?_
                  · go_simp
                    refine hK _ _ ?_
                    clear hK
                    have BU2 := BU1.alloc BU1.size (.cells #[.int .i64 0, .bool false] 99)
                    have OX2 := ObjAt.new U1 #[.int .i64 0, .bool false] 99
                    have hX : V.heap.size ≤ U1.heap.size := BU1.size
                    clear x0 x1 y0 y1 y2 y3 y4
                    generalize U1.heap.size = X at OX2 hX ⊢
                    generalize U1.alloc (.cells #[.int .i64 0, .bool false] 99) = U2 at BU2 OX2 ⊢
                    obtain ⟨x0, x1, y0, y1, y2, y3, y4⟩ := FC.out _ BU2
                    refine wpAny_ready (rs := [5]) (by kernel_rfl) (by simp) ?_
                    refine AllReady.cons rfl (fun K' hK => ?_) ?_
                    · go_simp
                      go_wp2_with (go_at_call 85; (with_reducible refine (cL.out _ BU2).mono ?_); rintro e U3 ⟨B2, cb, rfl, ro, k⟩; have BU3 := BU2.trans (k.mono BU2.size); have OX3 := OX2.below k; have RL3 := own_lower (b' := V.heap.size) ro BU2.size; clear k x0 x1 y0 y1 y2 y3 y4 ro; obtain ⟨x0, x1, y0, y1, y2, y3, y4⟩ := FC.out _ BU3)
                      try (refine hK _ _ ?_)
                      refine wpAny_take (i := 6) (v := ?vv35) rfl (by kernel_rfl) (by kernel_rfl) (by kernel_rfl) (fun _ _ _ h => absurd h.1 (by intro h; cases h)) (Or.inl ⟨by rfl, ?hy35⟩) ?rs35
                      case hy35 => (intro w; go_simp); all_goals (with_reducible rfl)
                      refine wpAny_take (i := 7) (v := ?vv36) rfl (by kernel_rfl) (by kernel_rfl) (by kernel_rfl) (fun _ _ _ h => absurd h.1 (by intro h; cases h)) (Or.inl ⟨by rfl, ?hy36⟩) ?rs36
                      case hy36 => (intro w; go_simp); all_goals (with_reducible rfl)
                      refine wpAny_take (i := 8) (v := ?vv37) rfl (by kernel_rfl) (by kernel_rfl) (by kernel_rfl) (fun _ _ _ h => absurd h.1 (by intro h; cases h)) (Or.inl ⟨by rfl, ?hy37⟩) ?rs37
                      case hy37 => (intro w; go_simp); all_goals (with_reducible rfl)
                      refine wpAny_take (i := 10) (v := ?vv38) rfl (by kernel_rfl) (by kernel_rfl) (by kernel_rfl) (fun _ _ _ h => absurd h.1 (by intro h; cases h)) (Or.inl ⟨by rfl, ?hy38⟩) ?rs38
                      case hy38 => (intro w; go_simp); all_goals (with_reducible rfl)
                      refine wpAny_ready (rs := [11]) (by kernel_rfl) (by simp) ?_
                      refine AllReady.cons rfl (fun K' hK => ?_) ?_
                      · have o0 := OX3.a0
                        have o1 := OX3.a1
                        have g0 := OX3.frozen 0
                        have g1 := OX3.frozen 1
                        go_simp
                        refine hK _ _ ?_
                        clear hK
                        refine wpAny_done (by kernel_rfl) ?_ _
                        refine ⟨rfl, ?_⟩
                        gi_wp2_with fail
                        gi_meet
                        case rel => exact ⟨B2, cb, X, rfl, rfl, Lib.hid (row_setT (OX3.set 0 (.int .i64 tv)) (row_setT OX3 RL3 (by decide) 0 (.int .i64 tv)) (by decide) 1 (.bool tb)), Lib.hid (by have := (OX3.set 0 (.int .i64 tv)).set 1 (.bool tb); simpa using this), Lib.hid ((BU3.setCell (p := ⟨X, 0, none⟩) hX (.int .i64 tv)).setCell (p := ⟨X, 1, none⟩) hX (.bool tb)), Lib.hid hX⟩
                      exact AllReady.nil
                    exact AllReady.nil
                  exact AllReady.nil
                refine AllReady.cons rfl (fun K' hK => ?_) ?_
                · go_simp
                  refine hK _ _ ?_
                  clear hK
                  have BU2 := BU1.alloc BU1.size (.cells #[.int .i64 0, .bool false] 99)
                  have OX2 := ObjAt.new U1 #[.int .i64 0, .bool false] 99
                  have hX : V.heap.size ≤ U1.heap.size := BU1.size
                  clear x0 x1 y0 y1 y2 y3 y4
                  generalize U1.heap.size = X at OX2 hX ⊢
                  generalize U1.alloc (.cells #[.int .i64 0, .bool false] 99) = U2 at BU2 OX2 ⊢
                  obtain ⟨x0, x1, y0, y1, y2, y3, y4⟩ := FC.out _ BU2
                  refine wpAny_ready (rs := [0]) (by kernel_rfl) (by simp) ?_
                  refine AllReady.cons rfl (fun K' hK => ?_) ?_
                  · go_simp
                    refine hK _ _ ?_
                    clear hK
                    refine wpAny_ready (rs := [5]) (by kernel_rfl) (by simp) ?_
                    refine AllReady.cons rfl (fun K' hK => ?_) ?_
                    · go_simp
                      go_wp2_with (go_at_call 85; (with_reducible refine (cL.out _ BU2).mono ?_); rintro e U3 ⟨B2, cb, rfl, ro, k⟩; have BU3 := BU2.trans (k.mono BU2.size); have OX3 := OX2.below k; have RL3 := own_lower (b' := V.heap.size) ro BU2.size; clear k x0 x1 y0 y1 y2 y3 y4 ro; obtain ⟨x0, x1, y0, y1, y2, y3, y4⟩ := FC.out _ BU3)
                      try (refine hK _ _ ?_)
                      refine wpAny_take (i := 6) (v := ?vv39) rfl (by kernel_rfl) (by kernel_rfl) (by kernel_rfl) (fun _ _ _ h => absurd h.1 (by intro h; cases h)) (Or.inl ⟨by rfl, ?hy39⟩) ?rs39
                      case hy39 => (intro w; go_simp); all_goals (with_reducible rfl)
                      refine wpAny_take (i := 7) (v := ?vv40) rfl (by kernel_rfl) (by kernel_rfl) (by kernel_rfl) (fun _ _ _ h => absurd h.1 (by intro h; cases h)) (Or.inl ⟨by rfl, ?hy40⟩) ?rs40
                      case hy40 => (intro w; go_simp); all_goals (with_reducible rfl)
                      refine wpAny_take (i := 8) (v := ?vv41) rfl (by kernel_rfl) (by kernel_rfl) (by kernel_rfl) (fun _ _ _ h => absurd h.1 (by intro h; cases h)) (Or.inl ⟨by rfl, ?hy41⟩) ?rs41
                      case hy41 => (intro w; go_simp); all_goals (with_reducible rfl)
                      refine wpAny_take (i := 10) (v := ?vv42) rfl (by kernel_rfl) (by kernel_rfl) (by kernel_rfl) (fun _ _ _ h => absurd h.1 (by intro h; cases h)) (Or.inl ⟨by rfl, ?hy42⟩) ?rs42
                      case hy42 => (intro w; go_simp); all_goals (with_reducible rfl)
                      refine wpAny_ready (rs := [11]) (by kernel_rfl) (by simp) ?_
                      refine AllReady.cons rfl (fun K' hK => ?_) ?_
                      · have o0 := OX3.a0
                        have o1 := OX3.a1
                        have g0 := OX3.frozen 0
                        have g1 := OX3.frozen 1
                        go_simp
                        refine hK _ _ ?_
                        clear hK
                        refine wpAny_done (by kernel_rfl) ?_ _
                        refine ⟨rfl, ?_⟩
                        gi_wp2_with fail
                        gi_meet
                        case rel => exact ⟨B2, cb, X, rfl, rfl, Lib.hid (row_setT (OX3.set 0 (.int .i64 tv)) (row_setT OX3 RL3 (by decide) 0 (.int .i64 tv)) (by decide) 1 (.bool tb)), Lib.hid (by have := (OX3.set 0 (.int .i64 tv)).set 1 (.bool tb); simpa using this), Lib.hid ((BU3.setCell (p := ⟨X, 0, none⟩) hX (.int .i64 tv)).setCell (p := ⟨X, 1, none⟩) hX (.bool tb)), Lib.hid hX⟩
                      exact AllReady.nil
                    exact AllReady.nil
                  exact AllReady.nil
                exact AllReady.nil
              refine AllReady.cons rfl (fun K' hK => ?_) ?_
              · go_simp
                refine hK _ _ ?_
                clear hK
                have BU1 := BU0.alloc BU0.size (.cells #[.int .i64 0, .bool false] 99)
                have OX1 := ObjAt.new U0 #[.int .i64 0, .bool false] 99
                have hX : V.heap.size ≤ U0.heap.size := BU0.size
                clear x0 x1 y0 y1 y2 y3 y4
                generalize U0.heap.size = X at OX1 hX ⊢
                generalize U0.alloc (.cells #[.int .i64 0, .bool false] 99) = U1 at BU1 OX1 ⊢
                obtain ⟨x0, x1, y0, y1, y2, y3, y4⟩ := FC.out _ BU1
                refine wpAny_ready (rs := [0, 4]) (by kernel_rfl) (by simp) ?_
                refine AllReady.cons rfl (fun K' hK => ?_) ?_
                · go_simp
                  refine hK _ _ ?_
                  clear hK
                  refine wpAny_ready (rs := [4]) (by kernel_rfl) (by simp) ?_
                  refine AllReady.cons rfl (fun K' hK => ?_) ?_
                  · go_simp
                    go_wp2_with (go_at_call 69; (with_reducible refine (cP.out _ BU1).mono ?_); rintro e U2 ⟨rfl, k⟩; have BU2 := BU1.trans (k.mono BU1.size); have OX2 := OX1.below k; clear k x0 x1 y0 y1 y2 y3 y4; obtain ⟨x0, x1, y0, y1, y2, y3, y4⟩ := FC.out _ BU2)
                    try (refine hK _ _ ?_)
                    refine wpAny_ready (rs := [5]) (by kernel_rfl) (by simp) ?_
                    refine AllReady.cons rfl (fun K' hK => ?_) ?_
                    · go_simp
                      go_wp2_with (go_at_call 85; (with_reducible refine (cL.out _ BU2).mono ?_); rintro e U3 ⟨B2, cb, rfl, ro, k⟩; have BU3 := BU2.trans (k.mono BU2.size); have OX3 := OX2.below k; have RL3 := own_lower (b' := V.heap.size) ro BU2.size; clear k x0 x1 y0 y1 y2 y3 y4 ro; obtain ⟨x0, x1, y0, y1, y2, y3, y4⟩ := FC.out _ BU3)
                      try (refine hK _ _ ?_)
                      refine wpAny_take (i := 6) (v := ?vv43) rfl (by kernel_rfl) (by kernel_rfl) (by kernel_rfl) (fun _ _ _ h => absurd h.1 (by intro h; cases h)) (Or.inl ⟨by rfl, ?hy43⟩) ?rs43
                      case hy43 => (intro w; go_simp); all_goals (with_reducible rfl)
                      refine wpAny_take (i := 7) (v := ?vv44) rfl (by kernel_rfl) (by kernel_rfl) (by kernel_rfl) (fun _ _ _ h => absurd h.1 (by intro h; cases h)) (Or.inl ⟨by rfl, ?hy44⟩) ?rs44
                      case hy44 => (intro w; go_simp); all_goals (with_reducible rfl)
                      refine wpAny_take (i := 8) (v := ?vv45) rfl (by kernel_rfl) (by kernel_rfl) (by kernel_rfl) (fun _ _ _ h => absurd h.1 (by intro h; cases h)) (Or.inl ⟨by rfl, ?hy45⟩) ?rs45
                      case hy45 => (intro w; go_simp); all_goals (with_reducible rfl)
                      refine wpAny_take (i := 10) (v := ?vv46) rfl (by kernel_rfl) (by kernel_rfl) (by kernel_rfl) (fun _ _ _ h => absurd h.1 (by intro h; cases h)) (Or.inl ⟨by rfl, ?hy46⟩) ?rs46
                      case hy46 => (intro w; go_simp); all_goals (with_reducible rfl)
                      refine wpAny_ready (rs := [11]) (by kernel_rfl) (by simp) ?_
                      refine AllReady.cons rfl (fun K' hK => ?_) ?_
                      · have o0 := OX3.a0
                        have o1 := OX3.a1
                        have g0 := OX3.frozen 0
                        have g1 := OX3.frozen 1
                        go_simp
                        refine hK _ _ ?_
                        clear hK
                        refine wpAny_done (by kernel_rfl) ?_ _
                        refine ⟨rfl, ?_⟩
                        gi_wp2_with fail
                        gi_meet
                        case rel => exact ⟨B2, cb, X, rfl, rfl, Lib.hid (row_setT (OX3.set 0 (.int .i64 tv)) (row_setT OX3 RL3 (by decide) 0 (.int .i64 tv)) (by decide) 1 (.bool tb)), Lib.hid (by have := (OX3.set 0 (.int .i64 tv)).set 1 (.bool tb); simpa using this), Lib.hid ((BU3.setCell (p := ⟨X, 0, none⟩) hX (.int .i64 tv)).setCell (p := ⟨X, 1, none⟩) hX (.bool tb)), Lib.hid hX⟩
                      exact AllReady.nil
                    exact AllReady.nil
                  exact AllReady.nil
                refine AllReady.cons rfl (fun K' hK => ?_) ?_
                · go_simp
                  go_wp2_with (go_at_call 69; (with_reducible refine (cP.out _ BU1).mono ?_); rintro e U2 ⟨rfl, k⟩; have BU2 := BU1.trans (k.mono BU1.size); have OX2 := OX1.below k; clear k x0 x1 y0 y1 y2 y3 y4; obtain ⟨x0, x1, y0, y1, y2, y3, y4⟩ := FC.out _ BU2)
                  try (refine hK _ _ ?_)
                  refine wpAny_ready (rs := [0]) (by kernel_rfl) (by simp) ?_
                  refine AllReady.cons rfl (fun K' hK => ?_) ?_
                  · go_simp
                    refine hK _ _ ?_
                    clear hK
                    refine wpAny_ready (rs := [5]) (by kernel_rfl) (by simp) ?_
                    refine AllReady.cons rfl (fun K' hK => ?_) ?_
                    · go_simp
                      go_wp2_with (go_at_call 85; (with_reducible refine (cL.out _ BU2).mono ?_); rintro e U3 ⟨B2, cb, rfl, ro, k⟩; have BU3 := BU2.trans (k.mono BU2.size); have OX3 := OX2.below k; have RL3 := own_lower (b' := V.heap.size) ro BU2.size; clear k x0 x1 y0 y1 y2 y3 y4 ro; obtain ⟨x0, x1, y0, y1, y2, y3, y4⟩ := FC.out _ BU3)
                      try (refine hK _ _ ?_)
                      refine wpAny_take (i := 6) (v := ?vv47) rfl (by kernel_rfl) (by kernel_rfl) (by kernel_rfl) (fun _ _ _ h => absurd h.1 (by intro h; cases h)) (Or.inl ⟨by rfl, ?hy47⟩) ?rs47
                      case hy47 => (intro w; go_simp); all_goals (with_reducible rfl)
                      refine wpAny_take (i := 7) (v := ?vv48) rfl (by kernel_rfl) (by kernel_rfl) (by kernel_rfl) (fun _ _ _ h => absurd h.1 (by intro h; cases h)) (Or.inl ⟨by rfl, ?hy48⟩) ?rs48
                      case hy48 => (intro w; go_simp); all_goals (with_reducible rfl)
                      refine wpAny_take (i := 8) (v := ?vv49) rfl (by kernel_rfl) (by kernel_rfl) (by kernel_rfl) (fun _ _ _ h => absurd h.1 (by intro h; cases h)) (Or.inl ⟨by rfl, ?hy49⟩) ?rs49
                      case hy49 => (intro w; go_simp); all_goals (with_reducible rfl)
                      refine wpAny_take (i := 10) (v := ?vv50) rfl (by kernel_rfl) (by kernel_rfl) (by kernel_rfl) (fun _ _ _ h => absurd h.1 (by intro h; cases h)) (Or.inl ⟨by rfl, ?hy50⟩) ?rs50
                      case hy50 => (intro w; go_simp); all_goals (with_reducible rfl)
                      refine wpAny_ready (rs := [11]) (by kernel_rfl) (by simp) ?_
                      refine AllReady.cons rfl (fun K' hK => ?_) ?_
                      · have o0 := OX3.a0
                        have o1 := OX3.a1
                        have g0 := OX3.frozen 0
                        have g1 := OX3.frozen 1
                        go_simp
                        refine hK _ _ ?_
                        clear hK
                        refine wpAny_done (by kernel_rfl) ?_ _
                        refine ⟨rfl, ?_⟩
                        gi_wp2_with fail
                        gi_meet
                        case rel => exact ⟨B2, cb, X, rfl, rfl, Lib.hid (row_setT (OX3.set 0 (.int .i64 tv)) (row_setT OX3 RL3 (by decide) 0 (.int .i64 tv)) (by decide) 1 (.bool tb)), Lib.hid (by have := (OX3.set 0 (.int .i64 tv)).set 1 (.bool tb); simpa using this), Lib.hid ((BU3.setCell (p := ⟨X, 0, none⟩) hX (.int .i64 tv)).setCell (p := ⟨X, 1, none⟩) hX (.bool tb)), Lib.hid hX⟩
                      exact AllReady.nil
                    exact AllReady.nil
                  exact AllReady.nil
                exact AllReady.nil
              exact AllReady.nil
            refine AllReady.cons rfl (fun K' hK => ?_) ?_
            · go_simp
              refine hK _ _ ?_
              clear hK
              have BU1 := BU0.alloc BU0.size (.cells #[.int .i64 0, .bool false] 99)
              have OX1 := ObjAt.new U0 #[.int .i64 0, .bool false] 99
              have hX : V.heap.size ≤ U0.heap.size := BU0.size
              clear x0 x1 y0 y1 y2 y3 y4
              generalize U0.heap.size = X at OX1 hX ⊢
              generalize U0.alloc (.cells #[.int .i64 0, .bool false] 99) = U1 at BU1 OX1 ⊢
              obtain ⟨x0, x1, y0, y1, y2, y3, y4⟩ := FC.out _ BU1
              refine wpAny_ready (rs := [0, 2]) (by kernel_rfl) (by simp) ?_
              refine AllReady.cons rfl (fun K' hK => ?_) ?_
              · go_simp
                refine hK _ _ ?_
                clear hK
                refine wpAny_ready (rs := [2]) (by kernel_rfl) (by simp) ?_
                refine AllReady.cons rfl (fun K' hK => ?_) ?_
                · go_simp
                  refine hK _ _ ?_
                  clear hK
                  refine wpAny_ready (rs := [4]) (by kernel_rfl) (by simp) ?_
                  refine AllReady.cons rfl (fun K' hK => ?_) ?_
                  · go_simp
                    go_wp2_with (go_at_call 69; (with_reducible refine (cP.out _ BU1).mono ?_); rintro e U2 ⟨rfl, k⟩; have BU2 := BU1.trans (k.mono BU1.size); have OX2 := OX1.below k; clear k x0 x1 y0 y1 y2 y3 y4; obtain ⟨x0, x1, y0, y1, y2, y3, y4⟩ := FC.out _ BU2)
                    try (refine hK _ _ ?_)
                    refine wpAny_ready (rs := [5]) (by kernel_rfl) (by simp) ?_
                    refine AllReady.cons rfl (fun K' hK => ?_) ?_
                    · go_simp
                      go_wp2_with (go_at_call 85; (with_reducible refine (cL.out _ BU2).mono ?_); rintro e U3 ⟨B2, cb, rfl, ro, k⟩; have BU3 := BU2.trans (k.mono BU2.size); have OX3 := OX2.below k; have RL3 := own_lower (b' := V.heap.size) ro BU2.size; clear k x0 x1 y0 y1 y2 y3 y4 ro; obtain ⟨x0, x1, y0, y1, y2, y3, y4⟩ := FC.out _ BU3)
                      try (refine hK _ _ ?_)
                      refine wpAny_take (i := 6) (v := ?vv51) rfl (by kernel_rfl) (by kernel_rfl) (by kernel_rfl) (fun _ _ _ h => absurd h.1 (by intro h; cases h)) (Or.inl ⟨by rfl, ?hy51⟩) ?rs51
                      case hy51 => (intro w; go_simp); all_goals (with_reducible rfl)
                      refine wpAny_take (i := 7) (v := ?vv52) rfl (by kernel_rfl) (by kernel_rfl) (by kernel_rfl) (fun _ _ _ h => absurd h.1 (by intro h; cases h)) (Or.inl ⟨by rfl, ?hy52⟩) ?rs52
                      case hy52 => (intro w; go_simp); all_goals (with_reducible rfl)
                      refine wpAny_take (i := 8) (v := ?vv53) rfl (by kernel_rfl) (by kernel_rfl) (by kernel_rfl) (fun _ _ _ h => absurd h.1 (by intro h; cases h)) (Or.inl ⟨by rfl, ?hy53⟩) ?rs53
                      case hy53 => (intro w; go_simp); all_goals (with_reducible rfl)
                      refine wpAny_take (i := 10) (v := ?vv54) rfl (by kernel_rfl) (by kernel_rfl) (by kernel_rfl) (fun _ _ _ h => absurd h.1 (by intro h; cases h)) (Or.inl ⟨by rfl, ?hy54⟩) ?rs54
                      case hy54 => (intro w; go_simp); all_goals (with_reducible rfl)
                      refine wpAny_ready (rs := [11]) (by kernel_rfl) (by simp) ?_
                      refine AllReady.cons rfl (fun K' hK => ?_) ?_
                      · have o0 := OX3.a0
                        have o1 := OX3.a1
                        have g0 := OX3.frozen 0
                        have g1 := OX3.frozen 1
                        go_simp
                        refine hK _ _ ?_
                        clear hK
                        refine wpAny_done (by kernel_rfl) ?_ _
                        refine ⟨rfl, ?_⟩
                        gi_wp2_with fail
                        gi_meet
                        case rel => exact ⟨B2, cb, X, rfl, rfl, Lib.hid (row_setT (OX3.set 0 (.int .i64 tv)) (row_setT OX3 RL3 (by decide) 0 (.int .i64 tv)) (by decide) 1 (.bool tb)), Lib.hid (by have := (OX3.set 0 (.int .i64 tv)).set 1 (.bool tb); simpa using this), Lib.hid ((BU3.setCell (p := ⟨X, 0, none⟩) hX (.int .i64 tv)).setCell (p := ⟨X, 1, none⟩) hX (.bool tb)), Lib.hid hX⟩
                      exact AllReady.nil
                    exact AllReady.nil
                  exact AllReady.nil
                exact AllReady.nil
              refine AllReady.cons rfl (fun K' hK => ?_) ?_
              · go_simp
                refine hK _ _ ?_
                clear hK
                refine wpAny_ready (rs := [0, 4]) (by kernel_rfl) (by simp) ?_
                refine AllReady.cons rfl (fun K' hK => ?_) ?_
                · go_simp
                  refine hK _ _ ?_
                  clear hK
                  refine wpAny_ready (rs := [4]) (by kernel_rfl) (by simp) ?_
                  refine AllReady.cons rfl (fun K' hK => ?_) ?_
                  · go_simp
                    go_wp2_with (go_at_call 69; (with_reducible refine (cP.out _ BU1).mono ?_); rintro e U2 ⟨rfl, k⟩; have BU2 := BU1.trans (k.mono BU1.size); have OX2 := OX1.below k; clear k x0 x1 y0 y1 y2 y3 y4; obtain ⟨x0, x1, y0, y1, y2, y3, y4⟩ := FC.out _ BU2)
                    try (refine hK _ _ ?_)
                    refine wpAny_ready (rs := [5]) (by kernel_rfl) (by simp) ?_
                    refine AllReady.cons rfl (fun K' hK => ?_) ?_
                    · go_simp
                      go_wp2_with (go_at_call 85; (with_reducible refine (cL.out _ BU2).mono ?_); rintro e U3 ⟨B2, cb, rfl, ro, k⟩; have BU3 := BU2.trans (k.mono BU2.size); have OX3 := OX2.below k; have RL3 := own_lower (b' := V.heap.size) ro BU2.size; clear k x0 x1 y0 y1 y2 y3 y4 ro; obtain ⟨x0, x1, y0, y1, y2, y3, y4⟩ := FC.out _ BU3)
                      try (refine hK _ _ ?_)
                      refine wpAny_take (i := 6) (v := ?vv55) rfl (by kernel_rfl) (by kernel_rfl) (by kernel_rfl) (fun _ _ _ h => absurd h.1 (by intro h; cases h)) (Or.inl ⟨by rfl, ?hy55⟩) ?rs55
                      case hy55 => (intro w; go_simp); all_goals (with_reducible rfl)
                      refine wpAny_take (i := 7) (v := ?vv56) rfl (by kernel_rfl) (by kernel_rfl) (by kernel_rfl) (fun _ _ _ h => absurd h.1 (by intro h; cases h)) (Or.inl ⟨by rfl, ?hy56⟩) ?rs56
                      case hy56 => (intro w; go_simp); all_goals (with_reducible rfl)
                      refine wpAny_take (i := 8) (v := ?vv57) rfl (by kernel_rfl) (by kernel_rfl) (by kernel_rfl) (fun _ _ _ h => absurd h.1 (by intro h; cases h)) (Or.inl ⟨by rfl, ?hy57⟩) ?rs57
                      case hy57 => (intro w; go_simp); all_goals (with_reducible rfl)
                      refine wpAny_take (i := 10) (v := ?vv58) rfl (by kernel_rfl) (by kernel_rfl) (by kernel_rfl) (fun _ _ _ h => absurd h.1 (by intro h; cases h)) (Or.inl ⟨by rfl, ?hy58⟩) ?rs58
                      case hy58 => (intro w; go_simp); all_goals (with_reducible rfl)
                      refine wpAny_ready (rs := [11]) (by kernel_rfl) (by simp) ?_
                      refine AllReady.cons rfl (fun K' hK => ?_) ?_
                      · have o0 := OX3.a0
                        have o1 := OX3.a1
                        have g0 := OX3.frozen 0
                        have g1 := OX3.frozen 1
                        go_simp
                        refine hK _ _ ?_
                        clear hK
                        refine wpAny_done (by kernel_rfl) ?_ _
                        refine ⟨rfl, ?_⟩
                        gi_wp2_with fail
                        gi_meet
                        case rel => exact ⟨B2, cb, X, rfl, rfl, Lib.hid (row_setT (OX3.set 0 (.int .i64 tv)) (row_setT OX3 RL3 (by decide) 0 (.int .i64 tv)) (by decide) 1 (.bool tb)), Lib.hid (by have := (OX3.set 0 (.int .i64 tv)).set 1 (.bool tb); simpa using this), Lib.hid ((BU3.setCell (p := ⟨X, 0, none⟩) hX (.int .i64 tv)).setCell (p := ⟨X, 1, none⟩) hX (.bool tb)), Lib.hid hX⟩
                      exact AllReady.nil
                    exact AllReady.nil
                  exact AllReady.nil
                refine AllReady.cons rfl (fun K' hK => ?_) ?_
                · go_simp
                  go_wp2_with (go_at_call 69; (with_reducible refine (cP.out _ BU1).mono ?_); rintro e U2 ⟨rfl, k⟩; have BU2 := BU1.trans (k.mono BU1.size); have OX2 := OX1.below k; clear k x0 x1 y0 y1 y2 y3 y4; obtain ⟨x0, x1, y0, y1, y2, y3, y4⟩ := FC.out _ BU2)
                  try (refine hK _ _ ?_)
                  refine wpAny_ready (rs := [0]) (by kernel_rfl) (by simp) ?_
                  refine AllReady.cons rfl (fun K' hK => ?_) ?_
                  · go_simp
                    refine hK _ _ ?_
                    clear hK
                    refine wpAny_ready (rs := [5]) (by kernel_rfl) (by simp) ?_
                    refine AllReady.cons rfl (fun K' hK => ?_) ?_
                    · go_simp
                      go_wp2_with (go_at_call 85; (with_reducible refine (cL.out _ BU2).mono ?_); rintro e U3 ⟨B2, cb, rfl, ro, k⟩; have BU3 := BU2.trans (k.mono BU2.size); have OX3 := OX2.below k; have RL3 := own_lower (b' := V.heap.size) ro BU2.size; clear k x0 x1 y0 y1 y2 y3 y4 ro; obtain ⟨x0, x1, y0, y1, y2, y3, y4⟩ := FC.out _ BU3)
                      try (refine hK _ _ ?_)
                      refine wpAny_take (i := 6) (v := ?vv59) rfl (by kernel_rfl) (by kernel_rfl) (by kernel_rfl) (fun _ _ _ h => absurd h.1 (by intro h; cases h)) (Or.inl ⟨by rfl, ?hy59⟩) ?rs59
                      case hy59 => (intro w; go_simp); all_goals (with_reducible rfl)
                      refine wpAny_take (i := 7) (v := ?vv60) rfl (by kernel_rfl) (by kernel_rfl) (by kernel_rfl) (fun _ _ _ h => absurd h.1 (by intro h; cases h)) (Or.inl ⟨by rfl, ?hy60⟩) ?rs60
                      case hy60 => (intro w; go_simp); all_goals (with_reducible rfl)
                      refine wpAny_take (i := 8) (v := ?vv61) rfl (by kernel_rfl) (by kernel_rfl) (by kernel_rfl) (fun _ _ _ h => absurd h.1 (by intro h; cases h)) (Or.inl ⟨by rfl, ?hy61⟩) ?rs61
                      case hy61 => (intro w; go_simp); all_goals (with_reducible rfl)
                      refine wpAny_take (i := 10) (v := ?vv62) rfl (by kernel_rfl) (by kernel_rfl) (by kernel_rfl) (fun _ _ _ h => absurd h.1 (by intro h; cases h)) (Or.inl ⟨by rfl, ?hy62⟩) ?rs62
                      case hy62 => (intro w; go_simp); all_goals (with_reducible rfl)
                      refine wpAny_ready (rs := [11]) (by kernel_rfl) (by simp) ?_
                      refine AllReady.cons rfl (fun K' hK => ?_) ?_
                      · have o0 := OX3.a0
                        have o1 := OX3.a1
                        have g0 := OX3.frozen 0
                        have g1 := OX3.frozen 1
                        go_simp
                        refine hK _ _ ?_
                        clear hK
                        refine wpAny_done (by kernel_rfl) ?_ _
                        refine ⟨rfl, ?_⟩
                        gi_wp2_with fail
                        gi_meet
                        case rel => exact ⟨B2, cb, X, rfl, rfl, Lib.hid (row_setT (OX3.set 0 (.int .i64 tv)) (row_setT OX3 RL3 (by decide) 0 (.int .i64 tv)) (by decide) 1 (.bool tb)), Lib.hid (by have := (OX3.set 0 (.int .i64 tv)).set 1 (.bool tb); simpa using this), Lib.hid ((BU3.setCell (p := ⟨X, 0, none⟩) hX (.int .i64 tv)).setCell (p := ⟨X, 1, none⟩) hX (.bool tb)), Lib.hid hX⟩
                      exact AllReady.nil
                    exact AllReady.nil
                  exact AllReady.nil
                exact AllReady.nil
              exact AllReady.nil
            exact AllReady.nil
          case rest =>
            obtain ⟨B9, cb9, X, rfl, rfl, RL, OX, BW, hXV0⟩ := hcut
            clear cP cL FC WB
            obtain ⟨⟨P9, L9⟩, hac⟩ : ∃ x, accH fa fr h pre = x := ⟨_, rfl⟩
            have y := Y.out.below BW.out
            rw [hac] at y
            dsimp only at y
            obtain ⟨np9, hnp9⟩ : ∃ x, P9.length = x := ⟨_, rfl⟩
            obtain ⟨nl9, hnl9⟩ : ∃ x, L9.length = x := ⟨_, rfl⟩
            rw [hnp9, hnl9] at y
            have hcap9 := own_caps y.rp
            have YC := Lib.hid y
            clear y
            have hbl9 : nl9 ≤ s := by
              have h1 := accH_llen (a := fa) (r := fr) HO.out.lays pre hsp.last.1
              rw [hac, hnl9, ← HSE.out] at h1
              exact h1
            have hbp9 : np9 ≤ 900 := by
              have h1 := accH_plen fa fr h pre
              rw [hac, hnp9] at h1
              have := HPL.out
              omega
            have hbig9 : nl9 + n9 ≤ 100000 := by have := HM.out.l; omega
            have hsP9 : Srt P9 := by have h1 := accH_props (a := fa) (r := fr) HO.out pre; rw [hac] at h1; exact h1
            have HAC := Lib.hid (show accH fa fr h (pre ++ [(s, e)]) = (putS (tv, tb) P9 key, L9 ++ Lp) by
              rw [accH_snoc HO.out.lays HS.out, hmm, HGG.out, HKEY.out, HPR.out, HDEC.out, hac])
            have HNP := Lib.hid hnp9
            have HNL := Lib.hid hnl9
            have HSP := Lib.hid hsP9
            have hBaV : Ba < V.heap.size := (Array.getElem?_eq_some_iff.1 BY.out).1
            have hXV : V.heap.size ≤ X := hXV0.out
            clear hac hnp9 hnl9 hsP9
            gi_wp2_with fail
            gi_cut [] from 62 (fun wk => ∃ (L3 : Option Addr) (d3 : Nat), Hid (DS w b q #[.func (.func ga) #[] ca, .func (.func gr) #[] cr] #[.slice A np cp, .int .i64 hi, .int .i64 hmv, .slice B nd cd, .slice (some ⟨g, o, none⟩) nl cl] #[.slice A2 np9 c2', .int .i64 iv, .int .i64 mv, .slice PD nd7 c2, .slice L3 (nl9 + n9) d3] (.slice A2 np9 c2') np9 (rowP P9) (.slice PD nd7 c2) nd7 (rowD (keepD (fun d => fr d.rev) h.dels)) (.slice L3 (nl9 + n9) d3) (nl9 + n9) (rowL (L9 ++ Lp)) wk) ∧ Hid (KK Ba W9.heap.size V wk) ∧ Hid (ObjAt wk X #[.int .i64 tv, .bool tb] 99))
            case first =>
              refine region_round (by kernel_rfl) (by kernel_rfl) ?_
              have DU0 := Lib.hid YC.out.drew
              have KU0 := Lib.hid (show KK Ba W9.heap.size V wc.drew from KK.below hBaV BW.out.drew)
              have OX0 := Lib.hid (show ObjAt wc.drew X #[.int .i64 tv, .bool tb] 99 from OX.out)
              have AT0 := Lib.hid (show AtL wc.drew B9 Lp from own_atL RL.out.drew HN9.out)
              clear YC OX RL BW
              (try (change wpAny _ _ _ _ _ _ _ (World.drew _)))
              generalize wc.drew = U0 at DU0 KU0 OX0 AT0 ⊢
              have xq := DU0.out.oq.get (k := 0) (v := .pointer (some ⟨b + 1 + 1, 1, none⟩)) rfl
              have x4 := DU0.out.o3.get (k := 4) (v := .slice L2 nl9 d2) rfl
              refine wpAny_take (i := 5) (v := ?vv63) rfl (by kernel_rfl) (by kernel_rfl) (by kernel_rfl) (fun _ _ _ h => absurd h.1 (by intro h; cases h)) (Or.inl ⟨by rfl, ?hy63⟩) ?rs63
              case hy63 => (intro w; go_simp); all_goals (with_reducible rfl)
              refine wpAny_ready (rs := [0, 1]) (by kernel_rfl) (by simp) ?_
              refine AllReady.cons rfl (fun K' hK => ?_) ?_
              · go_simp
                refine hK _ _ ?_
                clear hK
                refine wpAny_ready (rs := [1]) (by kernel_rfl) (by simp) ?_
                refine AllReady.cons rfl (fun K' hK => ?_) ?_
                · go_simp
                  refine hK _ _ ?_
                  clear hK
                  refine wpAny_take (i := 2) (v := ?vv64) rfl (by kernel_rfl) (by kernel_rfl) (by kernel_rfl) (fun _ _ _ h => absurd h.1 (by intro h; cases h)) (Or.inl ⟨by rfl, ?hy64⟩) ?rs64
                  case hy64 => (intro w; go_simp); all_goals (with_reducible rfl)
                  refine wpAny_take (i := 3) (v := ?vv65) rfl (by kernel_rfl) (by kernel_rfl) (by kernel_rfl) (fun _ _ _ h => absurd h.1 (by intro h; cases h)) (Or.inl ⟨by rfl, ?hy65⟩) ?rs65
                  case hy65 => (intro w; go_simp); all_goals (with_reducible rfl)
                  refine wpAny_ready (rs := [4]) (by kernel_rfl) (by simp) ?_
                  refine AllReady.cons rfl (fun K' hK => ?_) ?_
                  · go_simp
                    refine hK _ _ ?_
                    clear hK
                    refine wpAny_ready (rs := [6]) (by kernel_rfl) (by simp) ?_
                    refine AllReady.cons rfl (fun K' hK => ?_) ?_
                    · refine step_ownL (by rfl) (.tmp 66) (.tmp 67) (by rfl) (b + 3) L2 nl9 d2 L9 (by rfl) DU0.out.rl B9 n9 cb9 Lp (by rfl) HN9.out AT0.out hbig9 DU0.out.sz.1 ?_
                      intro L3 d3 U1 hown13 hg13
                      have DU1 := Lib.hid (DU0.out.appL hown13 hg13)
                      have KU1 := Lib.hid (KU0.out.trans (KK.row (KU0.out.box BY.out) DU0.out.rl hg13))
                      have OX1 := Lib.hid (show ObjAt U1 X #[.int .i64 tv, .bool tb] 99 from (hg13.block X OX0.out.lt (own_ne OX0.out DU0.out.rl (by decide))).trans OX0.out)
                      clear hown13 hg13 xq x4
                      have xq := DU1.out.oq.get (k := 0) (v := .pointer (some ⟨b + 1 + 1, 1, none⟩)) rfl
                      have x4 := DU1.out.o3.get (k := 4) (v := .slice L2 nl9 d2) rfl
                      have f4 := DU1.out.o3.frozen 4
                      refine hK _ _ ?_
                      clear hK
                      refine wpAny_take (i := 7) (v := ?vv66) rfl (by kernel_rfl) (by kernel_rfl) (by kernel_rfl) (fun _ _ _ h => absurd h.1 (by intro h; cases h)) (Or.inl ⟨by rfl, ?hy66⟩) ?rs66
                      case hy66 => (intro w; go_simp); all_goals (with_reducible rfl)
                      refine wpAny_take (i := 8) (v := ?vv67) rfl (by kernel_rfl) (by kernel_rfl) (by kernel_rfl) (fun _ _ _ h => absurd h.1 (by intro h; cases h)) (Or.inl ⟨by rfl, ?hy67⟩) ?rs67
                      case hy67 => (intro w; go_simp); all_goals (with_reducible rfl)
                      refine wpAny_ready (rs := [9]) (by kernel_rfl) (by simp) ?_
                      refine AllReady.cons rfl (fun K' hK => ?_) ?_
                      · go_simp
                        refine hK _ _ ?_
                        clear hK
                        refine wpAny_done (by kernel_rfl) ?_ _
                        refine ⟨rfl, ?_⟩
                        gi_wp2_with fail
                        gi_meet
                        case rel => exact ⟨L3, d3, Lib.hid (DU1.out.out 4 (.slice L3 (nl9 + n9) d3)), Lib.hid (KU1.out.trans (KK.out (KU1.out.box BY.out) DU1.out.o3 4 (.slice L3 (nl9 + n9) d3))), Lib.hid (OX1.out.other (by have := hXV; have := Y.out.sz.1; omega) 4 (.slice L3 (nl9 + n9) d3))⟩
                      exact AllReady.nil
                    exact AllReady.nil
                  exact AllReady.nil
                exact AllReady.nil
              refine AllReady.cons rfl (fun K' hK => ?_) ?_
              · go_simp
                refine hK _ _ ?_
                clear hK
                refine wpAny_take (i := 2) (v := ?vv68) rfl (by kernel_rfl) (by kernel_rfl) (by kernel_rfl) (fun _ _ _ h => absurd h.1 (by intro h; cases h)) (Or.inl ⟨by rfl, ?hy68⟩) ?rs68
                case hy68 => (intro w; go_simp); all_goals (with_reducible rfl)
                refine wpAny_take (i := 3) (v := ?vv69) rfl (by kernel_rfl) (by kernel_rfl) (by kernel_rfl) (fun _ _ _ h => absurd h.1 (by intro h; cases h)) (Or.inl ⟨by rfl, ?hy69⟩) ?rs69
                case hy69 => (intro w; go_simp); all_goals (with_reducible rfl)
                refine wpAny_ready (rs := [0, 4]) (by kernel_rfl) (by simp) ?_
                refine AllReady.cons rfl (fun K' hK => ?_) ?_
                · go_simp
                  refine hK _ _ ?_
                  clear hK
                  refine wpAny_ready (rs := [4]) (by kernel_rfl) (by simp) ?_
                  refine AllReady.cons rfl (fun K' hK => ?_) ?_
                  · go_simp
                    refine hK _ _ ?_
                    clear hK
                    refine wpAny_ready (rs := [6]) (by kernel_rfl) (by simp) ?_
                    refine AllReady.cons rfl (fun K' hK => ?_) ?_
                    · refine step_ownL (by rfl) (.tmp 66) (.tmp 67) (by rfl) (b + 3) L2 nl9 d2 L9 (by rfl) DU0.out.rl B9 n9 cb9 Lp (by rfl) HN9.out AT0.out hbig9 DU0.out.sz.1 ?_
                      intro L3 d3 U1 hown13 hg13
                      have DU1 := Lib.hid (DU0.out.appL hown13 hg13)
                      have KU1 := Lib.hid (KU0.out.trans (KK.row (KU0.out.box BY.out) DU0.out.rl hg13))
                      have OX1 := Lib.hid (show ObjAt U1 X #[.int .i64 tv, .bool tb] 99 from (hg13.block X OX0.out.lt (own_ne OX0.out DU0.out.rl (by decide))).trans OX0.out)
                      clear hown13 hg13 xq x4
                      have xq := DU1.out.oq.get (k := 0) (v := .pointer (some ⟨b + 1 + 1, 1, none⟩)) rfl
                      have x4 := DU1.out.o3.get (k := 4) (v := .slice L2 nl9 d2) rfl
                      have f4 := DU1.out.o3.frozen 4
                      refine hK _ _ ?_
                      clear hK
                      refine wpAny_take (i := 7) (v := ?vv70) rfl (by kernel_rfl) (by kernel_rfl) (by kernel_rfl) (fun _ _ _ h => absurd h.1 (by intro h; cases h)) (Or.inl ⟨by rfl, ?hy70⟩) ?rs70
                      case hy70 => (intro w; go_simp); all_goals (with_reducible rfl)
                      refine wpAny_take (i := 8) (v := ?vv71) rfl (by kernel_rfl) (by kernel_rfl) (by kernel_rfl) (fun _ _ _ h => absurd h.1 (by intro h; cases h)) (Or.inl ⟨by rfl, ?hy71⟩) ?rs71
                      case hy71 => (intro w; go_simp); all_goals (with_reducible rfl)
                      refine wpAny_ready (rs := [9]) (by kernel_rfl) (by simp) ?_
                      refine AllReady.cons rfl (fun K' hK => ?_) ?_
                      · go_simp
                        refine hK _ _ ?_
                        clear hK
                        refine wpAny_done (by kernel_rfl) ?_ _
                        refine ⟨rfl, ?_⟩
                        gi_wp2_with fail
                        gi_meet
                        case rel => exact ⟨L3, d3, Lib.hid (DU1.out.out 4 (.slice L3 (nl9 + n9) d3)), Lib.hid (KU1.out.trans (KK.out (KU1.out.box BY.out) DU1.out.o3 4 (.slice L3 (nl9 + n9) d3))), Lib.hid (OX1.out.other (by have := hXV; have := Y.out.sz.1; omega) 4 (.slice L3 (nl9 + n9) d3))⟩
                      exact AllReady.nil
                    exact AllReady.nil
                  exact AllReady.nil
                refine AllReady.cons rfl (fun K' hK => ?_) ?_
                · go_simp
                  refine hK _ _ ?_
                  clear hK
                  refine wpAny_ready (rs := [0, 6]) (by kernel_rfl) (by simp) ?_
                  refine AllReady.cons rfl (fun K' hK => ?_) ?_
                  · go_simp
                    refine hK _ _ ?_
                    clear hK
                    refine wpAny_ready (rs := [6]) (by kernel_rfl) (by simp) ?_
                    refine AllReady.cons rfl (fun K' hK => ?_) ?_
                    · refine step_ownL (by rfl) (.tmp 66) (.tmp 67) (by rfl) (b + 3) L2 nl9 d2 L9 (by rfl) DU0.out.rl B9 n9 cb9 Lp (by rfl) HN9.out AT0.out hbig9 DU0.out.sz.1 ?_
                      intro L3 d3 U1 hown13 hg13
                      have DU1 := Lib.hid (DU0.out.appL hown13 hg13)
                      have KU1 := Lib.hid (KU0.out.trans (KK.row (KU0.out.box BY.out) DU0.out.rl hg13))
                      have OX1 := Lib.hid (show ObjAt U1 X #[.int .i64 tv, .bool tb] 99 from (hg13.block X OX0.out.lt (own_ne OX0.out DU0.out.rl (by decide))).trans OX0.out)
                      clear hown13 hg13 xq x4
                      have xq := DU1.out.oq.get (k := 0) (v := .pointer (some ⟨b + 1 + 1, 1, none⟩)) rfl
                      have x4 := DU1.out.o3.get (k := 4) (v := .slice L2 nl9 d2) rfl
                      have f4 := DU1.out.o3.frozen 4
                      refine hK _ _ ?_
                      clear hK
                      refine wpAny_take (i := 7) (v := ?vv72) rfl (by kernel_rfl) (by kernel_rfl) (by kernel_rfl) (fun _ _ _ h => absurd h.1 (by intro h; cases h)) (Or.inl ⟨by rfl, ?hy72⟩) ?rs72
                      case hy72 => (intro w; go_simp); all_goals (with_reducible rfl)
                      refine wpAny_take (i := 8) (v := ?vv73) rfl (by kernel_rfl) (by kernel_rfl) (by kernel_rfl) (fun _ _ _ h => absurd h.1 (by intro h; cases h)) (Or.inl ⟨by rfl, ?hy73⟩) ?rs73
                      case hy73 => (intro w; go_simp); all_goals (with_reducible rfl)
                      refine wpAny_ready (rs := [9]) (by kernel_rfl) (by simp) ?_
                      refine AllReady.cons rfl (fun K' hK => ?_) ?_
                      · go_simp
                        refine hK _ _ ?_
                        clear hK
                        refine wpAny_done (by kernel_rfl) ?_ _
                        refine ⟨rfl, ?_⟩
                        gi_wp2_with fail
                        gi_meet
                        case rel => exact ⟨L3, d3, Lib.hid (DU1.out.out 4 (.slice L3 (nl9 + n9) d3)), Lib.hid (KU1.out.trans (KK.out (KU1.out.box BY.out) DU1.out.o3 4 (.slice L3 (nl9 + n9) d3))), Lib.hid (OX1.out.other (by have := hXV; have := Y.out.sz.1; omega) 4 (.slice L3 (nl9 + n9) d3))⟩
                      exact AllReady.nil
                    exact AllReady.nil
                  refine AllReady.cons rfl (fun K' hK => ?_) ?_
                  · refine step_ownL (by rfl) (.tmp 66) (.tmp 67) (by rfl) (b + 3) L2 nl9 d2 L9 (by rfl) DU0.out.rl B9 n9 cb9 Lp (by rfl) HN9.out AT0.out hbig9 DU0.out.sz.1 ?_
                    intro L3 d3 U1 hown13 hg13
                    have DU1 := Lib.hid (DU0.out.appL hown13 hg13)
                    have KU1 := Lib.hid (KU0.out.trans (KK.row (KU0.out.box BY.out) DU0.out.rl hg13))
                    have OX1 := Lib.hid (show ObjAt U1 X #[.int .i64 tv, .bool tb] 99 from (hg13.block X OX0.out.lt (own_ne OX0.out DU0.out.rl (by decide))).trans OX0.out)
                    clear hown13 hg13 xq x4
                    have xq := DU1.out.oq.get (k := 0) (v := .pointer (some ⟨b + 1 + 1, 1, none⟩)) rfl
                    have x4 := DU1.out.o3.get (k := 4) (v := .slice L2 nl9 d2) rfl
                    have f4 := DU1.out.o3.frozen 4
                    refine hK _ _ ?_
                    clear hK
                    refine wpAny_ready (rs := [0]) (by kernel_rfl) (by simp) ?_
                    refine AllReady.cons rfl (fun K' hK => ?_) ?_
                    · go_simp
                      refine hK _ _ ?_
                      clear hK
                      refine wpAny_take (i := 7) (v := ?vv74) rfl (by kernel_rfl) (by kernel_rfl) (by kernel_rfl) (fun _ _ _ h => absurd h.1 (by intro h; cases h)) (Or.inl ⟨by rfl, ?hy74⟩) ?rs74
                      case hy74 => (intro w; go_simp); all_goals (with_reducible rfl)
                      refine wpAny_take (i := 8) (v := ?vv75) rfl (by kernel_rfl) (by kernel_rfl) (by kernel_rfl) (fun _ _ _ h => absurd h.1 (by intro h; cases h)) (Or.inl ⟨by rfl, ?hy75⟩) ?rs75
                      case hy75 => (intro w; go_simp); all_goals (with_reducible rfl)
                      refine wpAny_ready (rs := [9]) (by kernel_rfl) (by simp) ?_
                      refine AllReady.cons rfl (fun K' hK => ?_) ?_
                      · go_simp
                        refine hK _ _ ?_
                        clear hK
                        refine wpAny_done (by kernel_rfl) ?_ _
                        refine ⟨rfl, ?_⟩
                        gi_wp2_with fail
                        gi_meet
                        case rel => exact ⟨L3, d3, Lib.hid (DU1.out.out 4 (.slice L3 (nl9 + n9) d3)), Lib.hid (KU1.out.trans (KK.out (KU1.out.box BY.out) DU1.out.o3 4 (.slice L3 (nl9 + n9) d3))), Lib.hid (OX1.out.other (by have := hXV; have := Y.out.sz.1; omega) 4 (.slice L3 (nl9 + n9) d3))⟩
                      exact AllReady.nil
                    exact AllReady.nil
                  exact AllReady.nil
                exact AllReady.nil
              exact AllReady.nil
            case rest =>
              clear YC OX RL BW
              obtain ⟨L3, d3, YC, KC, OX⟩ := hcut
              have BX := Lib.hid (KC.out.box BY.out)
              have o0 := OX.out.a0
              have o1 := OX.out.a1
              have p0 := YC.out.o3.get (k := 0) (v := .slice A2 np9 c2') rfl
              have cT := fun U (hU : AtP U A2 P9) => stput_any A2 np9 c2' P9 (srt_iff.2 HSP.out) HNP.out hcap9 hbp9 (tv, tb) key U hU
              have AP := Lib.hid (own_atP YC.out.rp HNP.out)
              unfold stV at cT
              dsimp only at cT
              gi_wp2_with (refine ⟨trivial, ?_⟩; gi_at_call 71; (with_reducible refine (CallsIn.inRound _ (callsIn_wide.2 (cT _ AP.out))).mono ?_); rintro e9 w14 ⟨A3, n3, c3, rfl, h1, h2, h3, h4, k14⟩; have H1 := Lib.hid h1; have H4 := Lib.hid (own_lower (b' := b + 3) h4 YC.out.sz.1); have Y14 := Lib.hid (YC.out.below k14); have K14 := Lib.hid (KC.out.trans (KK.below (Array.getElem?_eq_some_iff.1 BX.out).1 k14)); have p1 := Y14.out.o3.get (k := 0) (v := .slice A2 np9 c2') rfl; have f0 := Y14.out.o3.frozen 0; clear h1 h4 k14 cT o0 o1 p0)
              have B14 := K14.out.box BY.out
              have KF := K14.out.trans (KK.out B14 Y14.out.o3 0 (.slice A3 n3 c3))
              refine ⟨KF.f, KF.k, A3, c3, L3, d3, ?_, KF.box BY.out⟩
              rw [HAC.out]
              dsimp only
              rw [H1.out, List.length_append, HNL.out, HN9.out]
              exact (Y14.out.newP H4.out).out 0 (.slice A3 n3 c3)
end Go.Proofs.Ytjhppkjngifibaa
