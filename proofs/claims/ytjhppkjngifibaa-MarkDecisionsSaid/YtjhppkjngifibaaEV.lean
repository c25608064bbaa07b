/- Layer 23: the law of inserting. -/
import Derived.Test.YtjhppkjngifibaaEU
import Derived.Test.YtjhppkjngifibaaET
import Derived.Test.YtjhppkjngifibaaEP
import Derived.Test.YtjhppkjngifibaaES
import Derived.Test.YtjhppkjngifibaaEO
import Derived.Test.YtjhppkjngifibaaEN
namespace Go.Proofs.Ytjhppkjngifibaa
open Go.RowKit Go.Lib
set_option linter.unusedVariables false

abbrev TrueW (w : World) (e : Ending) (w' : World) : Prop := e = .returned (.bool true) ∧ Below w.heap.size w w'
theorem ordered_at (h : Hd) (A B C : Option Addr) (np cp nd cd nl cl : Nat) (w : World) (hA : HAt w A B C np cp nd cd nl cl h) : Calls Try.prog 13 #[hdV A B C np cp nd cd nl cl h.ins h.move] w (ORet w) :=
  ordered_any h.props h.dels h.lays A B C np cp nd cd nl cl h.ins h.move w hA.p hA.d hA.l hA.ep hA.ed hA.el hA.cp hA.cd hA.cl
theorem mod_of {o : Hd} (h1 : o.props.length ≤ 20) (h2 : o.dels.length ≤ 20) (h3 : o.lays.length ≤ 80) : Mod o := ⟨by omega, by omega, by omega⟩
theorem hown_obj {w : World} {base k : Nat} {A B C : Option Addr} {cp cd cl : Nat} {h : Hd} {cs : Array Value} {t : TypeId} (x : HOwn w base A B C cp cd cl h) (y : ObjAt w k cs t) (h1 : t ≠ 61) (h2 : t ≠ 59) (h3 : t ≠ 74) (i : Nat) (u : Value) : HOwn (w.setCell ⟨k, i, none⟩ u) base A B C cp cd cl h :=
  ⟨own_keptC x.p fun j c t z hj hc => (Below.heap_setCell _ _ _ j (fun e => obj_far x.p y h1 (by rw [hj, e]))).trans hc, own_keptC x.d fun j c t z hj hc => (Below.heap_setCell _ _ _ j (fun e => obj_far x.d y h2 (by rw [hj, e]))).trans hc, own_keptC x.l fun j c t z hj hc => (Below.heap_setCell _ _ _ j (fun e => obj_far x.l y h3 (by rw [hj, e]))).trans hc⟩
/-! ## What the law of inserting says, plainly -/
theorem ord_insert {o : Hd} (ho : Ord o) (rev m : Int) : Ord (insertH o rev m) := ⟨ho.props, ho.dels, ho.lays, ho.bef, fun e => by have e2 : rev = 0 := e; show (if rev = 0 then 0 else m) = 0; rw [if_pos e2]⟩
theorem ord_plain {o : Hd} (ho : Ord o) : Ord (plainH o) := ⟨ho.props, List.Pairwise.nil, (List.Pairwise.nil : KSrt []), fun x hx => (by cases hx), fun _ => rfl⟩
theorem gone_orig {o : Hd} {rev m : Int} (hr : rev ≠ 0) : goneH (fun _ => false) (fun _ => true) (insertH o rev m) = true := by
  show (decide (rev ≠ 0) && true || _) = true
  rw [decide_eq_true hr]; rfl
theorem gone_acc {o : Hd} {rev m : Int} : goneH (fun x => decide (x ∈ [rev])) (fun x => decide (x ∈ ([] : List Int))) (insertH (plainH o) rev m) = false := by
  simp [goneH, insertH, plainH]
theorem kept_acc {o : Hd} {rev m : Int} : keptH (fun x => decide (x ∈ [rev])) (fun x => decide (x ∈ ([] : List Int))) (insertH (plainH o) rev m) = plainH o := by
  simp [keptH, insertH, plainH, keysU]
set_option maxRecDepth 100000 in
set_option maxHeartbeats 8000000 in
theorem law_inserts (h : Hd) (A B C : Option Addr) (np cp nd cd nl cl : Nat) (rev m : Int) (w : World) (hA : HAt w A B C np cp nd cd nl cl h) :
    Calls Try.prog 7 #[hdV A B C np cp nd cd nl cl h.ins h.move, .int .i64 rev, .int .i64 m] w (TrueW w) := by
  have cO := ordered_at h A B C np cp nd cd nl cl _ (hA.below ((Below.refl w.heap.size w).alloc (Nat.le_refl _) (.cells #[.slice A np cp, .int .i64 h.ins, .int .i64 h.move, .slice B nd cd, .slice C nl cl] 28)) (Nat.le_refl _))
  clear hA
  have KB := Lib.hid (Below.refl w.heap.size w)
  unfold hdV at cO ⊢
  generalize h.ins = hi at cO ⊢
  generalize h.move = hmv at cO ⊢
  obtain ⟨b, hbb⟩ : ∃ b, w.heap.size = b := ⟨_, rfl⟩
  have HX3 := Lib.hid (ObjAt.new w #[.slice A np cp, .int .i64 hi, .int .i64 hmv, .slice B nd cd, .slice C nl cl] 28)
  rw [hbb] at HX3 KB
  have HBB := Lib.hid hbb
  go_enter Try.func7, Try.ntmps7
  go_wp2_with fail
  refine cO.mono ?_
  rintro e w1 ⟨o, ho, h20, hd20, h80, A1, B1, C1, c1, c2, c3, rfl, hown, kk⟩
  clear cO
  unfold hdV
  have HM := Lib.hid (mod_of h20 hd20 h80)
  have HP9 := Lib.hid (show o.props.length + o.lays.length ≤ 900 by omega)
  have HOO := Lib.hid ho
  have zz : b + 1 ≤ w1.heap.size := by have := kk.size; rw [World.size_alloc] at this; omega
  have HO := Lib.hid (show HOwn w1 (b + 1) A1 B1 C1 c1 c2 c3 o by rw [World.size_alloc, hbb] at hown; exact hown)
  replace HX3 := Lib.hid (HX3.out.below kk)
  replace KB := Lib.hid ((KB.out.alloc (Nat.le_of_eq hbb.symm) (.cells #[.slice A np cp, .int .i64 hi, .int .i64 hmv, .slice B nd cd, .slice C nl cl] 28)).trans (kk.mono (by simp; omega)))
  clear hown kk ho hbb
  have x0 := HX3.out.get (k := 0) (v := .slice A np cp) rfl
  have x1 := HX3.out.get (k := 1) (v := .int .i64 hi) rfl
  have x2 := HX3.out.get (k := 2) (v := .int .i64 hmv) rfl
  have x3 := HX3.out.get (k := 3) (v := .slice B nd cd) rfl
  have x4 := HX3.out.get (k := 4) (v := .slice C nl cl) rfl
  have xf0 := HX3.out.frozen 0
  have xf1 := HX3.out.frozen 1
  have xf2 := HX3.out.frozen 2
  have xf3 := HX3.out.frozen 3
  have xf4 := HX3.out.frozen 4
  have HXN := Lib.hid (show ObjAt _ b #[.slice A1 o.props.length c1, .int .i64 o.ins, .int .i64 o.move, .slice B1 o.dels.length c2, .slice C1 o.lays.length c3] 28 from (((((HX3.out.set 0 (.slice A1 o.props.length c1)).set 1 (.int .i64 o.ins)).set 2 (.int .i64 o.move)).set 3 (.slice B1 o.dels.length c2)).set 4 (.slice C1 o.lays.length c3)))
  replace HO := Lib.hid (hown_out (hown_out (hown_out (hown_out (hown_out HO.out (b := b) (by omega) 0 (.slice A1 o.props.length c1)) (b := b) (by omega) 1 (.int .i64 o.ins)) (b := b) (by omega) 2 (.int .i64 o.move)) (b := b) (by omega) 3 (.slice B1 o.dels.length c2)) (b := b) (by omega) 4 (.slice C1 o.lays.length c3))
  replace KB := Lib.hid (((((KB.out.setCell (p := ⟨b, 0, none⟩) (by simp) (.slice A1 o.props.length c1)).setCell (p := ⟨b, 1, none⟩) (by simp) (.int .i64 o.ins)).setCell (p := ⟨b, 2, none⟩) (by simp) (.int .i64 o.move)).setCell (p := ⟨b, 3, none⟩) (by simp) (.slice B1 o.dels.length c2)).setCell (p := ⟨b, 4, none⟩) (by simp) (.slice C1 o.lays.length c3))
  clear HX3
  go_upto_region 2 with fail
  generalize (((((w1.setCell ⟨b, 0, none⟩ (.slice A1 o.props.length c1)).setCell ⟨b, 1, none⟩ (.int .i64 o.ins)).setCell ⟨b, 2, none⟩ (.int .i64 o.move)).setCell ⟨b, 3, none⟩ (.slice B1 o.dels.length c2)).setCell ⟨b, 4, none⟩ (.slice C1 o.lays.length c3)) = W1 at HXN HO KB ⊢
  have HX3 := HXN
  clear HXN x0 xf0 x1 xf1 x2 xf2 x3 xf3 x4 xf4
  have z1 : b + 1 ≤ W1.heap.size := HX3.out.lt
  clear zz
  have x0 := HX3.out.get (k := 0) (v := .slice A1 o.props.length c1) rfl
  have x1 := HX3.out.get (k := 1) (v := .int .i64 o.ins) rfl
  have x2 := HX3.out.get (k := 2) (v := .int .i64 o.move) rfl
  have x3 := HX3.out.get (k := 3) (v := .slice B1 o.dels.length c2) rfl
  have x4 := HX3.out.get (k := 4) (v := .slice C1 o.lays.length c3) rfl
  have cc := insert_any o HM.out A1 B1 C1 _ _ _ _ _ _ rev m W1 HO.out.at
  unfold hdV at cc
  go_wp2_with fail
  (with_reducible refine cc.mono ?_)
  rintro e w2 ⟨A2, B2, C2, d1, d2, d3, rfl, hown, kk⟩
  unfold hdV
  dsimp only [insertH]
  have HI := Lib.hid hown
  replace KB := Lib.hid (KB.out.trans (kk.mono (by have := KB.out.size; have := HBB.out; omega)))
  replace HX3 := Lib.hid (HX3.out.below kk)
  replace HO := Lib.hid (HO.out.below kk)
  clear cc hown kk x0 x1 x2 x3 x4
  obtain ⟨m2, hm2⟩ : ∃ x, (if rev = 0 then 0 else m) = x := ⟨_, rfl⟩
  rw [hm2]
  have HM2 := Lib.hid hm2
  clear hm2
  have lbb7 : b < w2.heap.size := HX3.out.lt
  have ba := (Below.refl w2.heap.size w2).alloc (Nat.le_refl _) (.cells #[.slice A2 o.props.length d1, .int .i64 rev, .int .i64 m2, .slice B2 o.dels.length d2, .slice C2 o.lays.length d3] 28)
  replace KB := Lib.hid (KB.out.trans (ba.mono (by have := KB.out.size; have := HBB.out; omega)))
  replace HX3 := Lib.hid (HX3.out.below ba)
  replace HO := Lib.hid (HO.out.below ba)
  replace HI := Lib.hid (HI.out.below ba)
  have HX7 := Lib.hid (ObjAt.new w2 #[.slice A2 o.props.length d1, .int .i64 rev, .int .i64 m2, .slice B2 o.dels.length d2, .slice C2 o.lays.length d3] 28)
  clear ba
  go_upto_region 3 with fail
  obtain ⟨b7, hb7⟩ : ∃ x, w2.heap.size = x := ⟨_, rfl⟩
  rw [hb7] at HX7 lbb7 ⊢
  have gb7 : w2.heap.size = b7 := hb7
  generalize w2.alloc (.cells #[.slice A2 o.props.length d1, .int .i64 rev, .int .i64 m2, .slice B2 o.dels.length d2, .slice C2 o.lays.length d3] 28) = W2 at HX7 KB HX3 HO HI ⊢
  clear hb7
  have x0 := HX3.out.get (k := 0) (v := .slice A1 o.props.length c1) rfl
  have x1 := HX3.out.get (k := 1) (v := .int .i64 o.ins) rfl
  have x2 := HX3.out.get (k := 2) (v := .int .i64 o.move) rfl
  have x3 := HX3.out.get (k := 3) (v := .slice B1 o.dels.length c2) rfl
  have x4 := HX3.out.get (k := 4) (v := .slice C1 o.lays.length c3) rfl
  have lbb8 : b < W2.heap.size := HX3.out.lt
  have lb7b8 : b7 < W2.heap.size := HX7.out.lt
  have ba := (Below.refl W2.heap.size W2).alloc (Nat.le_refl _) (.cells #[.slice A1 o.props.length c1, .int .i64 o.ins, .int .i64 o.move, .slice B1 o.dels.length c2, .slice C1 o.lays.length c3] 28)
  replace KB := Lib.hid (KB.out.trans (ba.mono (by have := KB.out.size; have := HBB.out; omega)))
  replace HX3 := Lib.hid (HX3.out.below ba)
  replace HO := Lib.hid (HO.out.below ba)
  replace HI := Lib.hid (HI.out.below ba)
  replace HX7 := Lib.hid (HX7.out.below ba)
  have HX8 := Lib.hid (ObjAt.new W2 #[.slice A1 o.props.length c1, .int .i64 o.ins, .int .i64 o.move, .slice B1 o.dels.length c2, .slice C1 o.lays.length c3] 28)
  clear ba
  go_upto_region 4 with fail
  obtain ⟨b8, hb8⟩ : ∃ x, W2.heap.size = x := ⟨_, rfl⟩
  rw [hb8] at HX8 lbb8 lb7b8 ⊢
  have gb8 : W2.heap.size = b8 := hb8
  generalize W2.alloc (.cells #[.slice A1 o.props.length c1, .int .i64 o.ins, .int .i64 o.move, .slice B1 o.dels.length c2, .slice C1 o.lays.length c3] 28) = W3 at HX8 KB HX3 HO HI HX7 ⊢
  clear hb8
  clear x0 x1 x2 x3 x4
  have x0 := HX8.out.get (k := 0) (v := .slice A1 o.props.length c1) rfl
  have x1 := HX8.out.get (k := 1) (v := .int .i64 o.ins) rfl
  have x2 := HX8.out.get (k := 2) (v := .int .i64 o.move) rfl
  have x3 := HX8.out.get (k := 3) (v := .slice B1 o.dels.length c2) rfl
  have x4 := HX8.out.get (k := 4) (v := .slice C1 o.lays.length c3) rfl
  have xf0 := HX8.out.frozen 0
  have xf1 := HX8.out.frozen 1
  have xf2 := HX8.out.frozen 2
  have xf3 := HX8.out.frozen 3
  have xf4 := HX8.out.frozen 4
  go_upto_region 5 with fail
  replace KB := Lib.hid (KB.out.setCell (p := ⟨b8, 1, none⟩) (by simp; omega) (.int .i64 rev))
  replace HX3 := Lib.hid (HX3.out.other (by omega) 1 (.int .i64 rev) : ObjAt (World.setCell _ ⟨b8, 1, none⟩ _) _ _ _)
  replace HO := Lib.hid (hown_obj HO.out HX8.out (by decide) (by decide) (by decide) 1 (.int .i64 rev))
  replace HI := Lib.hid (hown_obj HI.out HX8.out (by decide) (by decide) (by decide) 1 (.int .i64 rev))
  replace HX7 := Lib.hid (HX7.out.other (by omega) 1 (.int .i64 rev) : ObjAt (World.setCell _ ⟨b8, 1, none⟩ _) _ _ _)
  replace HX8 := Lib.hid (show ObjAt _ b8 #[.slice A1 o.props.length c1, .int .i64 rev, .int .i64 o.move, .slice B1 o.dels.length c2, .slice C1 o.lays.length c3] 28 from HX8.out.set 1 (.int .i64 rev))
  replace KB := Lib.hid (KB.out.setCell (p := ⟨b8, 2, none⟩) (by simp; omega) (.int .i64 m))
  replace HX3 := Lib.hid (HX3.out.other (by omega) 2 (.int .i64 m) : ObjAt (World.setCell _ ⟨b8, 2, none⟩ _) _ _ _)
  replace HO := Lib.hid (hown_obj HO.out HX8.out (by decide) (by decide) (by decide) 2 (.int .i64 m))
  replace HI := Lib.hid (hown_obj HI.out HX8.out (by decide) (by decide) (by decide) 2 (.int .i64 m))
  replace HX7 := Lib.hid (HX7.out.other (by omega) 2 (.int .i64 m) : ObjAt (World.setCell _ ⟨b8, 2, none⟩ _) _ _ _)
  replace HX8 := Lib.hid (show ObjAt _ b8 #[.slice A1 o.props.length c1, .int .i64 rev, .int .i64 m, .slice B1 o.dels.length c2, .slice C1 o.lays.length c3] 28 from HX8.out.set 2 (.int .i64 m))
  generalize ((W3.setCell ⟨b8, 1, none⟩ (.int .i64 rev)).setCell ⟨b8, 2, none⟩ (.int .i64 m)) = W4 at KB HX3 HO HI HX7 HX8 ⊢
  clear x0 xf0 x1 xf1 x2 xf2 x3 xf3 x4 xf4
  by_cases h0 : rev = 0
  case pos =>
    have x0 := HX8.out.get (k := 0) (v := .slice A1 o.props.length c1) rfl
    have x1 := HX8.out.get (k := 1) (v := .int .i64 rev) rfl
    have x2 := HX8.out.get (k := 2) (v := .int .i64 m) rfl
    have x3 := HX8.out.get (k := 3) (v := .slice B1 o.dels.length c2) rfl
    have x4 := HX8.out.get (k := 4) (v := .slice C1 o.lays.length c3) rfl
    have xf0 := HX8.out.frozen 0
    have xf1 := HX8.out.frozen 1
    have xf2 := HX8.out.frozen 2
    have xf3 := HX8.out.frozen 3
    have xf4 := HX8.out.frozen 4
    have e0 : (rev == 0) = true := by simpa using h0
    have r1 : rev < 1 := by omega
    have H0 := Lib.hid h0
    clear h0
    replace KB := Lib.hid (KB.out.setCell (p := ⟨b8, 2, none⟩) (by simp; omega) (.int .i64 0))
    replace HX3 := Lib.hid (HX3.out.other (by omega) 2 (.int .i64 0) : ObjAt (World.setCell _ ⟨b8, 2, none⟩ _) _ _ _)
    replace HO := Lib.hid (hown_obj HO.out HX8.out (by decide) (by decide) (by decide) 2 (.int .i64 0))
    replace HI := Lib.hid (hown_obj HI.out HX8.out (by decide) (by decide) (by decide) 2 (.int .i64 0))
    replace HX7 := Lib.hid (HX7.out.other (by omega) 2 (.int .i64 0) : ObjAt (World.setCell _ ⟨b8, 2, none⟩ _) _ _ _)
    replace HX8 := Lib.hid (show ObjAt _ b8 #[.slice A1 o.props.length c1, .int .i64 rev, .int .i64 0, .slice B1 o.dels.length c2, .slice C1 o.lays.length c3] 28 from HX8.out.set 2 (.int .i64 0))
    go_upto_region 7 with fail
    generalize (W4.setCell ⟨b8, 2, none⟩ (.int .i64 0)) = W5 at KB HX3 HO HI HX7 HX8 ⊢
    clear x0 xf0 x1 xf1 x2 xf2 x3 xf3 x4 xf4
    have cc := known_any W5
    go_wp2_with fail
    (with_reducible refine cc.mono ?_)
    rintro e w5 ⟨rfl, kk⟩
    replace KB := Lib.hid (KB.out.trans (kk.mono (by have := KB.out.size; have := HBB.out; omega)))
    replace HX3 := Lib.hid (HX3.out.below kk)
    replace HO := Lib.hid (HO.out.below kk)
    replace HI := Lib.hid (HI.out.below kk)
    replace HX7 := Lib.hid (HX7.out.below kk)
    replace HX8 := Lib.hid (HX8.out.below kk)
    clear cc
    have v7 : HVal w5 (.agg #[.slice A2 o.props.length d1, .int .i64 rev, .int .i64 m2, .slice B2 o.dels.length d2, .slice C2 o.lays.length d3]) (insertH o rev m) := ⟨A2, B2, C2, _, d1, _, d2, _, d3, by rw [← HM2.out]; rfl, HI.out.at⟩
    have v8 : HVal w5 (.agg #[.slice A1 o.props.length c1, .int .i64 rev, .int .i64 0, .slice B1 o.dels.length c2, .slice C1 o.lays.length c3]) (insertH o rev m) := ⟨A1, B1, C1, _, c1, _, c2, _, c3, by first | rfl | (unfold hdV insertH; rw [if_neg H0.out]) | (unfold hdV insertH; rw [if_pos H0.out]), HO.out.at.p, HO.out.at.d, HO.out.at.l, rfl, rfl, rfl, HO.out.at.cp, HO.out.at.cd, HO.out.at.cl⟩
    have cc := eqhead_any (insertH o rev m) (insertH o rev m) ⟨HM.out.p, HM.out.d, HM.out.l⟩ ⟨HM.out.p, HM.out.d, HM.out.l⟩ _ _ w5 v7 v8
    rw [decide_eq_true rfl] at cc
    clear v7 v8
    have y0 := HX7.out.get (k := 0) (v := .slice A2 o.props.length d1) rfl
    have y1 := HX7.out.get (k := 1) (v := .int .i64 rev) rfl
    have y2 := HX7.out.get (k := 2) (v := .int .i64 m2) rfl
    have y3 := HX7.out.get (k := 3) (v := .slice B2 o.dels.length d2) rfl
    have y4 := HX7.out.get (k := 4) (v := .slice C2 o.lays.length d3) rfl
    have z0 := HX8.out.get (k := 0) (v := .slice A1 o.props.length c1) rfl
    have z1 := HX8.out.get (k := 1) (v := .int .i64 rev) rfl
    have z2 := HX8.out.get (k := 2) (v := .int .i64 0) rfl
    have z3 := HX8.out.get (k := 3) (v := .slice B1 o.dels.length c2) rfl
    have z4 := HX8.out.get (k := 4) (v := .slice C1 o.lays.length c3) rfl
    go_wp2_with fail
    (with_reducible refine cc.mono ?_)
    rintro e W6 ⟨rfl, kk⟩
    replace KB := Lib.hid (KB.out.trans (kk.mono (by have := KB.out.size; have := HBB.out; omega)))
    replace HX3 := Lib.hid (HX3.out.below kk)
    replace HO := Lib.hid (HO.out.below kk)
    replace HI := Lib.hid (HI.out.below kk)
    replace HX7 := Lib.hid (HX7.out.below kk)
    replace HX8 := Lib.hid (HX8.out.below kk)
    clear cc kk y0 z0 y1 z1 y2 z2 y3 z3 y4 z4
    have r1b : decide (rev < 1) = true := decide_eq_true r1
    go_wp2
    go_ret
    exact ⟨by simp, by rw [HBB.out]; exact KB.out⟩
  case neg =>
    have e0 : (rev == 0) = false := neB h0
    have H0 := Lib.hid h0
    clear h0
    have cc := known_any W4
    go_wp2_with fail
    (with_reducible refine cc.mono ?_)
    rintro e w5 ⟨rfl, kk⟩
    replace KB := Lib.hid (KB.out.trans (kk.mono (by have := KB.out.size; have := HBB.out; omega)))
    replace HX3 := Lib.hid (HX3.out.below kk)
    replace HO := Lib.hid (HO.out.below kk)
    replace HI := Lib.hid (HI.out.below kk)
    replace HX7 := Lib.hid (HX7.out.below kk)
    replace HX8 := Lib.hid (HX8.out.below kk)
    clear cc
    have v7 : HVal w5 (.agg #[.slice A2 o.props.length d1, .int .i64 rev, .int .i64 m2, .slice B2 o.dels.length d2, .slice C2 o.lays.length d3]) (insertH o rev m) := ⟨A2, B2, C2, _, d1, _, d2, _, d3, by rw [← HM2.out]; rfl, HI.out.at⟩
    have v8 : HVal w5 (.agg #[.slice A1 o.props.length c1, .int .i64 rev, .int .i64 m, .slice B1 o.dels.length c2, .slice C1 o.lays.length c3]) (insertH o rev m) := ⟨A1, B1, C1, _, c1, _, c2, _, c3, by first | rfl | (unfold hdV insertH; rw [if_neg H0.out]) | (unfold hdV insertH; rw [if_pos H0.out]), HO.out.at.p, HO.out.at.d, HO.out.at.l, rfl, rfl, rfl, HO.out.at.cp, HO.out.at.cd, HO.out.at.cl⟩
    have cc := eqhead_any (insertH o rev m) (insertH o rev m) ⟨HM.out.p, HM.out.d, HM.out.l⟩ ⟨HM.out.p, HM.out.d, HM.out.l⟩ _ _ w5 v7 v8
    rw [decide_eq_true rfl] at cc
    clear v7 v8
    have y0 := HX7.out.get (k := 0) (v := .slice A2 o.props.length d1) rfl
    have y1 := HX7.out.get (k := 1) (v := .int .i64 rev) rfl
    have y2 := HX7.out.get (k := 2) (v := .int .i64 m2) rfl
    have y3 := HX7.out.get (k := 3) (v := .slice B2 o.dels.length d2) rfl
    have y4 := HX7.out.get (k := 4) (v := .slice C2 o.lays.length d3) rfl
    have z0 := HX8.out.get (k := 0) (v := .slice A1 o.props.length c1) rfl
    have z1 := HX8.out.get (k := 1) (v := .int .i64 rev) rfl
    have z2 := HX8.out.get (k := 2) (v := .int .i64 m) rfl
    have z3 := HX8.out.get (k := 3) (v := .slice B1 o.dels.length c2) rfl
    have z4 := HX8.out.get (k := 4) (v := .slice C1 o.lays.length c3) rfl
    go_wp2_with fail
    (with_reducible refine cc.mono ?_)
    rintro e W6 ⟨rfl, kk⟩
    replace KB := Lib.hid (KB.out.trans (kk.mono (by have := KB.out.size; have := HBB.out; omega)))
    replace HX3 := Lib.hid (HX3.out.below kk)
    replace HO := Lib.hid (HO.out.below kk)
    replace HI := Lib.hid (HI.out.below kk)
    replace HX7 := Lib.hid (HX7.out.below kk)
    replace HX8 := Lib.hid (HX8.out.below kk)
    clear cc kk y0 z0 y1 z1 y2 z2 y3 z3 y4 z4
    by_cases r1 : rev < 1
    case pos =>
      have r1b : decide (rev < 1) = true := decide_eq_true r1
      go_wp2
      go_ret
      exact ⟨by simp, by rw [HBB.out]; exact KB.out⟩
    have r1b : decide (rev < 1) = false := decide_eq_false r1
    by_cases r2 : 1073741824 < rev
    case pos =>
      have r2b : decide (1073741824 < rev) = true := decide_eq_true r2
      go_wp2
      go_ret
      exact ⟨by simp, by rw [HBB.out]; exact KB.out⟩
    have r2b : decide (1073741824 < rev) = false := decide_eq_false r2
    go_upto_region 11 with fail
    have y0 := HX7.out.get (k := 0) (v := .slice A2 o.props.length d1) rfl
    have y1 := HX7.out.get (k := 1) (v := .int .i64 rev) rfl
    have y2 := HX7.out.get (k := 2) (v := .int .i64 m2) rfl
    have y3 := HX7.out.get (k := 3) (v := .slice B2 o.dels.length d2) rfl
    have y4 := HX7.out.get (k := 4) (v := .slice C2 o.lays.length d3) rfl
    have cc := original_any (insertH o rev m) (ord_insert HOO.out rev m) ⟨HM.out.p, HM.out.d, HM.out.l⟩ HP9.out A2 B2 C2 _ d1 _ d2 _ d3 W6 HI.out.at
    unfold DRet hdV at cc
    rw [gone_orig H0.out] at cc
    rw [show (insertH o rev m).move = m2 from HM2.out] at cc
    dsimp only [insertH] at cc
    go_wp2_with fail
    (with_reducible refine cc.mono ?_)
    rintro e w7 ⟨r, A9, B9, C9, q1, q2, q3, hres, rfl, hown, kk⟩
    have hres2 : r = ⟨[], 0, 0, [], []⟩ := hres.trans (if_pos trivial)
    subst hres2
    replace KB := Lib.hid (KB.out.trans (kk.mono (by have := KB.out.size; have := HBB.out; omega)))
    replace HX3 := Lib.hid (HX3.out.below kk)
    replace HO := Lib.hid (HO.out.below kk)
    replace HI := Lib.hid (HI.out.below kk)
    replace HX7 := Lib.hid (HX7.out.below kk)
    replace HX8 := Lib.hid (HX8.out.below kk)
    clear cc kk hres hown y0 y1 y2 y3 y4
    have lbb9 : b < w7.heap.size := HX3.out.lt
    have lb7b9 : b7 < w7.heap.size := HX7.out.lt
    have lb8b9 : b8 < w7.heap.size := HX8.out.lt
    have ba := (Below.refl w7.heap.size w7).alloc (Nat.le_refl _) (.cells #[.slice A9 0 q1, .int .i64 0, .int .i64 0, .slice B9 0 q2, .slice C9 0 q3] 28)
    replace KB := Lib.hid (KB.out.trans (ba.mono (by have := KB.out.size; have := HBB.out; omega)))
    replace HX3 := Lib.hid (HX3.out.below ba)
    replace HO := Lib.hid (HO.out.below ba)
    replace HI := Lib.hid (HI.out.below ba)
    replace HX7 := Lib.hid (HX7.out.below ba)
    replace HX8 := Lib.hid (HX8.out.below ba)
    have HX9 := Lib.hid (ObjAt.new w7 #[.slice A9 0 q1, .int .i64 0, .int .i64 0, .slice B9 0 q2, .slice C9 0 q3] 28)
    clear ba
    go_upto_region 12 with fail
    obtain ⟨b9, hb9⟩ : ∃ x, w7.heap.size = x := ⟨_, rfl⟩
    rw [hb9] at HX9 lbb9 lb7b9 lb8b9 ⊢
    have gb9 : w7.heap.size = b9 := hb9
    generalize w7.alloc (.cells #[.slice A9 0 q1, .int .i64 0, .int .i64 0, .slice B9 0 q2, .slice C9 0 q3] 28) = W8 at HX9 KB HX3 HO HI HX7 HX8 ⊢
    clear hb9
    have x0 := HX3.out.get (k := 0) (v := .slice A1 o.props.length c1) rfl
    have x1 := HX3.out.get (k := 1) (v := .int .i64 o.ins) rfl
    have x2 := HX3.out.get (k := 2) (v := .int .i64 o.move) rfl
    have x3 := HX3.out.get (k := 3) (v := .slice B1 o.dels.length c2) rfl
    have x4 := HX3.out.get (k := 4) (v := .slice C1 o.lays.length c3) rfl
    have cc := plain_any o HM.out A1 B1 C1 _ _ _ _ _ _ W8 HO.out.at
    unfold hdV at cc
    go_wp2_with fail
    (with_reducible refine cc.mono ?_)
    rintro e w9 ⟨A3, B3, C3, q1, q2, q3, rfl, hown, kk⟩
    replace KB := Lib.hid (KB.out.trans (kk.mono (by have := KB.out.size; have := HBB.out; omega)))
    replace HX3 := Lib.hid (HX3.out.below kk)
    replace HO := Lib.hid (HO.out.below kk)
    replace HI := Lib.hid (HI.out.below kk)
    replace HX7 := Lib.hid (HX7.out.below kk)
    replace HX8 := Lib.hid (HX8.out.below kk)
    replace HX9 := Lib.hid (HX9.out.below kk)
    clear cc kk x0 x1 x2 x3 x4
    have cc := insert_any (plainH o) ⟨HM.out.p, by simp [plainH], by simp [plainH]⟩ A3 B3 C3 _ _ _ _ _ _ rev m w9 hown.at
    unfold hdV at cc ⊢
    go_wp2_with fail
    (with_reducible refine cc.mono ?_)
    rintro e w10 ⟨A4, B4, C4, q4, q5, q6, rfl, hown4, kk⟩
    replace KB := Lib.hid (KB.out.trans (kk.mono (by have := KB.out.size; have := HBB.out; omega)))
    replace HX3 := Lib.hid (HX3.out.below kk)
    replace HO := Lib.hid (HO.out.below kk)
    replace HI := Lib.hid (HI.out.below kk)
    replace HX7 := Lib.hid (HX7.out.below kk)
    replace HX8 := Lib.hid (HX8.out.below kk)
    replace HX9 := Lib.hid (HX9.out.below kk)
    clear cc kk hown
    have ba := (Below.refl w10.heap.size w10).alloc (Nat.le_refl _) (.cells #[.int .i64 rev] 3)
    have cc := Decide_any (insertH (plainH o) rev m) (ord_insert (ord_plain HOO.out) rev m) ⟨HM.out.p, by simp [insertH, plainH], by simp [insertH, plainH]⟩ (by have := HP9.out; show o.props.length + 0 ≤ 900; omega) A4 B4 C4 _ _ _ _ _ _ [rev] [] 1 0 1 0 rfl rfl (by simp) (by simp) (by decide) (by decide) (some ⟨w10.heap.size, 0, none⟩) none (w10.alloc (.cells #[.int .i64 rev] 3)) (hown4.at.below ba (Nat.le_refl _)) (ns_one w10 rev) (.inl rfl)
    unfold DRet hdV at cc
    rw [gone_acc, kept_acc] at cc
    replace KB := Lib.hid (KB.out.trans (ba.mono (by have := KB.out.size; have := HBB.out; omega)))
    replace HX3 := Lib.hid (HX3.out.below ba)
    replace HO := Lib.hid (HO.out.below ba)
    replace HI := Lib.hid (HI.out.below ba)
    replace HX7 := Lib.hid (HX7.out.below ba)
    replace HX8 := Lib.hid (HX8.out.below ba)
    replace HX9 := Lib.hid (HX9.out.below ba)
    clear ba hown4
    unfold hdV
    go_wp2_with fail
    (with_reducible refine cc.mono ?_)
    rintro e w11 ⟨r, A5, B5, C5, q4, q5, q6, hres, rfl, hown, kk⟩
    have hres2 : r = plainH o := hres.trans (if_neg (by decide))
    subst hres2
    replace KB := Lib.hid (KB.out.trans (kk.mono (by have := KB.out.size; have := HBB.out; omega)))
    replace HX3 := Lib.hid (HX3.out.below kk)
    replace HO := Lib.hid (HO.out.below kk)
    replace HI := Lib.hid (HI.out.below kk)
    replace HX7 := Lib.hid (HX7.out.below kk)
    replace HX8 := Lib.hid (HX8.out.below kk)
    replace HX9 := Lib.hid (HX9.out.below kk)
    have HR := Lib.hid hown
    clear cc kk hres hown
    have lbb11 : b < w11.heap.size := HX3.out.lt
    have lb7b11 : b7 < w11.heap.size := HX7.out.lt
    have lb8b11 : b8 < w11.heap.size := HX8.out.lt
    have lb9b11 : b9 < w11.heap.size := HX9.out.lt
    have ba := (Below.refl w11.heap.size w11).alloc (Nat.le_refl _) (.cells #[.slice A5 (plainH o).props.length q4, .int .i64 (plainH o).ins, .int .i64 (plainH o).move, .slice B5 (plainH o).dels.length q5, .slice C5 (plainH o).lays.length q6] 28)
    replace KB := Lib.hid (KB.out.trans (ba.mono (by have := KB.out.size; have := HBB.out; omega)))
    replace HX3 := Lib.hid (HX3.out.below ba)
    replace HO := Lib.hid (HO.out.below ba)
    replace HI := Lib.hid (HI.out.below ba)
    replace HX7 := Lib.hid (HX7.out.below ba)
    replace HX8 := Lib.hid (HX8.out.below ba)
    replace HX9 := Lib.hid (HX9.out.below ba)
    replace HR := Lib.hid (HR.out.below ba)
    have HX11 := Lib.hid (ObjAt.new w11 #[.slice A5 (plainH o).props.length q4, .int .i64 (plainH o).ins, .int .i64 (plainH o).move, .slice B5 (plainH o).dels.length q5, .slice C5 (plainH o).lays.length q6] 28)
    clear ba
    go_upto_region 13 with fail
    obtain ⟨b11, hb11⟩ : ∃ x, w11.heap.size = x := ⟨_, rfl⟩
    rw [hb11] at HX11 lbb11 lb7b11 lb8b11 lb9b11 ⊢
    have gb11 : w11.heap.size = b11 := hb11
    generalize w11.alloc (.cells #[.slice A5 (plainH o).props.length q4, .int .i64 (plainH o).ins, .int .i64 (plainH o).move, .slice B5 (plainH o).dels.length q5, .slice C5 (plainH o).lays.length q6] 28) = W12 at HX11 KB HX3 HO HI HX7 HX8 HX9 HR ⊢
    clear hb11
    have x0 := HX3.out.get (k := 0) (v := .slice A1 o.props.length c1) rfl
    have x1 := HX3.out.get (k := 1) (v := .int .i64 o.ins) rfl
    have x2 := HX3.out.get (k := 2) (v := .int .i64 o.move) rfl
    have x3 := HX3.out.get (k := 3) (v := .slice B1 o.dels.length c2) rfl
    have x4 := HX3.out.get (k := 4) (v := .slice C1 o.lays.length c3) rfl
    have y0 := HX11.out.get (k := 0) (v := .slice A5 (plainH o).props.length q4) rfl
    have y1 := HX11.out.get (k := 1) (v := .int .i64 (plainH o).ins) rfl
    have y2 := HX11.out.get (k := 2) (v := .int .i64 (plainH o).move) rfl
    have y3 := HX11.out.get (k := 3) (v := .slice B5 (plainH o).dels.length q5) rfl
    have y4 := HX11.out.get (k := 4) (v := .slice C5 (plainH o).lays.length q6) rfl
    have cP := fun W' (hb : Below W12.heap.size W12 W') => plain_any o HM.out A1 B1 C1 _ _ _ _ _ _ W' (HO.out.at.below hb (Nat.le_refl _))
    unfold hdV at cP
    have mP : Mod (plainH o) := ⟨HM.out.p, by simp [plainH], by simp [plainH]⟩
    have cE := fun W' (hb : Below W12.heap.size W12 W') A6 B6 C6 q7 q8 q9 base (hown6 : HOwn W' base A6 B6 C6 q7 q8 q9 (plainH o)) => eqhead_any (plainH o) (plainH o) mP mP (.agg #[.slice A5 (plainH o).props.length q4, .int .i64 (plainH o).ins, .int .i64 (plainH o).move, .slice B5 (plainH o).dels.length q5, .slice C5 (plainH o).lays.length q6]) (.agg #[.slice A6 (plainH o).props.length q7, .int .i64 (plainH o).ins, .int .i64 (plainH o).move, .slice B6 (plainH o).dels.length q8, .slice C6 (plainH o).lays.length q9]) W' ⟨A5, B5, C5, _, q4, _, q5, _, q6, rfl, HR.out.at.below hb (Nat.le_refl _)⟩ ⟨A6, B6, C6, _, q7, _, q8, _, q9, rfl, hown6.at⟩
    simp only [decide_true] at cE
    unfold HRet hdV at cP
    go_region_with (first
      | (go_at_call 26; (with_reducible refine (cP _ (by first | exact Below.refl _ _ | exact (Below.refl _ _).drew)).mono ?_); rintro e w13 ⟨A6, B6, C6, q7, q8, q9, rfl, hown6, k6⟩; have bb : Below W12.heap.size W12 w13 := (by first | exact k6 | exact (Below.refl _ _).drew.trans k6); have yy0 := (HX11.out.below bb).get (k := 0) (v := .slice A5 (plainH o).props.length q4) rfl; have yy1 := (HX11.out.below bb).get (k := 1) (v := .int .i64 (plainH o).ins) rfl; have yy2 := (HX11.out.below bb).get (k := 2) (v := .int .i64 (plainH o).move) rfl; have yy3 := (HX11.out.below bb).get (k := 3) (v := .slice B5 (plainH o).dels.length q5) rfl; have yy4 := (HX11.out.below bb).get (k := 4) (v := .slice C5 (plainH o).lays.length q6) rfl)
      | (go_at_call 18; (with_reducible refine (cE _ bb A6 B6 C6 q7 q8 q9 _ hown6).mono ?_); rintro e w14 ⟨rfl, k7⟩; have b7' := Lib.hid (bb.trans (k7.mono bb.size)))
      | fail)
    all_goals
      go_wp2
      go_ret
      exact ⟨by simp [go_sem], by rw [HBB.out]; exact KB.out.trans (b7'.out.mono (by have := KB.out.size; have := HBB.out; omega))⟩
end Go.Proofs.Ytjhppkjngifibaa
