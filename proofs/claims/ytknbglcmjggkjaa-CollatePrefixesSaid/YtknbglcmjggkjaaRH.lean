/- Layer 6: the law of prefixes (11). -/
import Derived.Test.YtknbglcmjggkjaaRG
import Derived.Test.YtknbglcmjggkjaaK7
import Derived.Test.YtknbglcmjggkjaaLS
import Derived.Deep.RegionHeld3
namespace Go.Proofs.Ytknbglcmjggkjaa
open Go.RowKit Go.Shelf Go.Lib Co

theorem NumsIn.set_other {w : World} {A : Option Addr} {m : Nat} {P : List Nat} {b i : Nat} {u : Value} (h : NumsIn w A m P) (hne : ∀ g, A = some ⟨g, 0, none⟩ → g ≠ b) : NumsIn (w.setCell ⟨b, i, none⟩ u) A m P := by
  refine ⟨h.1, ?_⟩
  rcases h.2 with h0 | ⟨g, hA, hg, hc⟩
  · exact .inl h0
  · exact .inr ⟨g, hA, by rw [World.size_setCell]; exact hg, fun j hj => (World.cell?_of_block (w := w) (Below.heap_setCell w ⟨b, i, none⟩ u g (hne g hA))).trans (hc j hj)⟩
theorem IntsOwn.form2 {P : List Nat} {w w' : World} {e : Ending} (h : IntsOwn P w e w') : ∃ A m d, e = .returned (.slice A m d) ∧ NumsIn w' A m P ∧ m ≤ d ∧ d ≤ maxLen ∧ Below w.heap.size w w' ∧ ∀ g, A = some ⟨g, 0, none⟩ → w.heap.size ≤ g := by
  obtain ⟨v, rfl, hv, hb⟩ := h
  obtain ⟨A, m, d, rfl, hn, h1, h2⟩ := NumsIn.of (Cp.IntsAt.of hv)
  exact ⟨A, m, d, rfl, hn, h1, h2, hb, fun g hg => by subst hg; exact (hv.lt g rfl).1⟩
theorem wts_app (ig uf : Bool) (P Q : List Nat) : wts false ig uf (P ++ Q) = wts false ig uf P ++ wts false ig uf Q := by
  unfold wts
  rw [elems_fapp, lev_app]
theorem pre_app (a b : List Nat) : preB (a ++ b) a = true := by
  unfold preB
  simp
theorem longer_any {x y : Sx} (sx : x.s.size ≤ 200) (sy : y.s.size ≤ 200) (hx : x.bad = []) (hy : y.bad = []) {st : Int} (h1 : 1 ≤ st) (h4 : st ≤ 4) (ig uf : Bool) (w : World) :
    Calls Try.prog 29 #[.string (y.s ++ x.s), .string y.s, opV st false ig uf] w fun e w' => e = .returned (.tuple #[.bool true, .int .i64 0]) ∧ Below w.heap.size w w' := by
  have hsx := x.str
  rw [hx] at hsx
  have hsy := y.str
  rw [hy] at hsy
  have tA := str_app hsy hsx (by omega)
  have y1 : (y.s ++ x.s).size ≤ 100000 := by rw [ByteArray.size_append]; omega
  refine (hasprefix_any (x := ⟨_, _, _, tA, y1⟩) (y := y) (by show (y.s ++ x.s).size ≤ 4096; rw [ByteArray.size_append]; omega) (by omega) st false ig uf w).mono ?_
  rintro e w' ⟨rfl, hb⟩
  have f0 : faultN st [⟨_, _, _, tA, y1⟩, y] = 0 := by unfold faultN; rw [if_neg (by omega), if_pos (by simp [hy])]
  rw [f0, if_pos rfl]
  refine ⟨?_, hb⟩
  rw [show wts false ig uf (y.P ++ x.P) = wts false ig uf y.P ++ wts false ig uf x.P from wts_app _ _ _ _, pre_app]
set_option maxRecDepth 100000 in
set_option maxHeartbeats 80000000 in
theorem lawPr_bad {x y : Sx} {a b : ByteArray} (sx : x.s.size ≤ 200) (sy : y.s.size ≤ 200) (ca : ∀ w, Calls Try.prog 14 #[.string a] w fun e w' => e = .returned (.string x.s) ∧ w' = w)
    (cb : ∀ w, Calls Try.prog 14 #[.string b] w fun e w' => e = .returned (.string y.s) ∧ w' = w) (st : Int) (nu ig uf : Bool) (h0 : faultN st [x, y] ≠ 0) (w : World) : Calls Try.prog 11 #[.string a, .string b, opV st nu ig uf] w (TrueW w) := by
  have cF := fun w' => fault_any (st := st) (nu := nu) (ig := ig) (uf := uf) (w'.alloc _) (strs_new w' [x, y] 9 2) (by simp)
  simp only [List.map_cons, List.map_nil, List.length_cons, List.length_nil, Nat.reduceAdd] at cF
  have cI := fun w' => hasprefix_any (x := x) (y := y) (by omega) (by omega) st nu ig uf w'
  unfold HpAns at cI
  have cO := fun w' => options_any st nu ig uf w'
  have o1 := ObjAt.new w #[.int .i64 st, .bool nu, .bool ig, .bool uf] 23
  have hB : Below w.heap.size w (w.alloc (.cells #[.int .i64 st, .bool nu, .bool ig, .bool uf] 23)) := (Below.refl _ w).alloc (Nat.le_refl _) _
  rw [if_neg h0] at cI
  generalize faultN st [x, y] = f at *
  unfold opV at *
  have CF := Go.Lib.hid cF
  have CI := Go.Lib.hid cI
  have CO := Go.Lib.hid cO
  clear cF cI cO
  go_enter Try.func11, Try.ntmps11
  go_wp2_with fail
  generalize w.alloc (.cells #[.int .i64 st, .bool nu, .bool ig, .bool uf] 23) = W at *
  refine (ca W).mono ?_
  rintro e W ⟨rfl, rfl⟩
  go_wp2_with fail
  refine (cb W).mono ?_
  rintro e W ⟨rfl, rfl⟩
  clear ca cb
  have z0_0 := o1.o0
  have z1_0 := o1.o1
  have z2_0 := o1.o2
  have z3_0 := o1.o3
  go_wp2_with fail
  refine (CI.out W).mono ?_
  rintro e w1 ⟨rfl, k1⟩
  have q1 := o1.below k1
  have hB1 := hB.trans (k1.mono hB.size)
  clear z0_0 z1_0 z2_0 z3_0 hB k1
  have z0_1 := q1.o0
  have z1_1 := q1.o1
  have z2_1 := q1.o2
  have z3_1 := q1.o3
  go_wp2_with fail
  refine (known_any w1).mono ?_
  rintro e w2 ⟨rfl, k2⟩
  have q2 := q1.below k2
  have hB2 := hB1.trans (k2.mono hB1.size)
  clear z0_1 z1_1 z2_1 z3_1 q1 hB1 k2
  have z0_2 := q2.o0
  have z1_2 := q2.o1
  have z2_2 := q2.o2
  have z3_2 := q2.o3
  go_wp2_with fail
  refine (CF.out w2).mono ?_
  rintro e w3 ⟨rfl, kk3⟩
  have k3 : Below w2.heap.size w2 w3 := ((Below.refl _ w2).alloc (Nat.le_refl _) _).trans (kk3.mono (by simp))
  have q3 := q2.below k3
  have hB3 := hB2.trans (k3.mono hB2.size)
  clear z0_2 z1_2 z2_2 z3_2 q2 hB2 k3 kk3
  have z0_3 := q3.o0
  have z1_3 := q3.o1
  have z2_3 := q3.o2
  have z3_3 := q3.o3
  have HB := Go.Lib.hid hB3
  go_wp2
  go_ret
  exact ⟨rfl, HB.out⟩
set_option maxRecDepth 100000 in
set_option maxHeartbeats 80000000 in
theorem lawPr_good {x y : Sx} {a b : ByteArray} (sx : x.s.size ≤ 200) (sy : y.s.size ≤ 200) (ca : ∀ w, Calls Try.prog 14 #[.string a] w fun e w' => e = .returned (.string x.s) ∧ w' = w)
    (cb : ∀ w, Calls Try.prog 14 #[.string b] w fun e w' => e = .returned (.string y.s) ∧ w' = w) (st : Int) (nu ig uf : Bool) (h0 : faultN st [x, y] = 0) (w : World) : Calls Try.prog 11 #[.string a, .string b, opV st nu ig uf] w (TrueW w) := by
  have cF := fun w' => fault_any (st := st) (nu := nu) (ig := ig) (uf := uf) (w'.alloc _) (strs_new w' [x, y] 9 2) (by simp)
  simp only [List.map_cons, List.map_nil, List.length_cons, List.length_nil, Nat.reduceAdd] at cF
  have cI := fun w' => hasprefix_any (x := x) (y := y) (by omega) (by omega) st nu ig uf w'
  unfold HpAns at cI
  have cO := fun w' => options_any st nu ig uf w'
  have o1 := ObjAt.new w #[.int .i64 st, .bool nu, .bool ig, .bool uf] 23
  have hB : Below w.heap.size w (w.alloc (.cells #[.int .i64 st, .bool nu, .bool ig, .bool uf] 23)) := (Below.refl _ w).alloc (Nat.le_refl _) _
  have hz := faultN_zero h0
  have hx0 : x.bad = [] := hz.2 x (by simp)
  have hy0 : y.bad = [] := hz.2 y (by simp)
  have cJ := fun w' => longer_any sx sy hx0 hy0 hz.1.1 hz.1.2 ig uf w'
  have hsx := x.str
  rw [hx0] at hsx
  have hsy := y.str
  rw [hy0] at hsy
  have cX := fun w' => relements_any hsx (by omega) st nu ig uf w'
  have cY := fun w' => relements_any hsy (by omega) st nu ig uf w'
  have hlx : (elems nu (upN uf) ig x.P).length ≤ 10000 := by have := elems_len nu ig (upN uf) x.P; have := pts_len x.str; omega
  have hly : (elems nu (upN uf) ig y.P).length ≤ 10000 := by have := elems_len nu ig (upN uf) y.P; have := pts_len y.str; omega
  have hkx := elems_ok' x (by omega) nu ig uf
  have hky := elems_ok' y (by omega) nu ig uf
  have lwx := wts_len nu ig uf x (by omega)
  have lwy := wts_len nu ig uf y (by omega)
  have hwx := Go.Lib.hid (show lev (fun e => wOf 1 e) (elems nu (upN uf) ig x.P) = wts nu ig uf x.P from rfl)
  have hwy := Go.Lib.hid (show lev (fun e => wOf 1 e) (elems nu (upN uf) ig y.P) = wts nu ig uf y.P from rfl)
  rw [h0, if_pos rfl] at cI
  rw [h0] at cF
  generalize elems nu (upN uf) ig x.P = ex at *
  generalize elems nu (upN uf) ig y.P = ey at *
  generalize wts nu ig uf x.P = wx at *
  generalize wts nu ig uf y.P = wy at *
  have KX := Go.Lib.hid hkx
  have KY := Go.Lib.hid hky
  unfold opV at *
  have CJ := Go.Lib.hid cJ
  have CX := Go.Lib.hid cX
  have CY := Go.Lib.hid cY
  clear cJ cX cY hz h0 hsx hsy hkx hky
  have CF := Go.Lib.hid cF
  have CI := Go.Lib.hid cI
  have CO := Go.Lib.hid cO
  clear cF cI cO
  go_enter Try.func11, Try.ntmps11
  go_wp2_with fail
  generalize w.alloc (.cells #[.int .i64 st, .bool nu, .bool ig, .bool uf] 23) = W at *
  refine (ca W).mono ?_
  rintro e W ⟨rfl, rfl⟩
  go_wp2_with fail
  refine (cb W).mono ?_
  rintro e W ⟨rfl, rfl⟩
  clear ca cb
  have z0_0 := o1.o0
  have z1_0 := o1.o1
  have z2_0 := o1.o2
  have z3_0 := o1.o3
  go_wp2_with fail
  refine (CI.out W).mono ?_
  rintro e w1 ⟨rfl, k1⟩
  have q1 := o1.below k1
  have hB1 := hB.trans (k1.mono hB.size)
  clear z0_0 z1_0 z2_0 z3_0 hB k1
  have z0_1 := q1.o0
  have z1_1 := q1.o1
  have z2_1 := q1.o2
  have z3_1 := q1.o3
  go_wp2_with fail
  refine (known_any w1).mono ?_
  rintro e w2 ⟨rfl, k2⟩
  have q2 := q1.below k2
  have hB2 := hB1.trans (k2.mono hB1.size)
  clear z0_1 z1_1 z2_1 z3_1 q1 hB1 k2
  have z0_2 := q2.o0
  have z1_2 := q2.o1
  have z2_2 := q2.o2
  have z3_2 := q2.o3
  go_wp2_with fail
  refine (CF.out w2).mono ?_
  rintro e w3 ⟨rfl, kk3⟩
  have k3 : Below w2.heap.size w2 w3 := ((Below.refl _ w2).alloc (Nat.le_refl _) _).trans (kk3.mono (by simp))
  have q3 := q2.below k3
  have hB3 := hB2.trans (k3.mono hB2.size)
  clear z0_2 z1_2 z2_2 z3_2 q2 hB2 k3 kk3
  have z0_3 := q3.o0
  have z1_3 := q3.o1
  have z2_3 := q3.o2
  have z3_3 := q3.o3
  have oq : ObjAt w3.drew w.heap.size #[.int .i64 st, .bool nu, .bool ig, .bool uf] 23 := q3
  have hb : Below w.heap.size w w3.drew := hB3.drew
  clear hB3 q3
  go_wp2_with fail
  clear z0_3 z1_3 z2_3 z3_3
  go_region_held3 (fun w' => w'.cell? ⟨w.heap.size, 0, none⟩ = some (.int .i64 st) ∧ w'.cell? ⟨w.heap.size, 1, none⟩ = some (.bool nu) ∧ w'.cell? ⟨w.heap.size, 2, none⟩ = some (.bool ig) ∧ w'.cell? ⟨w.heap.size, 3, none⟩ = some (.bool uf))
    (first
      | exact ⟨o9.o0, o9.o1, o9.o2, o9.o3⟩
      | exact ⟨o8.o0, o8.o1, o8.o2, o8.o3⟩
      | exact ⟨o7.o0, o7.o1, o7.o2, o7.o3⟩
      | exact ⟨o6.o0, o6.o1, o6.o2, o6.o3⟩
      | exact ⟨o5.o0, o5.o1, o5.o2, o5.o3⟩
      | exact ⟨o4.o0, o4.o1, o4.o2, o4.o3⟩
      | exact ⟨oq.o0, oq.o1, oq.o2, oq.o3⟩)
    (first
      | (go_at_call 20; (with_reducible refine (CO.out _).mono ?_); rintro e w7 ⟨rfl, k7⟩; have o7 := o6.below k7)
      | (go_at_call 20; (with_reducible refine (CO.out _).mono ?_); rintro e w4 ⟨rfl, k4⟩; have o4 := oq.below k4)
      | (go_at_call 19; (with_reducible refine (CX.out _).mono ?_); intro e w5 h5; obtain ⟨Ax, mx, dx, rfl, ia, lx, k5⟩ := h5.form; have o5 := o4.below k5)
      | (go_at_call 19; (with_reducible refine (CY.out _).mono ?_); intro e w8 h8; obtain ⟨Ay, my, dy, rfl, ib, ly, k8⟩ := h8.form; have o8 := o7.below k8)
      | (go_at_call 30; (with_reducible refine (weights1_any _ ia lx (by omega) KX.out).mono ?_); intro e w6 h6; obtain ⟨A1, m1, d1, rfl, na, hmd1, hd1, k6, g1⟩ := h6.form2; have o6 := o5.below k6)
      | (go_at_call 30; (with_reducible refine (weights1_any _ ib ly (by omega) KY.out).mono ?_); intro e w9 h9; obtain ⟨A2, m2, d2, rfl, nb, hmd2, hd2, k9, g2⟩ := h9.form2; have o9 := o8.below k9)
      | fail)
  have s4 := hb.size
  have b4 := hb.trans (k4.mono s4)
  have b5 := b4.trans (k5.mono b4.size)
  have b6 := b5.trans (k6.mono b5.size)
  have b7 := b6.trans (k7.mono b6.size)
  have b8 := b7.trans (k8.mono b7.size)
  have b9 := b8.trans (k9.mono b8.size)
  have na9 := ((na.below k7).below k8).below k9
  rw [hwx.out] at na9
  rw [hwy.out] at nb
  have l1 : m1 ≤ 100000 := by have := na9.1; omega
  have l2 : m2 ≤ 100000 := by have := nb.1; omega
  have hw : w.heap.size < w5.heap.size := o5.lt
  have y1 := o9.o1
  have f1 := o9.frozen 1
  have p5 := o9.setk 1 (.bool false)
  have hb5 := b9.setCell (p := ⟨w.heap.size, 1, none⟩) (Nat.le_refl _) (.bool false)
  have hs58 : w5.heap.size ≤ w8.heap.size := Nat.le_trans k6.size (Nat.le_trans k7.size k8.size)
  have na5 := na9.set_other (b := w.heap.size) (i := 1) (u := .bool false) (fun g hg => by have := g1 g hg; omega)
  have nb5 := nb.set_other (b := w.heap.size) (i := 1) (u := .bool false) (fun g hg => by have := g2 g hg; omega)
  have NA := Go.Lib.hid na5
  have NB := Go.Lib.hid nb5
  clear k4 k5 k6 k7 k8 k9 b4 b5 b6 b7 b8 b9 s4 hb oq o4 o5 o6 o7 o8 na nb na9 ia ib lx ly g1 g2 hw hs58 h5 h6 h8 h9 na5 nb5
  go_wp2_with fail
  clear y1 f1 o9
  generalize w9.setCell ⟨w.heap.size, 1, none⟩ (.bool false) = w10 at *
  have p6 : ObjAt w10 w.heap.size #[.int .i64 st, .bool false, .bool ig, .bool uf] 23 := p5
  have y0 := p6.o0
  have y1 := p6.o1
  have y2 := p6.o2
  have y3 := p6.o3
  clear p5
  go_wp2_with fail
  refine (CJ.out w10).mono ?_
  rintro e w11 ⟨rfl, k11⟩
  have n1 := NA.out.below k11
  have n2 := NB.out.below k11
  have hb11 := hb5.trans (k11.mono hb5.size)
  clear y0 y1 y2 y3 p6 hb5 k11
  go_wp2_with fail
  refine (begins_any w11 n1 n2 l1 l2 hmd1 hd1).mono ?_
  rintro e w12 ⟨rfl, k12⟩
  have HB := Go.Lib.hid (hb11.trans (k12.mono hb11.size))
  clear n1 n2 k12 hb11
  generalize preB wx wy = v at *
  go_wp2
  go_ret
  exact ⟨rfl, HB.out⟩
theorem law_prefixes {w : World} (a : ByteArray) (ha : a.size ≤ maxLen) (b : ByteArray) (hb : b.size ≤ maxLen) (st : Int) (nu ig uf : Bool) : Calls Try.prog 11 #[.string a, .string b, opV st nu ig uf] w (TrueW w) := by
  obtain ⟨x, sx, cx⟩ := cut_x a ha
  obtain ⟨y, sy, cy⟩ := cut_x b hb
  by_cases h : faultN st [x, y] = 0
  · exact lawPr_good sx sy cx cy st nu ig uf h w
  · exact lawPr_bad sx sy cx cy st nu ig uf h w
end Go.Proofs.Ytknbglcmjggkjaa
