/- Layer 6: the reference's Initial (33), the law of initials (12). -/
import Derived.Test.YtknbglcmjggkjaaRE
import Derived.Test.YtknbglcmjggkjaaK4
import Derived.Test.YtknbglcmjggkjaaRB
namespace Go.Proofs.Ytknbglcmjggkjaa
open Go.RowKit Go.Shelf Go.Lib Co

set_option maxRecDepth 100000 in
set_option maxHeartbeats 8000000 in
theorem rinitial_any {x : Sx} {st : Int} (nu ig uf : Bool) (hx : x.bad = []) (sx : x.s.size ≤ 4096) (w : World) :
    Calls Try.prog 33 #[.string x.s, opV st nu ig uf] w fun e w' => e = .returned (.string (bs (iniB (wts nu ig uf x.P)))) ∧ Below w.heap.size w w' := by
  have hsx := x.str
  rw [hx] at hsx
  have cX := fun w' => relements_any hsx sx st nu ig uf w'
  have hlx : (elems nu (upN uf) ig x.P).length ≤ 10000 := by have := elems_len nu ig (upN uf) x.P; have := pts_len x.str; omega
  have hkx := elems_ok' x sx nu ig uf
  have hpr := wts_pr (nu := nu) (ig := ig) (uf := uf) sx
  have hln := wts_len nu ig uf x sx
  have hwe := Go.Lib.hid (show lev (fun e => wOf 1 e) (elems nu (upN uf) ig x.P) = wts nu ig uf x.P from rfl)
  generalize elems nu (upN uf) ig x.P = ex at *
  generalize wts nu ig uf x.P = ws at *
  have KX := Go.Lib.hid hkx
  have o1 := ObjAt.new w #[.int .i64 st, .bool nu, .bool ig, .bool uf] 34
  have hB : Below w.heap.size w (w.alloc (.cells #[.int .i64 st, .bool nu, .bool ig, .bool uf] 34)) := (Below.refl _ w).alloc (Nat.le_refl _) _
  unfold opV at *
  have z0 := o1.c0
  have z1 := o1.c1
  have z2 := o1.c2
  have z3 := o1.c3
  have CX := Go.Lib.hid cX
  clear cX hkx hsx
  go_enter Try.func33, Try.ntmps33
  go_wp2_with fail
  generalize w.alloc (.cells #[.int .i64 st, .bool nu, .bool ig, .bool uf] 34) = W at *
  refine (CX.out W).mono ?_
  intro e w1 h1
  obtain ⟨A, m, d, rfl, hin, hlm, k1⟩ := h1.form
  have hB1 := hB.trans (k1.mono hB.size)
  clear z0 z1 z2 z3 o1 hB k1 h1
  have cW := rweights_any 1 (by decide) (by decide) w1 hin hlm (by omega) KX.out
  rw [hwe.out] at cW
  have CW := Go.Lib.hid cW
  clear cW hin
  go_wp2_with fail
  refine CW.out.mono ?_
  intro e w2 h2
  obtain ⟨A2, m2, d2, rfl, hv, hl2, k2⟩ := h2.row
  have hB2 := hB1.trans (k2.mono hB1.size)
  clear hB1 k2 h2
  cases ws with
  | nil =>
    obtain rfl : m2 = 0 := hl2.symm
    clear hv
    go_wp2
    go_ret
    exact ⟨rfl, hB2⟩
  | cons p r =>
    have hp := hpr p (by simp)
    obtain ⟨g, d, he, c0⟩ := own_head hv
    injection he with he1 he2 he3
    subst he1 he2 he3
    have hne2 : ¬ (r.length : Int) + 1 = 0 := by omega
    have hpos : (0 : Int) < (r.length : Int) + 1 := by omega
    clear hv hpr hln hl2
    obtain ⟨pz, hpz⟩ : ∃ pz : Int, pz = (p : Int) := ⟨_, rfl⟩
    rw [← hpz] at c0
    rcases (show p < 512 ∨ (512 ≤ p ∧ p < 32768) ∨ (32768 ≤ p ∧ p ≤ 32868) ∨ 65536 ≤ p by omega) with h | ⟨h, h'⟩ | ⟨h, h'⟩ | h
    · have HE := Go.Lib.hid (show iniB (p :: r) = [] by rw [ini_cons, if_pos h])
      have i1 : ¬ 512 ≤ pz := by omega
      have i2 : ¬ 32768 ≤ pz := by omega
      clear h hp hpz
      go_wp2
      go_ret
      exact ⟨by rw [HE.out]; rfl, hB2⟩
    · have HE := Go.Lib.hid (show iniB (p :: r) = [48, 45, 57] by rw [ini_cons, if_neg (by omega), if_pos h'])
      have i1 : 512 ≤ pz := by omega
      have i2 : pz < 32768 := by omega
      clear h h' hp hpz
      go_wp2
      go_ret
      exact ⟨by rw [HE.out]; rfl, hB2⟩
    · have HE := Go.Lib.hid (show iniB (p :: r) = [UInt8.ofNat (65 + (p - 32768) / 4)] by rw [ini_cons, if_neg (by omega), if_neg (by omega), if_pos (by omega)])
      have i1 : 512 ≤ pz := by omega
      have i2 : ¬ pz < 32768 := by omega
      have i2' : 32768 ≤ pz := by omega
      have i3 : pz ≤ 32868 := by omega
      obtain ⟨qz, hqz⟩ : ∃ qz : Int, qz = pz - 32768 := ⟨_, rfl⟩
      have cv := conv1 w2 (65 + qz / 4) (UInt8.ofNat (65 + (p - 32768) / 4)) (by rw [UInt8.toNat_ofNat', Nat.mod_eq_of_lt (by omega)]; omega)
      have e1 : pz - 32768 = qz := hqz.symm
      have e2 : qz.tdiv 4 = qz / 4 := Int.tdiv_eq_ediv_of_nonneg (by omega)
      have HB2 := Go.Lib.hid (hB2.alloc hB2.size (.cells #[.int .u8 (65 + qz / 4)] 5))
      obtain ⟨S, hS⟩ : ∃ S, S = bs [UInt8.ofNat (65 + (p - 32768) / 4)] := ⟨_, rfl⟩
      rw [← hS] at cv
      have HS := Go.Lib.hid hS
      have i4 : qz / 4 < 191 := by omega
      have i5 : (0 : Int) ≤ qz / 4 := by omega
      have i6 : IntKind.u8.wrap (65 + qz / 4) = 65 + qz / 4 := by rw [IntKind.wrap_u8]; omega
      have i7 : IntKind.i64.wrap (65 + qz / 4) = 65 + qz / 4 := by rw [IntKind.wrap_i64]; omega
      clear h h' hp hS hB2 hqz hpz
      go_wp2
      go_ret
      exact ⟨by rw [HE.out, HS.out]; rfl, HB2.out⟩
    · have HE := Go.Lib.hid (show iniB (p :: r) = [] by rw [ini_cons, if_neg (by omega), if_neg (by omega), if_neg (by omega)])
      have i1 : 512 ≤ pz := by omega
      have i2 : ¬ pz < 32768 := by omega
      have i2' : 32768 ≤ pz := by omega
      have i3 : ¬ pz ≤ 32868 := by omega
      clear h hp hpz
      go_wp2
      go_ret
      exact ⟨by rw [HE.out]; rfl, hB2⟩
theorem ObjAt.setk {W : World} {b : Nat} {t : TypeId} {c : Array Value} (h : ObjAt W b c t) (i : Nat) (u : Value) : ObjAt (W.setCell ⟨b, i, none⟩ u) b (c.setIfInBounds i u) t := heap_setCell_same W b i c t u h
set_option maxRecDepth 100000 in
set_option maxHeartbeats 40000000 in
theorem lawIn_bad {x : Sx} {a : ByteArray} (sx : x.s.size ≤ 200) (ca : ∀ w, Calls Try.prog 14 #[.string a] w fun e w' => e = .returned (.string x.s) ∧ w' = w) (st : Int) (nu ig uf : Bool) (h0 : faultN st [x] ≠ 0) (w : World) : Calls Try.prog 12 #[.string a, opV st nu ig uf] w (TrueW w) := by
  have cF := fun w' => fault_any (st := st) (nu := nu) (ig := ig) (uf := uf) (w'.alloc _) (strs_new w' [x] 9 1) (by simp)
  simp only [List.map_cons, List.map_nil, List.length_cons, List.length_nil, Nat.reduceAdd] at cF
  have cI := fun w' => initial_any (x := x) (by omega) st nu ig uf w'
  unfold IniAns at cI
  have cO := fun w' => options_any st nu ig uf w'
  have o1 := ObjAt.new w #[.int .i64 st, .bool nu, .bool ig, .bool uf] 23
  have hB : Below w.heap.size w (w.alloc (.cells #[.int .i64 st, .bool nu, .bool ig, .bool uf] 23)) := (Below.refl _ w).alloc (Nat.le_refl _) _
  rw [if_neg h0, show bs [] = { data := #[] } from rfl] at cI
  generalize faultN st [x] = f at *
  unfold opV at *
  have CF := Go.Lib.hid cF
  have CI := Go.Lib.hid cI
  have CO := Go.Lib.hid cO
  clear cF cI cO
  go_enter Try.func12, Try.ntmps12
  go_wp2_with fail
  generalize w.alloc (.cells #[.int .i64 st, .bool nu, .bool ig, .bool uf] 23) = W at *
  refine (ca W).mono ?_
  rintro e W ⟨rfl, rfl⟩
  clear ca
  have z0_0 := o1.o0
  have z1_0 := o1.o1
  have z2_0 := o1.o2
  have z3_0 := o1.o3
  go_wp2_with fail
  refine (CI.out W).mono ?_
  rintro e w1 ⟨rfl, k1⟩
  have q1 := o1.below k1
  have hB1 := hB.trans (k1.mono hB.size)
  clear z0_0 z1_0 z2_0 z3_0 hB k1
  have z0_1 := q1.o0
  have z1_1 := q1.o1
  have z2_1 := q1.o2
  have z3_1 := q1.o3
  go_wp2_with fail
  refine (known_any w1).mono ?_
  rintro e w2 ⟨rfl, k2⟩
  have q2 := q1.below k2
  have hB2 := hB1.trans (k2.mono hB1.size)
  clear z0_1 z1_1 z2_1 z3_1 q1 hB1 k2
  have z0_2 := q2.o0
  have z1_2 := q2.o1
  have z2_2 := q2.o2
  have z3_2 := q2.o3
  go_wp2_with fail
  refine (CF.out w2).mono ?_
  rintro e w3 ⟨rfl, kk3⟩
  have k3 : Below w2.heap.size w2 w3 := ((Below.refl _ w2).alloc (Nat.le_refl _) _).trans (kk3.mono (by simp))
  have q3 := q2.below k3
  have hB3 := hB2.trans (k3.mono hB2.size)
  clear z0_2 z1_2 z2_2 z3_2 q2 hB2 k3 kk3
  have z0_3 := q3.o0
  have z1_3 := q3.o1
  have z2_3 := q3.o2
  have z3_3 := q3.o3
  have HB := Go.Lib.hid hB3
  go_wp2
  go_ret
  exact ⟨rfl, HB.out⟩
set_option maxRecDepth 100000 in
set_option maxHeartbeats 40000000 in
theorem lawIn_good {x : Sx} {a : ByteArray} (sx : x.s.size ≤ 200) (ca : ∀ w, Calls Try.prog 14 #[.string a] w fun e w' => e = .returned (.string x.s) ∧ w' = w) (st : Int) (nu ig uf : Bool) (h0 : faultN st [x] = 0) (w : World) : Calls Try.prog 12 #[.string a, opV st nu ig uf] w (TrueW w) := by
  have cF := fun w' => fault_any (st := st) (nu := nu) (ig := ig) (uf := uf) (w'.alloc _) (strs_new w' [x] 9 1) (by simp)
  simp only [List.map_cons, List.map_nil, List.length_cons, List.length_nil, Nat.reduceAdd] at cF
  have cI := fun w' => initial_any (x := x) (by omega) st nu ig uf w'
  unfold IniAns at cI
  have cO := fun w' => options_any st nu ig uf w'
  have o1 := ObjAt.new w #[.int .i64 st, .bool nu, .bool ig, .bool uf] 23
  have hB : Below w.heap.size w (w.alloc (.cells #[.int .i64 st, .bool nu, .bool ig, .bool uf] 23)) := (Below.refl _ w).alloc (Nat.le_refl _) _
  have hz := faultN_zero h0
  have hx0 : x.bad = [] := hz.2 x (by simp)
  have h1 := hz.1.1
  have h4 := hz.1.2
  have f2 : faultN (5 - st) [x] = 0 := by unfold faultN; rw [if_neg (by omega), if_pos (by simp [hx0])]
  have cJ := fun w' => initial_any (x := x) (by omega) (5 - st) nu ig (!uf) w'
  unfold IniAns at cJ
  rw [f2, if_pos rfl, wts_up nu ig (!uf) uf] at cJ
  have cR := fun w' => rinitial_any (st := st) nu ig uf hx0 (by omega) w'
  rw [h0, if_pos rfl] at cI
  rw [h0] at cF
  generalize bs (iniB (wts nu ig uf x.P)) = S at *
  unfold opV at *
  have CJ := Go.Lib.hid cJ
  have CR := Go.Lib.hid cR
  clear cJ cR hz h0
  have CF := Go.Lib.hid cF
  have CI := Go.Lib.hid cI
  have CO := Go.Lib.hid cO
  clear cF cI cO
  go_enter Try.func12, Try.ntmps12
  go_wp2_with fail
  generalize w.alloc (.cells #[.int .i64 st, .bool nu, .bool ig, .bool uf] 23) = W at *
  refine (ca W).mono ?_
  rintro e W ⟨rfl, rfl⟩
  clear ca
  have z0_0 := o1.o0
  have z1_0 := o1.o1
  have z2_0 := o1.o2
  have z3_0 := o1.o3
  go_wp2_with fail
  refine (CI.out W).mono ?_
  rintro e w1 ⟨rfl, k1⟩
  have q1 := o1.below k1
  have hB1 := hB.trans (k1.mono hB.size)
  clear z0_0 z1_0 z2_0 z3_0 hB k1
  have z0_1 := q1.o0
  have z1_1 := q1.o1
  have z2_1 := q1.o2
  have z3_1 := q1.o3
  go_wp2_with fail
  refine (known_any w1).mono ?_
  rintro e w2 ⟨rfl, k2⟩
  have q2 := q1.below k2
  have hB2 := hB1.trans (k2.mono hB1.size)
  clear z0_1 z1_1 z2_1 z3_1 q1 hB1 k2
  have z0_2 := q2.o0
  have z1_2 := q2.o1
  have z2_2 := q2.o2
  have z3_2 := q2.o3
  go_wp2_with fail
  refine (CF.out w2).mono ?_
  rintro e w3 ⟨rfl, kk3⟩
  have k3 : Below w2.heap.size w2 w3 := ((Below.refl _ w2).alloc (Nat.le_refl _) _).trans (kk3.mono (by simp))
  have q3 := q2.below k3
  have hB3 := hB2.trans (k3.mono hB2.size)
  clear z0_2 z1_2 z2_2 z3_2 q2 hB2 k3 kk3
  have z0_3 := q3.o0
  have z1_3 := q3.o1
  have z2_3 := q3.o2
  have z3_3 := q3.o3
  have p0 : ObjAt (w3.alloc (.cells #[.int .i64 st, .bool nu, .bool ig, .bool uf] 23)) w3.heap.size #[.int .i64 st, .bool nu, .bool ig, .bool uf] 23 := ObjAt.new _ _ _
  have q4 := q3.alloc (.cells #[.int .i64 st, .bool nu, .bool ig, .bool uf] 23)
  have hB4 := hB3.alloc hB3.size (.cells #[.int .i64 st, .bool nu, .bool ig, .bool uf] 23)
  have hlt := q3.lt
  clear hB3 q3
  go_wp2_with fail
  clear z0_3 z1_3 z2_3 z3_3
  generalize w3.alloc (.cells #[.int .i64 st, .bool nu, .bool ig, .bool uf] 23) = W4 at *
  have z0 := q4.o0
  have z3 := q4.o3
  have y0 := p0.o0
  have y3 := p0.o3
  have f0 := p0.frozen 0
  have f3 := p0.frozen 3
  have hle : w.heap.size ≤ w3.heap.size := Nat.le_of_lt hlt
  go_region
  have p5 : ObjAt ((W4.setCell ⟨w3.heap.size, 0, none⟩ (.int .i64 (5 - st))).setCell ⟨w3.heap.size, 3, none⟩ (.bool !uf)).drew w3.heap.size #[.int .i64 (5 - st), .bool nu, .bool ig, .bool !uf] 23 := (p0.setk 0 (.int .i64 (5 - st))).setk 3 (.bool !uf)
  have q5 : ObjAt ((W4.setCell ⟨w3.heap.size, 0, none⟩ (.int .i64 (5 - st))).setCell ⟨w3.heap.size, 3, none⟩ (.bool !uf)).drew w.heap.size #[.int .i64 st, .bool nu, .bool ig, .bool uf] 23 := (q4.other (by omega) 0 _).other (by omega) 3 _
  have hB5 : Below w.heap.size w ((W4.setCell ⟨w3.heap.size, 0, none⟩ (.int .i64 (5 - st))).setCell ⟨w3.heap.size, 3, none⟩ (.bool !uf)).drew := ((hB4.setCell (p := ⟨w3.heap.size, 0, none⟩) hle _).setCell (p := ⟨w3.heap.size, 3, none⟩) hle _).drew
  clear p0 q4 hB4 z0 z3 y0 y3 f0 f3
  generalize ((W4.setCell ⟨w3.heap.size, 0, none⟩ (.int .i64 (5 - st))).setCell ⟨w3.heap.size, 3, none⟩ (.bool !uf)).drew = w5 at *
  have y0 := p5.o0
  have y1 := p5.o1
  have y2 := p5.o2
  have y3 := p5.o3
  go_wp2_with fail
  refine (CJ.out w5).mono ?_
  rintro e w6 ⟨rfl, k6⟩
  have q6 := q5.below k6
  have hB6 := hB5.trans (k6.mono hB5.size)
  clear y0 y1 y2 y3 p5 q5 hB5 k6 hlt hle
  have z0_6 := q6.o0
  have z1_6 := q6.o1
  have z2_6 := q6.o2
  have z3_6 := q6.o3
  go_wp2_with fail
  refine (CO.out w6).mono ?_
  rintro e w7 ⟨rfl, k7⟩
  have q7 := q6.below k7
  have hB7 := hB6.trans (k7.mono hB6.size)
  clear z0_6 z1_6 z2_6 z3_6 q6 hB6 k7
  have z0_7 := q7.o0
  have z1_7 := q7.o1
  have z2_7 := q7.o2
  have z3_7 := q7.o3
  go_wp2_with fail
  refine (CR.out w7).mono ?_
  rintro e w8 ⟨rfl, k8⟩
  have q8 := q7.below k8
  have hB8 := hB7.trans (k8.mono hB7.size)
  clear z0_7 z1_7 z2_7 z3_7 q7 hB7 k8
  have z0_8 := q8.o0
  have z1_8 := q8.o1
  have z2_8 := q8.o2
  have z3_8 := q8.o3
  have HB := Go.Lib.hid hB8
  go_wp2
  go_ret
  exact ⟨rfl, HB.out⟩
theorem law_initials {w : World} (a : ByteArray) (ha : a.size ≤ maxLen) (st : Int) (nu ig uf : Bool) : Calls Try.prog 12 #[.string a, opV st nu ig uf] w (TrueW w) := by
  obtain ⟨x, sx, cx⟩ := cut_x a ha
  by_cases h : faultN st [x] = 0
  · exact lawIn_good sx cx st nu ig uf h w
  · exact lawIn_bad sx cx st nu ig uf h w
end Go.Proofs.Ytknbglcmjggkjaa
