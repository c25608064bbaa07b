/- Layer 6: the law of comparing (5). -/
import Derived.Test.YtknbglcmjggkjaaRA
namespace Go.Proofs.Ytknbglcmjggkjaa
open Go.RowKit Go.Shelf Go.Lib Co

theorem err_one {st : Int} {x : Sx} (sx : x.s.size ≤ 4096) : errS st x.s x.bad = faultN st [x] := by
  unfold errS faultN
  by_cases h : st < 1 ∨ 4 < st
  · rw [if_pos h, if_pos h]
  · rw [if_neg h, if_neg h, if_neg (by omega)]
    by_cases hb : x.bad = []
    · rw [if_neg (fun g => g hb), if_pos (by simp [hb])]
    · rw [if_pos hb, if_neg (by simp [hb])]
theorem err_two {st : Int} {x y : Sx} (sx : x.s.size ≤ 4096) (sy : y.s.size ≤ 4096) : errC st x.s x.bad y.s y.bad = faultN st [x, y] := by
  unfold errC
  rw [err_one sx, err_one sy]
  unfold faultN
  by_cases h : st < 1 ∨ 4 < st
  · simp only [if_pos h]; rfl
  · simp only [if_neg h]
    by_cases hx : x.bad = [] <;> by_cases hy : y.bad = [] <;> simp [hx, hy]
theorem key_err {x : Sx} (st : Int) (nu ig uf : Bool) (sx : x.s.size ≤ 4096) (h : faultN st [x] = 0) (w : World) : Calls Try.prog 21 #[.string x.s, opV st nu ig uf] w fun e w' => e = .returned (.tuple #[.string (bs (keyX st nu ig uf x)), .int .i64 0]) ∧ Below w.heap.size w w' := by
  refine (key_any x.str st nu ig uf w).mono ?_
  rintro e w' ⟨rfl, hb⟩
  rw [err_one sx, h]
  exact ⟨rfl, hb⟩
set_option maxRecDepth 100000 in
set_option maxHeartbeats 40000000 in
theorem compares_in {x y : Sx} {a b : ByteArray} (sx : x.s.size ≤ 200) (sy : y.s.size ≤ 200) (ca : ∀ w, Calls Try.prog 14 #[.string a] w fun e w' => e = .returned (.string x.s) ∧ w' = w)
    (cb : ∀ w, Calls Try.prog 14 #[.string b] w fun e w' => e = .returned (.string y.s) ∧ w' = w) (st : Int) (nu ig uf : Bool) (w : World) : Calls Try.prog 5 #[.string a, .string b, opV st nu ig uf] w (TrueW w) := by
  have cF := fun w' => fault_any (st := st) (nu := nu) (ig := ig) (uf := uf) (w'.alloc _) (strs_new w' [x, y] 9 2) (by simp)
  simp only [List.map_cons, List.map_nil, List.length_cons, List.length_nil, Nat.reduceAdd] at cF
  have cC := fun w' => compare_any x.str y.str st nu ig uf w'
  unfold CmpAns at cC
  rw [err_two (by omega) (by omega)] at cC
  have cO := fun w' => options_any st nu ig uf w'
  have o1 := ObjAt.new w #[.int .i64 st, .bool nu, .bool ig, .bool uf] 23
  have hB : Below w.heap.size w (w.alloc (.cells #[.int .i64 st, .bool nu, .bool ig, .bool uf] 23)) := (Below.refl _ w).alloc (Nat.le_refl _) _
  by_cases h0 : faultN st [x, y] = 0
  · have hz := faultN_zero h0
    have hx0 : x.bad = [] := hz.2 x (by simp)
    have hy0 : y.bad = [] := hz.2 y (by simp)
    have fx : faultN st [x] = 0 := by unfold faultN; rw [if_neg (by omega), if_pos (by simp [hx0])]
    have fy : faultN st [y] = 0 := by unfold faultN; rw [if_neg (by omega), if_pos (by simp [hy0])]
    have cX := fun w' => key_err (x := x) st nu ig uf (by omega) fx w'
    have cY := fun w' => key_err (x := y) st nu ig uf (by omega) fy w'
    have cR := fun w' => rcompare_any nu ig uf hx0 hy0 hz.1.1 hz.1.2 (by omega) (by omega) w'
    have cB := fun w' => bytes_any (bs (keyX st nu ig uf x)) (bs (keyX st nu ig uf y)) w'
    rw [bs_data, bs_data] at cB
    simp only [h0, if_true] at cC cF
    rw [show compareBytes (keyS st nu ig uf x.s x.P) (keyS st nu ig uf y.s y.P) = cmpX st nu ig uf x y from rfl] at cC
    rw [show compareBytes (keyX st nu ig uf x) (keyX st nu ig uf y) = cmpX st nu ig uf x y from rfl] at cB
    generalize cmpX st nu ig uf x y = v at *
    generalize bs (keyX st nu ig uf x) = kx at *
    generalize bs (keyX st nu ig uf y) = ky at *
    unfold opV at *
    have CF := Go.Lib.hid cF
    have CC := Go.Lib.hid cC
    have CO := Go.Lib.hid cO
    have CX := Go.Lib.hid cX
    have CY := Go.Lib.hid cY
    have CR := Go.Lib.hid cR
    have CB := Go.Lib.hid cB
    clear cF cC cO cX cY cR cB hz fx fy h0
    go_enter Try.func5, Try.ntmps5
    go_wp2_with fail
    generalize w.alloc (.cells #[.int .i64 st, .bool nu, .bool ig, .bool uf] 23) = W at *
    refine (ca W).mono ?_
    rintro e W ⟨rfl, rfl⟩
    go_wp2_with fail
    refine (cb W).mono ?_
    rintro e W ⟨rfl, rfl⟩
    clear ca cb
    have z0_0 := o1.o0
    have z1_0 := o1.o1
    have z2_0 := o1.o2
    have z3_0 := o1.o3
    go_wp2_with fail
    refine (CC.out W).mono ?_
    rintro e w1 ⟨rfl, k1⟩
    have q1 := o1.below k1
    have hB1 := hB.trans (k1.mono hB.size)
    clear z0_0 z1_0 z2_0 z3_0 hB k1
    have z0_1 := q1.o0
    have z1_1 := q1.o1
    have z2_1 := q1.o2
    have z3_1 := q1.o3
    go_wp2_with fail
    refine (known_any w1).mono ?_
    rintro e w2 ⟨rfl, k2⟩
    have q2 := q1.below k2
    have hB2 := hB1.trans (k2.mono hB1.size)
    clear z0_1 z1_1 z2_1 z3_1 q1 hB1 k2
    have z0_2 := q2.o0
    have z1_2 := q2.o1
    have z2_2 := q2.o2
    have z3_2 := q2.o3
    go_wp2_with fail
    refine (CF.out w2).mono ?_
    rintro e w3 ⟨rfl, kk3⟩
    have k3 : Below w2.heap.size w2 w3 := ((Below.refl _ w2).alloc (Nat.le_refl _) _).trans (kk3.mono (by simp))
    have q3 := q2.below k3
    have hB3 := hB2.trans (k3.mono hB2.size)
    clear z0_2 z1_2 z2_2 z3_2 q2 hB2 k3 kk3
    have z0_3 := q3.o0
    have z1_3 := q3.o1
    have z2_3 := q3.o2
    have z3_3 := q3.o3
    go_wp2_with fail
    refine (CX.out w3).mono ?_
    rintro e w4 ⟨rfl, k4⟩
    have q4 := q3.below k4
    have hB4 := hB3.trans (k4.mono hB3.size)
    clear z0_3 z1_3 z2_3 z3_3 q3 hB3 k4
    have z0_4 := q4.o0
    have z1_4 := q4.o1
    have z2_4 := q4.o2
    have z3_4 := q4.o3
    go_wp2_with fail
    refine (CY.out w4).mono ?_
    rintro e w5 ⟨rfl, k5⟩
    have q5 := q4.below k5
    have hB5 := hB4.trans (k5.mono hB4.size)
    clear z0_4 z1_4 z2_4 z3_4 q4 hB4 k5
    have z0_5 := q5.o0
    have z1_5 := q5.o1
    have z2_5 := q5.o2
    have z3_5 := q5.o3
    go_wp2_with fail
    refine (CO.out w5).mono ?_
    rintro e w6 ⟨rfl, k6⟩
    have q6 := q5.below k6
    have hB6 := hB5.trans (k6.mono hB5.size)
    clear z0_5 z1_5 z2_5 z3_5 q5 hB5 k6
    have z0_6 := q6.o0
    have z1_6 := q6.o1
    have z2_6 := q6.o2
    have z3_6 := q6.o3
    go_wp2_with fail
    refine (CR.out w6).mono ?_
    rintro e w7 ⟨rfl, k7⟩
    have q7 := q6.below k7
    have hB7 := hB6.trans (k7.mono hB6.size)
    clear z0_6 z1_6 z2_6 z3_6 q6 hB6 k7
    have z0_7 := q7.o0
    have z1_7 := q7.o1
    have z2_7 := q7.o2
    have z3_7 := q7.o3
    go_wp2_with fail
    refine (CB.out w7).mono ?_
    rintro e w7 ⟨rfl, rfl⟩
    have HB := Go.Lib.hid hB7
    go_wp2
    go_ret
    exact ⟨rfl, HB.out⟩
  · rw [if_neg h0] at cC
    generalize faultN st [x, y] = f at *
    unfold opV at *
    have CF := Go.Lib.hid cF
    have CC := Go.Lib.hid cC
    clear cF cC cO
    go_enter Try.func5, Try.ntmps5
    go_wp2_with fail
    generalize w.alloc (.cells #[.int .i64 st, .bool nu, .bool ig, .bool uf] 23) = W at *
    refine (ca W).mono ?_
    rintro e W ⟨rfl, rfl⟩
    go_wp2_with fail
    refine (cb W).mono ?_
    rintro e W ⟨rfl, rfl⟩
    clear ca cb
    have z0_0 := o1.o0
    have z1_0 := o1.o1
    have z2_0 := o1.o2
    have z3_0 := o1.o3
    go_wp2_with fail
    refine (CC.out W).mono ?_
    rintro e w1 ⟨rfl, k1⟩
    have q1 := o1.below k1
    have hB1 := hB.trans (k1.mono hB.size)
    clear z0_0 z1_0 z2_0 z3_0 hB k1
    have z0_1 := q1.o0
    have z1_1 := q1.o1
    have z2_1 := q1.o2
    have z3_1 := q1.o3
    go_wp2_with fail
    refine (known_any w1).mono ?_
    rintro e w2 ⟨rfl, k2⟩
    have q2 := q1.below k2
    have hB2 := hB1.trans (k2.mono hB1.size)
    clear z0_1 z1_1 z2_1 z3_1 q1 hB1 k2
    have z0_2 := q2.o0
    have z1_2 := q2.o1
    have z2_2 := q2.o2
    have z3_2 := q2.o3
    go_wp2_with fail
    refine (CF.out w2).mono ?_
    rintro e w3 ⟨rfl, kk3⟩
    have k3 : Below w2.heap.size w2 w3 := ((Below.refl _ w2).alloc (Nat.le_refl _) _).trans (kk3.mono (by simp))
    have q3 := q2.below k3
    have hB3 := hB2.trans (k3.mono hB2.size)
    clear z0_2 z1_2 z2_2 z3_2 q2 hB2 k3 kk3
    have z0_3 := q3.o0
    have z1_3 := q3.o1
    have z2_3 := q3.o2
    have z3_3 := q3.o3
    have HB := Go.Lib.hid hB3
    go_wp2
    go_ret
    exact ⟨rfl, HB.out⟩
theorem law_compares {w : World} (a : ByteArray) (ha : a.size ≤ maxLen) (b : ByteArray) (hb : b.size ≤ maxLen) (st : Int) (nu ig uf : Bool) : Calls Try.prog 5 #[.string a, .string b, opV st nu ig uf] w (TrueW w) := by
  obtain ⟨x, sx, cx⟩ := cut_x a ha
  obtain ⟨y, sy, cy⟩ := cut_x b hb
  exact compares_in sx sy cx cy st nu ig uf w
end Go.Proofs.Ytknbglcmjggkjaa
