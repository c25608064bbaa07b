/- Layer 6: the law of keys (4). -/
import Derived.Test.YtknbglcmjggkjaaRB
namespace Go.Proofs.Ytknbglcmjggkjaa
open Go.RowKit Go.Shelf Go.Lib Co

set_option maxRecDepth 100000 in
set_option maxHeartbeats 40000000 in
theorem keys_in {x : Sx} {a : ByteArray} (sx : x.s.size ≤ 200) (ca : ∀ w, Calls Try.prog 14 #[.string a] w fun e w' => e = .returned (.string x.s) ∧ w' = w) (st : Int) (nu ig uf : Bool) (w : World) : Calls Try.prog 4 #[.string a, opV st nu ig uf] w (TrueW w) := by
  have cF := fun w' => fault_any (st := st) (nu := nu) (ig := ig) (uf := uf) (w'.alloc _) (strs_new w' [x] 9 1) (by simp)
  simp only [List.map_cons, List.map_nil, List.length_cons, List.length_nil, Nat.reduceAdd] at cF
  have cK := fun w' => key_any x.str st nu ig uf w'
  unfold KeyAns at cK
  rw [err_one (by omega)] at cK
  have cO := fun w' => options_any st nu ig uf w'
  have o1 := ObjAt.new w #[.int .i64 st, .bool nu, .bool ig, .bool uf] 23
  have hB : Below w.heap.size w (w.alloc (.cells #[.int .i64 st, .bool nu, .bool ig, .bool uf] 23)) := (Below.refl _ w).alloc (Nat.le_refl _) _
  by_cases h0 : faultN st [x] = 0
  · have hz := faultN_zero h0
    have hx0 : x.bad = [] := hz.2 x (by simp)
    have cR := fun w' => rkey_any nu ig uf hx0 hz.1.1 hz.1.2 (by omega) w'
    simp only [h0, if_true] at cK cF
    rw [show bs (keyB st.toNat x.s.data.toList (elems nu (upN uf) ig x.P)) = bs (keyX st nu ig uf x) from rfl] at cK
    generalize bs (keyX st nu ig uf x) = kx at *
    unfold opV at *
    have CF := Go.Lib.hid cF
    have CK := Go.Lib.hid cK
    have CO := Go.Lib.hid cO
    have CR := Go.Lib.hid cR
    clear cF cK cO cR hz h0
    go_enter Try.func4, Try.ntmps4
    go_wp2_with fail
    generalize w.alloc (.cells #[.int .i64 st, .bool nu, .bool ig, .bool uf] 23) = W at *
    refine (ca W).mono ?_
    rintro e W ⟨rfl, rfl⟩
    clear ca
    have z0_0 := o1.o0
    have z1_0 := o1.o1
    have z2_0 := o1.o2
    have z3_0 := o1.o3
    go_wp2_with fail
    refine (CK.out W).mono ?_
    rintro e w1 ⟨rfl, k1⟩
    have q1 := o1.below k1
    have hB1 := hB.trans (k1.mono hB.size)
    clear z0_0 z1_0 z2_0 z3_0 hB k1
    have z0_1 := q1.o0
    have z1_1 := q1.o1
    have z2_1 := q1.o2
    have z3_1 := q1.o3
    go_wp2_with fail
    refine (known_any w1).mono ?_
    rintro e w2 ⟨rfl, k2⟩
    have q2 := q1.below k2
    have hB2 := hB1.trans (k2.mono hB1.size)
    clear z0_1 z1_1 z2_1 z3_1 q1 hB1 k2
    have z0_2 := q2.o0
    have z1_2 := q2.o1
    have z2_2 := q2.o2
    have z3_2 := q2.o3
    go_wp2_with fail
    refine (CF.out w2).mono ?_
    rintro e w3 ⟨rfl, kk3⟩
    have k3 : Below w2.heap.size w2 w3 := ((Below.refl _ w2).alloc (Nat.le_refl _) _).trans (kk3.mono (by simp))
    have q3 := q2.below k3
    have hB3 := hB2.trans (k3.mono hB2.size)
    clear z0_2 z1_2 z2_2 z3_2 q2 hB2 k3 kk3
    have z0_3 := q3.o0
    have z1_3 := q3.o1
    have z2_3 := q3.o2
    have z3_3 := q3.o3
    go_wp2_with fail
    refine (CO.out w3).mono ?_
    rintro e w4 ⟨rfl, k4⟩
    have q4 := q3.below k4
    have hB4 := hB3.trans (k4.mono hB3.size)
    clear z0_3 z1_3 z2_3 z3_3 q3 hB3 k4
    have z0_4 := q4.o0
    have z1_4 := q4.o1
    have z2_4 := q4.o2
    have z3_4 := q4.o3
    go_wp2_with fail
    refine (CR.out w4).mono ?_
    rintro e w5 ⟨rfl, k5⟩
    have q5 := q4.below k5
    have hB5 := hB4.trans (k5.mono hB4.size)
    clear z0_4 z1_4 z2_4 z3_4 q4 hB4 k5
    have z0_5 := q5.o0
    have z1_5 := q5.o1
    have z2_5 := q5.o2
    have z3_5 := q5.o3
    have HB := Go.Lib.hid hB5
    go_wp2
    go_ret
    exact ⟨rfl, HB.out⟩
  · rw [if_neg h0, show bs [] = { data := #[] } from rfl] at cK
    generalize faultN st [x] = f at *
    unfold opV at *
    have CF := Go.Lib.hid cF
    have CK := Go.Lib.hid cK
    clear cF cK cO
    go_enter Try.func4, Try.ntmps4
    go_wp2_with fail
    generalize w.alloc (.cells #[.int .i64 st, .bool nu, .bool ig, .bool uf] 23) = W at *
    refine (ca W).mono ?_
    rintro e W ⟨rfl, rfl⟩
    clear ca
    have z0_0 := o1.o0
    have z1_0 := o1.o1
    have z2_0 := o1.o2
    have z3_0 := o1.o3
    go_wp2_with fail
    refine (CK.out W).mono ?_
    rintro e w1 ⟨rfl, k1⟩
    have q1 := o1.below k1
    have hB1 := hB.trans (k1.mono hB.size)
    clear z0_0 z1_0 z2_0 z3_0 hB k1
    have z0_1 := q1.o0
    have z1_1 := q1.o1
    have z2_1 := q1.o2
    have z3_1 := q1.o3
    go_wp2_with fail
    refine (known_any w1).mono ?_
    rintro e w2 ⟨rfl, k2⟩
    have q2 := q1.below k2
    have hB2 := hB1.trans (k2.mono hB1.size)
    clear z0_1 z1_1 z2_1 z3_1 q1 hB1 k2
    have z0_2 := q2.o0
    have z1_2 := q2.o1
    have z2_2 := q2.o2
    have z3_2 := q2.o3
    go_wp2_with fail
    refine (CF.out w2).mono ?_
    rintro e w3 ⟨rfl, kk3⟩
    have k3 : Below w2.heap.size w2 w3 := ((Below.refl _ w2).alloc (Nat.le_refl _) _).trans (kk3.mono (by simp))
    have q3 := q2.below k3
    have hB3 := hB2.trans (k3.mono hB2.size)
    clear z0_2 z1_2 z2_2 z3_2 q2 hB2 k3 kk3
    have z0_3 := q3.o0
    have z1_3 := q3.o1
    have z2_3 := q3.o2
    have z3_3 := q3.o3
    have HB := Go.Lib.hid hB3
    go_wp2
    go_ret
    exact ⟨rfl, HB.out⟩
theorem law_keys {w : World} (a : ByteArray) (ha : a.size ≤ maxLen) (st : Int) (nu ig uf : Bool) : Calls Try.prog 4 #[.string a, opV st nu ig uf] w (TrueW w) := by
  obtain ⟨x, sx, cx⟩ := cut_x a ha
  exact keys_in sx cx st nu ig uf w
end Go.Proofs.Ytknbglcmjggkjaa
