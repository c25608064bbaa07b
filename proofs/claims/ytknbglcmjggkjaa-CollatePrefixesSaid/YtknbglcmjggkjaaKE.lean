/- Layer 6: the law of elements (3). -/
import Derived.Test.YtknbglcmjggkjaaKC
import Derived.Deep.RegionHeld3
namespace Go.Proofs.Ytknbglcmjggkjaa
open Go.RowKit Go.Shelf Go.Lib Co

theorem fault_nil (st : Int) : faultN st [] = if st < 1 ∨ 4 < st then 5 else 0 := by
  unfold faultN
  by_cases h : st < 1 ∨ 4 < st
  · rw [if_pos h, if_pos h]
  · rw [if_neg h, if_neg h, if_pos (by simp)]
theorem Els.form {l : List El} {B : Nat} {w : World} {v : Value} (hv : Els B w v l) : ∃ A m d, v = .slice A m d ∧ ElsIn w (.slice A m d) l ∧ l.length = m := by
  obtain ⟨A, m, d, rfl⟩ := own_slice (show World.ownsRow _ _ _ _ _ _ _ from hv)
  have hin := ElsIn.of hv
  refine ⟨A, m, d, rfl, hin, ?_⟩
  rcases hin with ⟨e1, e2⟩ | ⟨g, cap, e2, _⟩
  · cases e2; rw [e1]; rfl
  · injection e2 with _ e3 _; exact e3.symm
theorem ElsIn.at {w : World} {A : Option Addr} {m d : Nat} {l : List El} (h : ElsIn w (.slice A m d) l) {k : Nat} (hk : k < l.length) : ∃ g, A = some ⟨g, 0, none⟩ ∧ w.cell? ⟨g, k * 3, none⟩ = some (.int .i64 ((l[k].1 : Nat) : Int)) ∧ w.cell? ⟨g, k * 3 + 1, none⟩ = some (.int .i64 ((l[k].2.1 : Nat) : Int)) ∧ w.cell? ⟨g, k * 3 + 2, none⟩ = some (.int .i64 ((l[k].2.2 : Nat) : Int)) := by
  rcases h with ⟨h0, _⟩ | ⟨g, cap, hv, hg, hc⟩
  · rw [h0] at hk; exact absurd hk (Nat.not_lt_zero _)
  · injection hv with hv1 _ _
    exact ⟨g, hv1, hc k hk⟩
set_option maxRecDepth 100000 in
set_option maxHeartbeats 40000000 in
theorem lawEl_bad {x : Sx} {a : ByteArray} (sx : x.s.size ≤ 200) (ca : ∀ w, Calls Try.prog 14 #[.string a] w fun e w' => e = .returned (.string x.s) ∧ w' = w) (st : Int) (nu ig uf : Bool) (h0 : faultN st [x] ≠ 0) (w : World) : Calls Try.prog 3 #[.string a, opV st nu ig uf] w (TrueW w) := by
  have cF := fun w' => fault_any (st := st) (nu := nu) (ig := ig) (uf := uf) (w'.alloc _) (strs_new w' [x] 9 1) (by simp)
  simp only [List.map_cons, List.map_nil, List.length_cons, List.length_nil, Nat.reduceAdd] at cF
  have cN := fun w' => fault_any (st := st) (nu := nu) (ig := ig) (uf := uf) (v := .slice none 0 0) (l := []) w' (.inl ⟨rfl, rfl⟩) (by simp)
  have cH := fun w' => check_any st nu ig uf w'
  rw [← fault_nil] at cH
  generalize faultN st [] = cv at *
  have cE := fun w' => elements_any x.str st nu ig uf w'
  rw [err_one (by omega)] at cE
  have cO := fun w' => options_any st nu ig uf w'
  have o1 := ObjAt.new w #[.int .i64 st, .bool nu, .bool ig, .bool uf] 23
  have hB : Below w.heap.size w (w.alloc (.cells #[.int .i64 st, .bool nu, .bool ig, .bool uf] 23)) := (Below.refl _ w).alloc (Nat.le_refl _) _
  generalize faultN st [x] = f at *
  unfold opV at *
  have CF := Go.Lib.hid cF
  have CN := Go.Lib.hid cN
  have CH := Go.Lib.hid cH
  have CE := Go.Lib.hid cE
  have CO := Go.Lib.hid cO
  clear cF cN cH cE cO
  have z0_0 := o1.o0
  have z1_0 := o1.o1
  have z2_0 := o1.o2
  have z3_0 := o1.o3
  go_enter Try.func3, Try.ntmps3
  go_wp2_with fail
  generalize w.alloc (.cells #[.int .i64 st, .bool nu, .bool ig, .bool uf] 23) = W at *
  refine (ca W).mono ?_
  rintro e W ⟨rfl, rfl⟩
  clear ca
  go_wp2_with fail
  refine (CE.out W).mono ?_
  rintro e w1 ⟨ve, rfl, hv0, hv1, k1⟩
  have q1 := o1.below k1
  have hB1 := hB.trans (k1.mono hB.size)
  clear z0_0 z1_0 z2_0 z3_0 o1 hB
  obtain rfl := hv0 h0
  clear hv0 hv1 k1
  have q2 : ObjAt w1.drew w.heap.size #[.int .i64 st, .bool nu, .bool ig, .bool uf] 23 := q1
  have hs1 := hB1.size
  go_wp2_with fail
  go_region_held3 (fun w' => w'.cell? ⟨w.heap.size, 0, none⟩ = some (.int .i64 st) ∧ w'.cell? ⟨w.heap.size, 1, none⟩ = some (.bool nu) ∧ w'.cell? ⟨w.heap.size, 2, none⟩ = some (.bool ig) ∧ w'.cell? ⟨w.heap.size, 3, none⟩ = some (.bool uf))
    (first
      | exact ⟨q5.o0, q5.o1, q5.o2, q5.o3⟩
      | exact ⟨q4.o0, q4.o1, q4.o2, q4.o3⟩
      | exact ⟨q3.o0, q3.o1, q3.o2, q3.o3⟩
      | exact ⟨q2.o0, q2.o1, q2.o2, q2.o3⟩
      | go_keep)
    (first
      | (go_at_call 16; (with_reducible refine (known_any _).mono ?_); rintro e w3 ⟨rfl, k3⟩; have q3 := q2.below k3)
      | (go_at_call 17; (with_reducible refine (CH.out _).mono ?_); rintro e w5 ⟨rfl, k5⟩; have q5 := q4.below k5)
      | (go_at_call 18; (with_reducible refine (CN.out _).mono ?_); rintro e w5 ⟨rfl, k5⟩; have q5 := q4.below k5)
      | (go_at_call 17; (with_reducible refine (CH.out _).mono ?_); rintro e w4 ⟨rfl, k4⟩; have q4 := q3.below k4)
      | (go_at_call 18; (with_reducible refine (CN.out _).mono ?_); rintro e w4 ⟨rfl, k4⟩; have q4 := q3.below k4)
      | fail)
  all_goals
    have k15 : Below w1.heap.size w1 w5 := (((Below.refl w1.heap.size w1).drew.trans k3).trans (k4.mono k3.size)).trans (k5.mono (Nat.le_trans k3.size k4.size))
    have hB5 := hB1.trans (k15.mono hs1)
    clear q1 q2 q3 q4 hB1 hs1 k3 k4 k5 k15
    have z0_5 := q5.o0
    have z1_5 := q5.o1
    have z2_5 := q5.o2
    have z3_5 := q5.o3
    go_wp2_with fail
    refine (CF.out w5).mono ?_
    rintro e w6 ⟨rfl, kk6⟩
    have k6 : Below w5.heap.size w5 w6 := ((Below.refl _ w5).alloc (Nat.le_refl _) _).trans (kk6.mono (by simp))
    have q6 := q5.below k6
    have hB6 := hB5.trans (k6.mono hB5.size)
    clear z0_5 z1_5 z2_5 z3_5 q5 hB5 k6 kk6
    have z0_6 := q6.o0
    have z1_6 := q6.o1
    have z2_6 := q6.o2
    have z3_6 := q6.o3
    have HB := Go.Lib.hid hB6
    go_wp2
    go_ret
    exact ⟨rfl, HB.out⟩
set_option maxRecDepth 100000 in
set_option maxHeartbeats 40000000 in
theorem lawEl_good {x : Sx} {a : ByteArray} (sx : x.s.size ≤ 200) (ca : ∀ w, Calls Try.prog 14 #[.string a] w fun e w' => e = .returned (.string x.s) ∧ w' = w) (st : Int) (nu ig uf : Bool) (h0 : faultN st [x] = 0) (w : World) : Calls Try.prog 3 #[.string a, opV st nu ig uf] w (TrueW w) := by
  have cF := fun w' => fault_any (st := st) (nu := nu) (ig := ig) (uf := uf) (w'.alloc _) (strs_new w' [x] 9 1) (by simp)
  simp only [List.map_cons, List.map_nil, List.length_cons, List.length_nil, Nat.reduceAdd] at cF
  have cN := fun w' => fault_any (st := st) (nu := nu) (ig := ig) (uf := uf) (v := .slice none 0 0) (l := []) w' (.inl ⟨rfl, rfl⟩) (by simp)
  have cH := fun w' => check_any st nu ig uf w'
  rw [← fault_nil] at cH
  generalize faultN st [] = cv at *
  have cE := fun w' => elements_any x.str st nu ig uf w'
  rw [err_one (by omega)] at cE
  have cO := fun w' => options_any st nu ig uf w'
  have o1 := ObjAt.new w #[.int .i64 st, .bool nu, .bool ig, .bool uf] 23
  have hB : Below w.heap.size w (w.alloc (.cells #[.int .i64 st, .bool nu, .bool ig, .bool uf] 23)) := (Below.refl _ w).alloc (Nat.le_refl _) _
  have hz := faultN_zero h0
  have hx0 : x.bad = [] := hz.2 x (by simp)
  have hsx := x.str
  rw [hx0] at hsx
  have cR := fun w' => relements_any hsx (by omega) st nu ig uf w'
  have hlx : (elems nu (upN uf) ig x.P).length ≤ 10000 := by have := elems_len nu ig (upN uf) x.P; have := pts_len x.str; omega
  rw [h0] at cF cE
  generalize elems nu (upN uf) ig x.P = ex at *
  unfold opV at *
  have CR := Go.Lib.hid cR
  clear cR hz h0 hsx
  have CF := Go.Lib.hid cF
  have CN := Go.Lib.hid cN
  have CH := Go.Lib.hid cH
  have CE := Go.Lib.hid cE
  have CO := Go.Lib.hid cO
  clear cF cN cH cE cO
  have z0_0 := o1.o0
  have z1_0 := o1.o1
  have z2_0 := o1.o2
  have z3_0 := o1.o3
  go_enter Try.func3, Try.ntmps3
  go_wp2_with fail
  generalize w.alloc (.cells #[.int .i64 st, .bool nu, .bool ig, .bool uf] 23) = W at *
  refine (ca W).mono ?_
  rintro e W ⟨rfl, rfl⟩
  clear ca
  go_wp2_with fail
  refine (CE.out W).mono ?_
  rintro e w1 ⟨ve, rfl, hv0, hv1, k1⟩
  have q1 := o1.below k1
  have hB1 := hB.trans (k1.mono hB.size)
  clear z0_0 z1_0 z2_0 z3_0 o1 hB
  have he_0 := hv1 rfl
  clear hv0 hv1 k1
  have q2 : ObjAt w1.drew w.heap.size #[.int .i64 st, .bool nu, .bool ig, .bool uf] 23 := q1
  have hs1 := hB1.size
  go_wp2_with fail
  go_region_held3 (fun w' => w'.cell? ⟨w.heap.size, 0, none⟩ = some (.int .i64 st) ∧ w'.cell? ⟨w.heap.size, 1, none⟩ = some (.bool nu) ∧ w'.cell? ⟨w.heap.size, 2, none⟩ = some (.bool ig) ∧ w'.cell? ⟨w.heap.size, 3, none⟩ = some (.bool uf))
    (first
      | exact ⟨q5.o0, q5.o1, q5.o2, q5.o3⟩
      | exact ⟨q4.o0, q4.o1, q4.o2, q4.o3⟩
      | exact ⟨q3.o0, q3.o1, q3.o2, q3.o3⟩
      | exact ⟨q2.o0, q2.o1, q2.o2, q2.o3⟩
      | go_keep)
    (first
      | (go_at_call 16; (with_reducible refine (known_any _).mono ?_); rintro e w3 ⟨rfl, k3⟩; have q3 := q2.below k3)
      | (go_at_call 17; (with_reducible refine (CH.out _).mono ?_); rintro e w5 ⟨rfl, k5⟩; have q5 := q4.below k5)
      | (go_at_call 18; (with_reducible refine (CN.out _).mono ?_); rintro e w5 ⟨rfl, k5⟩; have q5 := q4.below k5)
      | (go_at_call 17; (with_reducible refine (CH.out _).mono ?_); rintro e w4 ⟨rfl, k4⟩; have q4 := q3.below k4)
      | (go_at_call 18; (with_reducible refine (CN.out _).mono ?_); rintro e w4 ⟨rfl, k4⟩; have q4 := q3.below k4)
      | fail)
  all_goals
    have k15 : Below w1.heap.size w1 w5 := (((Below.refl w1.heap.size w1).drew.trans k3).trans (k4.mono k3.size)).trans (k5.mono (Nat.le_trans k3.size k4.size))
    have hB5 := hB1.trans (k15.mono hs1)
    have he_5 := Els.below he_0 k15
    clear q1 q2 q3 q4 hB1 hs1 k3 k4 k5 k15 he_0
    have z0_5 := q5.o0
    have z1_5 := q5.o1
    have z2_5 := q5.o2
    have z3_5 := q5.o3
    go_wp2_with fail
    refine (CF.out w5).mono ?_
    rintro e w6 ⟨rfl, kk6⟩
    have k6 : Below w5.heap.size w5 w6 := ((Below.refl _ w5).alloc (Nat.le_refl _) _).trans (kk6.mono (by simp))
    have q6 := q5.below k6
    have hB6 := hB5.trans (k6.mono hB5.size)
    have he_6 := he_5.below k6
    clear z0_5 z1_5 z2_5 z3_5 q5 hB5 k6 kk6 he_5
    have z0_6 := q6.o0
    have z1_6 := q6.o1
    have z2_6 := q6.o2
    have z3_6 := q6.o3
    go_wp2_with fail
    refine (CO.out w6).mono ?_
    rintro e w7 ⟨rfl, k7⟩
    have q7 := q6.below k7
    have hB7 := hB6.trans (k7.mono hB6.size)
    have he_7 := he_6.below k7
    clear z0_6 z1_6 z2_6 z3_6 q6 hB6 k7 he_6
    have z0_7 := q7.o0
    have z1_7 := q7.o1
    have z2_7 := q7.o2
    have z3_7 := q7.o3
    go_wp2_with fail
    refine (CR.out w7).mono ?_
    intro e w8 h8
    obtain ⟨A2, m2, d2, rfl, i2, l2, k8⟩ := h8.form
    have he_8 := Els.below he_7 k8
    have hB8 := hB7.trans (k8.mono hB7.size)
    obtain ⟨A1, m1, d1, rfl, i1, l1⟩ := he_8.form
    clear he_7 he_8 hB7 k8 q7 z0_7 z1_7 z2_7 z3_7
    obtain rfl : m1 = m2 := by omega
    have I1 := Go.Lib.hid i1
    have I2 := Go.Lib.hid i2
    have L1 := Go.Lib.hid l1
    have hm : m1 ≤ 10000 := by omega
    clear i1 i2 l1 l2
    go_wp2_with fail
    go_loopw [9] (fun iv wr => ∃ k : Nat, k ≤ m1 ∧ iv = .int .i64 (k : Nat) ∧ Below w8.heap.size w8 wr) (fun iv _ => m1 - (RowKit.intOf iv).toNat)
    case atStart => exact ⟨0, Nat.zero_le _, rfl, Below.refl _ _⟩
    case round =>
      obtain ⟨k, hk, rfl, hbk⟩ := hrel
      by_cases hlt : k < m1
      · have hkl : k < ex.length := by rw [L1.out]; exact hlt
        obtain ⟨g1, rfl, a0, a1, a2⟩ := (I1.out.below hbk).at hkl
        obtain ⟨g2, rfl, b0, b1, b2⟩ := (I2.out.below hbk).at hkl
        have j0 : (0 : Int) ≤ (k : Int) := by omega
        have j1 : (k : Int) < (m1 : Int) := by omega
        generalize ex[k] = y at *
        go_wp2_with fail
        go_quiet (fail)
        have hbq : Below w8.heap.size w8 (wr.drewN nq) := hbk.trans (below_drewN _ _ _)
        clear hbk a0 a1 a2 b0 b1 b2
        go_wp2
        go_roundw
        case rel => exact ⟨k + 1, by omega, by go_num, hbq⟩
        case measure => simp [RowKit.intOf]; omega
      · have j1 : ¬ (k : Int) < (m1 : Int) := by omega
        have HB := Go.Lib.hid (hB8.trans (hbk.mono hB8.size))
        go_wp2
        go_ret
        exact ⟨rfl, HB.out⟩
theorem law_elements {w : World} (a : ByteArray) (ha : a.size ≤ maxLen) (st : Int) (nu ig uf : Bool) : Calls Try.prog 3 #[.string a, opV st nu ig uf] w (TrueW w) := by
  obtain ⟨x, sx, cx⟩ := cut_x a ha
  by_cases h : faultN st [x] = 0
  · exact lawEl_good sx cx st nu ig uf h w
  · exact lawEl_bad sx cx st nu ig uf h w
end Go.Proofs.Ytknbglcmjggkjaa
