/- Layer 6: the law of strengths (7). -/
import Derived.Test.YtknbglcmjggkjaaK3
import Derived.Laws.Rows
namespace Go.Proofs.Ytknbglcmjggkjaa
open Go.RowKit Go.Shelf Go.Lib Co

theorem ObjAt.set0 {W : World} {b : Nat} {t : TypeId} {p q r s : Value} (h : ObjAt W b #[p, q, r, s] t) (u : Value) : ObjAt (W.setCell ⟨b, 0, none⟩ u) b #[u, q, r, s] t :=
  heap_setCell_same W b 0 #[p, q, r, s] t u h
/-- The comparison with the strength k; 0 for 0. -/
def vS (nu ig uf : Bool) (x y : Sx) (k : Nat) : Int := if k = 0 then 0 else cmpX (k : Nat) nu ig uf x y
theorem vS_step {nu ig uf : Bool} {x y : Sx} (sx : x.s.size ≤ 4096) (sy : y.s.size ≤ 4096) {j : Nat} (h : j ≤ 3) (hne : ¬ vS nu ig uf x y j = 0) : vS nu ig uf x y (j + 1) = vS nu ig uf x y j := by
  unfold vS at hne ⊢
  by_cases h0 : j = 0
  · rw [if_pos h0] at hne; exact absurd rfl hne
  · rw [if_neg h0] at hne
    rw [if_neg h0, if_neg (by omega)]
    rw [cmpX_eq sx sy] at hne ⊢
    rw [cmpX_eq sx sy]
    exact cmpK_step h hne
set_option maxRecDepth 100000 in
set_option maxHeartbeats 40000000 in
theorem strengths_in {x y : Sx} {a b : ByteArray} (sx : x.s.size ≤ 200) (sy : y.s.size ≤ 200) (ca : ∀ w, Calls Try.prog 14 #[.string a] w fun e w' => e = .returned (.string x.s) ∧ w' = w)
    (cb : ∀ w, Calls Try.prog 14 #[.string b] w fun e w' => e = .returned (.string y.s) ∧ w' = w) (st : Int) (nu ig uf : Bool) (w : World) : Calls Try.prog 7 #[.string a, .string b, opV st nu ig uf] w (TrueW w) := by
  have cF := fun w' => fault_any (st := 1) (nu := nu) (ig := ig) (uf := uf) (w'.alloc _) (strs_new w' [x, y] 9 2) (by simp)
  simp only [List.map_cons, List.map_nil, List.length_cons, List.length_nil, Nat.reduceAdd] at cF
  have cC := fun (h : faultN 1 [x, y] = 0) (k : Nat) (h1 : 1 ≤ k) (h4 : k ≤ 4) w' => compare_ok (st := (k : Nat)) nu ig uf ((faultN_zero h).2 x (by simp)) ((faultN_zero h).2 y (by simp)) (by omega) (by omega) (by omega) (by omega) w'
  have hst := Go.Lib.hid (fun j h hne => vS_step (nu := nu) (ig := ig) (uf := uf) (x := x) (y := y) (by omega) (by omega) (j := j) h hne)
  have hvk := Go.Lib.hid (fun k (h : 1 ≤ k) => show compareBytes (keyX (k : Nat) nu ig uf x) (keyX (k : Nat) nu ig uf y) = vS nu ig uf x y k by unfold vS; rw [if_neg (by omega)]; rfl)
  have o1 := ObjAt.new w #[.int .i64 st, .bool nu, .bool ig, .bool uf] 23
  have hB : Below w.heap.size w (w.alloc (.cells #[.int .i64 st, .bool nu, .bool ig, .bool uf] 23)) := (Below.refl _ w).alloc (Nat.le_refl _) _
  have z0 := o1.o0
  have f0 := o1.frozen 0
  unfold opV at *
  have CC := Go.Lib.hid cC
  have CF := Go.Lib.hid cF
  clear cC cF
  go_enter Try.func7, Try.ntmps7
  go_wp2_with fail
  generalize w.alloc (.cells #[.int .i64 st, .bool nu, .bool ig, .bool uf] 23) = W at *
  refine (ca W).mono ?_
  rintro e W ⟨rfl, rfl⟩
  go_wp2_with (go_at_call 14; (with_reducible refine (cb _).mono ?_); rintro e W ⟨rfl, rfl⟩)
  have q2 := o1.set0 (.int .i64 1)
  have hB2 := hB.setCell (p := ⟨w.heap.size, 0, none⟩) (Nat.le_refl _) (.int .i64 1)
  generalize W.setCell ⟨w.heap.size, 0, none⟩ (.int .i64 1) = W2 at *
  have hs2 := hB2.size
  clear o1 z0 f0 hB ca cb
  refine (known_any _).mono ?_
  rintro e w1 ⟨rfl, k1⟩
  have q3 := q2.below k1
  have hB3 := hB2.trans (k1.mono hs2)
  clear q2 hB2 k1 hs2
  have z0 := q3.o0
  have z1 := q3.o1
  have z2 := q3.o2
  have z3 := q3.o3
  go_wp2_with fail
  refine (CF.out w1).mono ?_
  rintro e w2 ⟨rfl, k2⟩
  have k2' : Below w1.heap.size w1 w2 := ((Below.refl _ w1).alloc (Nat.le_refl _) _).trans (k2.mono (by simp))
  have q4 := q3.below k2'
  have hB4 := hB3.trans (k2'.mono hB3.size)
  clear z0 z1 z2 z3 k2 k2' q3 hB3
  by_cases h0 : faultN 1 [x, y] = 0
  · have H00 := Go.Lib.hid h0
    rw [h0]
    clear h0
    go_wp2_with fail
    go_loopw [7, 8] (fun lv kv wr => ∃ (j k : Nat) (s : Int), Hid (k = j + 1) ∧ k ≤ 5 ∧ kv = .int .i64 (k : Nat) ∧ lv = .int .i64 (vS nu ig uf x y j) ∧ ObjAt wr w.heap.size #[.int .i64 s, .bool nu, .bool ig, .bool uf] 23 ∧ Below w.heap.size w wr) (fun _ kv _ => 5 - (RowKit.intOf kv).toNat)
    case atStart => exact ⟨0, 1, 1, Go.Lib.hid rfl, by omega, rfl, rfl, q4, hB4⟩
    case round =>
      clear q4 hB4
      obtain ⟨j, k, s, hkj, hk5, rfl, rfl, o5, hB5⟩ := hrel
      by_cases hk : k ≤ 4
      · have z0 := o5.o0
        have f0 := o5.frozen 0
        have HO := Go.Lib.hid (o5.set0 (.int .i64 (k : Nat)))
        have HB := Go.Lib.hid (hB5.setCell (p := ⟨w.heap.size, 0, none⟩) (Nat.le_refl _) (.int .i64 (k : Nat)))
        have z0' := HO.out.o0
        have z1' := HO.out.o1
        have z2' := HO.out.o2
        have z3' := HO.out.o3
        have cK := fun w' => CC.out H00.out k (by have := hkj.out; omega) hk w'
        rw [hvk.out k (by have := hkj.out; omega)] at cK
        have CK := Go.Lib.hid cK
        clear cK o5 hB5
        by_cases hv : vS nu ig uf x y j = 0
        · rw [hv]
          clear hv
          go_wp2_with (go_at_call 23; (with_reducible refine (CK.out _).mono ?_); rintro e w7 ⟨rfl, k7⟩)
          have o7 := HO.out.below k7
          have hB7 := HB.out.trans (k7.mono HB.out.size)
          go_roundw
          case rel => exact ⟨k, k + 1, _, Go.Lib.hid rfl, by omega, by go_num, rfl, o7, hB7⟩
          case measure => simp [RowKit.intOf]; omega
        · have hs := hst.out j (by have := hkj.out; omega) hv
          rw [← hkj.out] at hs
          have HS := Go.Lib.hid hs
          have cK := CK.out
          rw [hs] at cK
          clear hs CK
          have CK := Go.Lib.hid cK
          clear cK
          generalize vS nu ig uf x y j = q at *
          go_wp2_with (go_at_call 23; (with_reducible refine (CK.out _).mono ?_); rintro e w7 ⟨rfl, k7⟩)
          have o7 := HO.out.below k7
          have hB7 := HB.out.trans (k7.mono HB.out.size)
          go_roundw
          case rel => exact ⟨k, k + 1, _, Go.Lib.hid rfl, by omega, by go_num, by rw [HS.out], o7, hB7⟩
          case measure => simp [RowKit.intOf]; omega
      · have hk' : ¬ (k : Int) ≤ 4 := by omega
        go_wp2
        go_ret
        exact ⟨rfl, hB5⟩
  · go_wp2_with fail
    refine (known_any _).mono ?_
    rintro e w5 ⟨rfl, k5⟩
    have HB5 := Go.Lib.hid (hB4.trans (k5.mono hB4.size))
    go_wp2
    go_ret
    exact ⟨rfl, HB5.out⟩
theorem law_strengths {w : World} (a : ByteArray) (ha : a.size ≤ maxLen) (b : ByteArray) (hb : b.size ≤ maxLen) (st : Int) (nu ig uf : Bool) : Calls Try.prog 7 #[.string a, .string b, opV st nu ig uf] w (TrueW w) := by
  obtain ⟨x, sx, cx⟩ := cut_x a ha
  obtain ⟨y, sy, cy⟩ := cut_x b hb
  exact strengths_in sx sy cx cy st nu ig uf w
end Go.Proofs.Ytknbglcmjggkjaa
