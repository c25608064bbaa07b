/- Layer 6: the law of marks (9). -/
import Derived.Test.YtknbglcmjggkjaaK7
import Derived.Test.YtknbglcmjggkjaaK5
import Derived.Test.YtknbglcmjggkjaaLS
namespace Go.Proofs.Ytknbglcmjggkjaa
open Go.RowKit Go.Shelf Go.Lib Co

theorem cmpX_of {s s' : ByteArray} {P P' : List Nat} (hs : Cp.Str s P []) (hs' : Cp.Str s' P' []) (z : s.size ≤ 4096) (z' : s'.size ≤ 4096) (st : Nat) (h1 : 1 ≤ st) (h4 : st ≤ 4) (v : Int) (hv : cmpK st s.data.toList s'.data.toList (elems false 3 false P) (elems false 3 false P') = v) (w : World) :
    Calls Try.prog 23 #[.string s, .string s', opV (st : Nat) false false false] w fun e w' => e = .returned (.tuple #[.int .i64 v, .int .i64 0]) ∧ Below w.heap.size w w' := by
  have z1 : s.size ≤ 100000 := by omega
  have z2 : s'.size ≤ 100000 := by omega
  refine (compare_ok (x := ⟨_, _, _, hs, z1⟩) (y := ⟨_, _, _, hs', z2⟩) (st := (st : Nat)) false false false rfl rfl (by omega) (by omega) z z' w).mono ?_
  rintro e w' ⟨rfl, hb⟩
  refine ⟨?_, hb⟩
  have e1 := cmpX_eq (st := (st : Nat)) (nu := false) (ig := false) (uf := false) (x := ⟨_, _, _, hs, z1⟩) (y := ⟨_, _, _, hs', z2⟩) z z'
  unfold cmpX at e1
  rw [e1]
  exact congrArg (fun v => Ending.returned (.tuple #[.int .i64 v, .int .i64 0])) hv
/-- The three comparisons. -/
structure MkC (S T O D B : ByteArray) : Prop where
  c3 : ∀ (k : Nat) (_ : 1 ≤ k) (_ : k ≤ 3) (w : World), Calls Try.prog 23 #[.string (S ++ O ++ T), .string (S ++ D ++ T), .agg #[.int .i64 (k : Nat), .bool false, .bool false, .bool false]] w fun e w' => e = .returned (.tuple #[.int .i64 0, .int .i64 0]) ∧ Below w.heap.size w w'
  c2 : ∀ w : World, Calls Try.prog 23 #[.string (S ++ O), .string (S ++ B), .agg #[.int .i64 2, .bool false, .bool false, .bool false]] w fun e w' => e = .returned (.tuple #[.int .i64 1, .int .i64 0]) ∧ Below w.heap.size w w'
  c1 : ∀ w : World, Calls Try.prog 23 #[.string (S ++ O ++ T), .string (S ++ B ++ T), .agg #[.int .i64 1, .bool false, .bool false, .bool false]] w fun e w' => e = .returned (.tuple #[.int .i64 0, .int .i64 0]) ∧ Below w.heap.size w w'
theorem MkC.of {S T O D B : ByteArray} {P Q : List Nat} (hS : Cp.Str S P []) (hT : Cp.Str T Q []) (zS : S.size ≤ 200) (zT : T.size ≤ 200) {q : Nat × Nat × Nat} (hq : q ∈ mkL) (hO : Cp.Str O [q.1] []) (hD : Cp.Str D [q.2.1, q.2.2] []) (hB : Cp.Str B [q.2.1] []) (zO : O.size ≤ 8) (zD : D.size ≤ 8) (zB : B.size ≤ 8) : MkC S T O D B := by
  have a0 : (S ++ O).size ≤ 208 := by rw [ByteArray.size_append]; omega
  have a1 : (S ++ D).size ≤ 208 := by rw [ByteArray.size_append]; omega
  have a2 : (S ++ B).size ≤ 208 := by rw [ByteArray.size_append]; omega
  have b0 : (S ++ O ++ T).size ≤ 408 := by rw [ByteArray.size_append]; omega
  have b1 : (S ++ D ++ T).size ≤ 408 := by rw [ByteArray.size_append]; omega
  have b2 : (S ++ B ++ T).size ≤ 408 := by rw [ByteArray.size_append]; omega
  have hSO := str_app hS hO (by omega)
  have hSD := str_app hS hD (by omega)
  have hSB := str_app hS hB (by omega)
  have hSOT := str_app hSO hT (by omega)
  have hSDT := str_app hSD hT (by omega)
  have hSBT := str_app hSB hT (by omega)
  obtain ⟨p, t, m, hp, hm, e1, e2⟩ := mk_marks q hq
  have e3 := mk_two q hq
  refine ⟨fun k h1 h3 w => ?_, fun w => ?_, fun w => ?_⟩
  · refine cmpX_of hSOT hSDT (by omega) (by omega) k h1 (by omega) 0 ?_ w
    rw [elems_fapp, elems_fapp, elems_fapp, elems_fapp, e3, cmpK_self, if_neg (by omega)]
  · refine cmpX_of hSO hSB (by omega) (by omega) 2 (by decide) (by decide) 1 ?_ w
    rw [elems_fapp, elems_fapp, e1, e2]
    exact cmp_mark2 _ _ _ _ _ _ hp
  · refine cmpX_of hSOT hSBT (by omega) (by omega) 1 (by decide) (by decide) 0 ?_ w
    rw [elems_fapp, elems_fapp, elems_fapp, elems_fapp, e1, e2]
    exact cmp_mark1 _ _ _ _ _ _ _
set_option maxRecDepth 100000 in
set_option maxHeartbeats 8000000 in
theorem marks_0 {x y : Sx} {a b : ByteArray} (sx : x.s.size ≤ 200) (sy : y.s.size ≤ 200) (ca : ∀ w, Calls Try.prog 14 #[.string a] w fun e w' => e = .returned (.string x.s) ∧ w' = w)
    (cb : ∀ w, Calls Try.prog 14 #[.string b] w fun e w' => e = .returned (.string y.s) ∧ w' = w) (c : Nat) (hr : c % 8 = 0) (h0 : faultN 1 [x, y] = 0) (w : World) : Calls Try.prog 9 #[.string a, .string b, .int .u8 (c : Nat)] w (TrueW w) := by
  have hz := faultN_zero h0
  have hx := x.str
  rw [hz.2 x (by simp)] at hx
  have hy := y.str
  rw [hz.2 y (by simp)] at hy
  have MC := MkC.of hx hy sx sy (q := (192, 65, 768)) (by unfold mkL; simp) (O := { data := #[195, 128] }) (D := { data := #[65, 204, 128] }) (B := ({ data := #[65, 204, 128] } : ByteArray).extract 0 1) (str_closed _ _ (by kernel_rfl) (by kernel_rfl) (by decide)) (str_closed _ _ (by kernel_rfl) (by kernel_rfl) (by decide)) (str_closed _ _ (by kernel_rfl) (by kernel_rfl) (by decide)) (by decide) (by decide) (by decide)
  have cF := fun w' => fault_any (st := 1) (nu := false) (ig := false) (uf := false) (w'.alloc _) (strs_new w' [x, y] 9 2) (by simp)
  simp only [List.map_cons, List.map_nil, List.length_cons, List.length_nil, Nat.reduceAdd] at cF
  rw [h0] at cF
  unfold opV at cF
  have CF := Go.Lib.hid cF
  have hri : (c : Int) % 8 = 0 := by omega
  have C3 := Go.Lib.hid MC.c3
  have C2 := Go.Lib.hid MC.c2
  have C1 := Go.Lib.hid MC.c1
  have hB1 : Below w.heap.size w (w.alloc (.cells #[.string { data := #[195, 128] }, .string { data := #[195, 169] }, .string { data := #[195, 143] }, .string { data := #[195, 177] }, .string { data := #[195, 182] }, .string { data := #[195, 191] }, .string { data := #[195, 135] }, .string { data := #[195, 152] }] 9)) := (Below.refl _ w).alloc (Nat.le_refl _) _
  clear cF MC hx hy hz h0 hr
  go_enter Try.func9, Try.ntmps9
  go_wp2_with (first
    | (go_at_call 14; (with_reducible refine (ca _).mono ?_); rintro e w ⟨rfl, rfl⟩)
    | (go_at_call 14; (with_reducible refine (cb _).mono ?_); rintro e w ⟨rfl, rfl⟩))
  have hB2 := hB1.alloc hB1.size (.cells #[.string { data := #[65, 204, 128] }, .string { data := #[101, 204, 129] }, .string { data := #[73, 204, 136] }, .string { data := #[110, 204, 131] }, .string { data := #[111, 204, 136] }, .string { data := #[121, 204, 136] }, .string { data := #[67, 204, 167] }, .string { data := #[79, 204, 184] }] 9)
  generalize (w.alloc (.cells #[.string { data := #[195, 128] }, .string { data := #[195, 169] }, .string { data := #[195, 143] }, .string { data := #[195, 177] }, .string { data := #[195, 182] }, .string { data := #[195, 191] }, .string { data := #[195, 135] }, .string { data := #[195, 152] }] 9)).alloc (.cells #[.string { data := #[65, 204, 128] }, .string { data := #[101, 204, 129] }, .string { data := #[73, 204, 136] }, .string { data := #[110, 204, 131] }, .string { data := #[111, 204, 136] }, .string { data := #[121, 204, 136] }, .string { data := #[67, 204, 167] }, .string { data := #[79, 204, 184] }] 9) = W at *
  clear hB1 ca cb
  have zB : (({ data := #[65, 204, 128] } : ByteArray).extract 0 1).size ≤ 8 := by decide
  have zD : ({ data := #[65, 204, 128] } : ByteArray).size ≤ 8 := by decide
  have zO : ({ data := #[195, 128] } : ByteArray).size ≤ 8 := by decide
  generalize ({ data := #[65, 204, 128] } : ByteArray).extract 0 1 = B at *
  generalize ({ data := #[65, 204, 128] } : ByteArray) = D at *
  generalize ({ data := #[195, 128] } : ByteArray) = O at *
  refine (known_any W).mono ?_
  rintro e w1 ⟨rfl, k1⟩
  have hB3 := hB2.trans (k1.mono hB2.size)
  clear hB2 k1
  go_wp2_with fail
  refine (CF.out w1).mono ?_
  rintro e w2 ⟨rfl, kk⟩
  have k2 : Below w1.heap.size w1 w2 := ((Below.refl _ w1).alloc (Nat.le_refl _) _).trans (kk.mono (by simp))
  have hB4 := hB3.trans (k2.mono hB3.size)
  clear hB3 k2 kk
  go_wp2_with fail
  go_loopw [10] (fun kv wr => ∃ k : Nat, 1 ≤ k ∧ k ≤ 4 ∧ kv = .int .i64 (k : Nat) ∧ Below w.heap.size w wr) (fun kv _ => 4 - (RowKit.intOf kv).toNat)
  case atStart => exact ⟨1, by omega, by omega, rfl, hB4⟩
  case round =>
    clear hB4
    obtain ⟨k, h1, h4, rfl, hbk⟩ := hrel
    by_cases h3 : k ≤ 3
    · have h3i : (k : Int) ≤ 3 := by omega
      go_wp2_with (go_at_call 23; (with_reducible refine (C3.out k h1 h3 _).mono ?_); rintro e w5 ⟨rfl, k5⟩)
      have hb5 := hbk.trans (k5.mono hbk.size)
      go_roundw
      case rel => exact ⟨k + 1, by omega, by omega, by go_num, hb5⟩
      case measure => simp [RowKit.intOf]; omega
    · have h3i : ¬ (k : Int) ≤ 3 := by omega
      go_wp2_with fail
      refine (C2.out wr).mono ?_
      rintro e w5 ⟨rfl, k5⟩
      have hb5 := hbk.trans (k5.mono hbk.size)
      clear hbk k5
      go_wp2_with fail
      refine (C1.out w5).mono ?_
      rintro e w6 ⟨rfl, k6⟩
      have HB := Go.Lib.hid (hb5.trans (k6.mono hb5.size))
      clear hb5 k6
      go_wp2
      go_ret
      exact ⟨rfl, HB.out⟩
set_option maxRecDepth 100000 in
set_option maxHeartbeats 8000000 in
theorem marksb_0 {x y : Sx} {a b : ByteArray} (ca : ∀ w, Calls Try.prog 14 #[.string a] w fun e w' => e = .returned (.string x.s) ∧ w' = w)
    (cb : ∀ w, Calls Try.prog 14 #[.string b] w fun e w' => e = .returned (.string y.s) ∧ w' = w) (c : Nat) (hr : c % 8 = 0) (h0 : faultN 1 [x, y] ≠ 0) (w : World) : Calls Try.prog 9 #[.string a, .string b, .int .u8 (c : Nat)] w (TrueW w) := by
  have cF := fun w' => fault_any (st := 1) (nu := false) (ig := false) (uf := false) (w'.alloc _) (strs_new w' [x, y] 9 2) (by simp)
  simp only [List.map_cons, List.map_nil, List.length_cons, List.length_nil, Nat.reduceAdd] at cF
  unfold opV at cF
  have CF := Go.Lib.hid cF
  have hri : (c : Int) % 8 = 0 := by omega
  have hB1 : Below w.heap.size w (w.alloc (.cells #[.string { data := #[195, 128] }, .string { data := #[195, 169] }, .string { data := #[195, 143] }, .string { data := #[195, 177] }, .string { data := #[195, 182] }, .string { data := #[195, 191] }, .string { data := #[195, 135] }, .string { data := #[195, 152] }] 9)) := (Below.refl _ w).alloc (Nat.le_refl _) _
  clear cF hr
  go_enter Try.func9, Try.ntmps9
  go_wp2_with (first
    | (go_at_call 14; (with_reducible refine (ca _).mono ?_); rintro e w ⟨rfl, rfl⟩)
    | (go_at_call 14; (with_reducible refine (cb _).mono ?_); rintro e w ⟨rfl, rfl⟩))
  have hB2 := hB1.alloc hB1.size (.cells #[.string { data := #[65, 204, 128] }, .string { data := #[101, 204, 129] }, .string { data := #[73, 204, 136] }, .string { data := #[110, 204, 131] }, .string { data := #[111, 204, 136] }, .string { data := #[121, 204, 136] }, .string { data := #[67, 204, 167] }, .string { data := #[79, 204, 184] }] 9)
  generalize (w.alloc (.cells #[.string { data := #[195, 128] }, .string { data := #[195, 169] }, .string { data := #[195, 143] }, .string { data := #[195, 177] }, .string { data := #[195, 182] }, .string { data := #[195, 191] }, .string { data := #[195, 135] }, .string { data := #[195, 152] }] 9)).alloc (.cells #[.string { data := #[65, 204, 128] }, .string { data := #[101, 204, 129] }, .string { data := #[73, 204, 136] }, .string { data := #[110, 204, 131] }, .string { data := #[111, 204, 136] }, .string { data := #[121, 204, 136] }, .string { data := #[67, 204, 167] }, .string { data := #[79, 204, 184] }] 9) = W at *
  clear hB1 ca cb
  refine (known_any W).mono ?_
  rintro e w1 ⟨rfl, k1⟩
  have hB3 := hB2.trans (k1.mono hB2.size)
  clear hB2 k1
  go_wp2_with fail
  refine (CF.out w1).mono ?_
  rintro e w2 ⟨rfl, kk⟩
  have k2 : Below w1.heap.size w1 w2 := ((Below.refl _ w1).alloc (Nat.le_refl _) _).trans (kk.mono (by simp))
  have hB4 := hB3.trans (k2.mono hB3.size)
  clear hB3 k2 kk
  generalize faultN 1 [x, y] = f at *
  go_wp2_with fail
  refine (known_any w2).mono ?_
  rintro e w3 ⟨rfl, k3⟩
  have HB := Go.Lib.hid (hB4.trans (k3.mono hB4.size))
  go_wp2
  go_ret
  exact ⟨rfl, HB.out⟩
set_option maxRecDepth 100000 in
set_option maxHeartbeats 8000000 in
theorem marks_1 {x y : Sx} {a b : ByteArray} (sx : x.s.size ≤ 200) (sy : y.s.size ≤ 200) (ca : ∀ w, Calls Try.prog 14 #[.string a] w fun e w' => e = .returned (.string x.s) ∧ w' = w)
    (cb : ∀ w, Calls Try.prog 14 #[.string b] w fun e w' => e = .returned (.string y.s) ∧ w' = w) (c : Nat) (hr : c % 8 = 1) (h0 : faultN 1 [x, y] = 0) (w : World) : Calls Try.prog 9 #[.string a, .string b, .int .u8 (c : Nat)] w (TrueW w) := by
  have hz := faultN_zero h0
  have hx := x.str
  rw [hz.2 x (by simp)] at hx
  have hy := y.str
  rw [hz.2 y (by simp)] at hy
  have MC := MkC.of hx hy sx sy (q := (233, 101, 769)) (by unfold mkL; simp) (O := { data := #[195, 169] }) (D := { data := #[101, 204, 129] }) (B := ({ data := #[101, 204, 129] } : ByteArray).extract 0 1) (str_closed _ _ (by kernel_rfl) (by kernel_rfl) (by decide)) (str_closed _ _ (by kernel_rfl) (by kernel_rfl) (by decide)) (str_closed _ _ (by kernel_rfl) (by kernel_rfl) (by decide)) (by decide) (by decide) (by decide)
  have cF := fun w' => fault_any (st := 1) (nu := false) (ig := false) (uf := false) (w'.alloc _) (strs_new w' [x, y] 9 2) (by simp)
  simp only [List.map_cons, List.map_nil, List.length_cons, List.length_nil, Nat.reduceAdd] at cF
  rw [h0] at cF
  unfold opV at cF
  have CF := Go.Lib.hid cF
  have hri : (c : Int) % 8 = 1 := by omega
  have C3 := Go.Lib.hid MC.c3
  have C2 := Go.Lib.hid MC.c2
  have C1 := Go.Lib.hid MC.c1
  have hB1 : Below w.heap.size w (w.alloc (.cells #[.string { data := #[195, 128] }, .string { data := #[195, 169] }, .string { data := #[195, 143] }, .string { data := #[195, 177] }, .string { data := #[195, 182] }, .string { data := #[195, 191] }, .string { data := #[195, 135] }, .string { data := #[195, 152] }] 9)) := (Below.refl _ w).alloc (Nat.le_refl _) _
  clear cF MC hx hy hz h0 hr
  go_enter Try.func9, Try.ntmps9
  go_wp2_with (first
    | (go_at_call 14; (with_reducible refine (ca _).mono ?_); rintro e w ⟨rfl, rfl⟩)
    | (go_at_call 14; (with_reducible refine (cb _).mono ?_); rintro e w ⟨rfl, rfl⟩))
  have hB2 := hB1.alloc hB1.size (.cells #[.string { data := #[65, 204, 128] }, .string { data := #[101, 204, 129] }, .string { data := #[73, 204, 136] }, .string { data := #[110, 204, 131] }, .string { data := #[111, 204, 136] }, .string { data := #[121, 204, 136] }, .string { data := #[67, 204, 167] }, .string { data := #[79, 204, 184] }] 9)
  generalize (w.alloc (.cells #[.string { data := #[195, 128] }, .string { data := #[195, 169] }, .string { data := #[195, 143] }, .string { data := #[195, 177] }, .string { data := #[195, 182] }, .string { data := #[195, 191] }, .string { data := #[195, 135] }, .string { data := #[195, 152] }] 9)).alloc (.cells #[.string { data := #[65, 204, 128] }, .string { data := #[101, 204, 129] }, .string { data := #[73, 204, 136] }, .string { data := #[110, 204, 131] }, .string { data := #[111, 204, 136] }, .string { data := #[121, 204, 136] }, .string { data := #[67, 204, 167] }, .string { data := #[79, 204, 184] }] 9) = W at *
  clear hB1 ca cb
  have zB : (({ data := #[101, 204, 129] } : ByteArray).extract 0 1).size ≤ 8 := by decide
  have zD : ({ data := #[101, 204, 129] } : ByteArray).size ≤ 8 := by decide
  have zO : ({ data := #[195, 169] } : ByteArray).size ≤ 8 := by decide
  generalize ({ data := #[101, 204, 129] } : ByteArray).extract 0 1 = B at *
  generalize ({ data := #[101, 204, 129] } : ByteArray) = D at *
  generalize ({ data := #[195, 169] } : ByteArray) = O at *
  refine (known_any W).mono ?_
  rintro e w1 ⟨rfl, k1⟩
  have hB3 := hB2.trans (k1.mono hB2.size)
  clear hB2 k1
  go_wp2_with fail
  refine (CF.out w1).mono ?_
  rintro e w2 ⟨rfl, kk⟩
  have k2 : Below w1.heap.size w1 w2 := ((Below.refl _ w1).alloc (Nat.le_refl _) _).trans (kk.mono (by simp))
  have hB4 := hB3.trans (k2.mono hB3.size)
  clear hB3 k2 kk
  go_wp2_with fail
  go_loopw [10] (fun kv wr => ∃ k : Nat, 1 ≤ k ∧ k ≤ 4 ∧ kv = .int .i64 (k : Nat) ∧ Below w.heap.size w wr) (fun kv _ => 4 - (RowKit.intOf kv).toNat)
  case atStart => exact ⟨1, by omega, by omega, rfl, hB4⟩
  case round =>
    clear hB4
    obtain ⟨k, h1, h4, rfl, hbk⟩ := hrel
    by_cases h3 : k ≤ 3
    · have h3i : (k : Int) ≤ 3 := by omega
      go_wp2_with (go_at_call 23; (with_reducible refine (C3.out k h1 h3 _).mono ?_); rintro e w5 ⟨rfl, k5⟩)
      have hb5 := hbk.trans (k5.mono hbk.size)
      go_roundw
      case rel => exact ⟨k + 1, by omega, by omega, by go_num, hb5⟩
      case measure => simp [RowKit.intOf]; omega
    · have h3i : ¬ (k : Int) ≤ 3 := by omega
      go_wp2_with fail
      refine (C2.out wr).mono ?_
      rintro e w5 ⟨rfl, k5⟩
      have hb5 := hbk.trans (k5.mono hbk.size)
      clear hbk k5
      go_wp2_with fail
      refine (C1.out w5).mono ?_
      rintro e w6 ⟨rfl, k6⟩
      have HB := Go.Lib.hid (hb5.trans (k6.mono hb5.size))
      clear hb5 k6
      go_wp2
      go_ret
      exact ⟨rfl, HB.out⟩
set_option maxRecDepth 100000 in
set_option maxHeartbeats 8000000 in
theorem marksb_1 {x y : Sx} {a b : ByteArray} (ca : ∀ w, Calls Try.prog 14 #[.string a] w fun e w' => e = .returned (.string x.s) ∧ w' = w)
    (cb : ∀ w, Calls Try.prog 14 #[.string b] w fun e w' => e = .returned (.string y.s) ∧ w' = w) (c : Nat) (hr : c % 8 = 1) (h0 : faultN 1 [x, y] ≠ 0) (w : World) : Calls Try.prog 9 #[.string a, .string b, .int .u8 (c : Nat)] w (TrueW w) := by
  have cF := fun w' => fault_any (st := 1) (nu := false) (ig := false) (uf := false) (w'.alloc _) (strs_new w' [x, y] 9 2) (by simp)
  simp only [List.map_cons, List.map_nil, List.length_cons, List.length_nil, Nat.reduceAdd] at cF
  unfold opV at cF
  have CF := Go.Lib.hid cF
  have hri : (c : Int) % 8 = 1 := by omega
  have hB1 : Below w.heap.size w (w.alloc (.cells #[.string { data := #[195, 128] }, .string { data := #[195, 169] }, .string { data := #[195, 143] }, .string { data := #[195, 177] }, .string { data := #[195, 182] }, .string { data := #[195, 191] }, .string { data := #[195, 135] }, .string { data := #[195, 152] }] 9)) := (Below.refl _ w).alloc (Nat.le_refl _) _
  clear cF hr
  go_enter Try.func9, Try.ntmps9
  go_wp2_with (first
    | (go_at_call 14; (with_reducible refine (ca _).mono ?_); rintro e w ⟨rfl, rfl⟩)
    | (go_at_call 14; (with_reducible refine (cb _).mono ?_); rintro e w ⟨rfl, rfl⟩))
  have hB2 := hB1.alloc hB1.size (.cells #[.string { data := #[65, 204, 128] }, .string { data := #[101, 204, 129] }, .string { data := #[73, 204, 136] }, .string { data := #[110, 204, 131] }, .string { data := #[111, 204, 136] }, .string { data := #[121, 204, 136] }, .string { data := #[67, 204, 167] }, .string { data := #[79, 204, 184] }] 9)
  generalize (w.alloc (.cells #[.string { data := #[195, 128] }, .string { data := #[195, 169] }, .string { data := #[195, 143] }, .string { data := #[195, 177] }, .string { data := #[195, 182] }, .string { data := #[195, 191] }, .string { data := #[195, 135] }, .string { data := #[195, 152] }] 9)).alloc (.cells #[.string { data := #[65, 204, 128] }, .string { data := #[101, 204, 129] }, .string { data := #[73, 204, 136] }, .string { data := #[110, 204, 131] }, .string { data := #[111, 204, 136] }, .string { data := #[121, 204, 136] }, .string { data := #[67, 204, 167] }, .string { data := #[79, 204, 184] }] 9) = W at *
  clear hB1 ca cb
  refine (known_any W).mono ?_
  rintro e w1 ⟨rfl, k1⟩
  have hB3 := hB2.trans (k1.mono hB2.size)
  clear hB2 k1
  go_wp2_with fail
  refine (CF.out w1).mono ?_
  rintro e w2 ⟨rfl, kk⟩
  have k2 : Below w1.heap.size w1 w2 := ((Below.refl _ w1).alloc (Nat.le_refl _) _).trans (kk.mono (by simp))
  have hB4 := hB3.trans (k2.mono hB3.size)
  clear hB3 k2 kk
  generalize faultN 1 [x, y] = f at *
  go_wp2_with fail
  refine (known_any w2).mono ?_
  rintro e w3 ⟨rfl, k3⟩
  have HB := Go.Lib.hid (hB4.trans (k3.mono hB4.size))
  go_wp2
  go_ret
  exact ⟨rfl, HB.out⟩
set_option maxRecDepth 100000 in
set_option maxHeartbeats 8000000 in
theorem marks_2 {x y : Sx} {a b : ByteArray} (sx : x.s.size ≤ 200) (sy : y.s.size ≤ 200) (ca : ∀ w, Calls Try.prog 14 #[.string a] w fun e w' => e = .returned (.string x.s) ∧ w' = w)
    (cb : ∀ w, Calls Try.prog 14 #[.string b] w fun e w' => e = .returned (.string y.s) ∧ w' = w) (c : Nat) (hr : c % 8 = 2) (h0 : faultN 1 [x, y] = 0) (w : World) : Calls Try.prog 9 #[.string a, .string b, .int .u8 (c : Nat)] w (TrueW w) := by
  have hz := faultN_zero h0
  have hx := x.str
  rw [hz.2 x (by simp)] at hx
  have hy := y.str
  rw [hz.2 y (by simp)] at hy
  have MC := MkC.of hx hy sx sy (q := (207, 73, 776)) (by unfold mkL; simp) (O := { data := #[195, 143] }) (D := { data := #[73, 204, 136] }) (B := ({ data := #[73, 204, 136] } : ByteArray).extract 0 1) (str_closed _ _ (by kernel_rfl) (by kernel_rfl) (by decide)) (str_closed _ _ (by kernel_rfl) (by kernel_rfl) (by decide)) (str_closed _ _ (by kernel_rfl) (by kernel_rfl) (by decide)) (by decide) (by decide) (by decide)
  have cF := fun w' => fault_any (st := 1) (nu := false) (ig := false) (uf := false) (w'.alloc _) (strs_new w' [x, y] 9 2) (by simp)
  simp only [List.map_cons, List.map_nil, List.length_cons, List.length_nil, Nat.reduceAdd] at cF
  rw [h0] at cF
  unfold opV at cF
  have CF := Go.Lib.hid cF
  have hri : (c : Int) % 8 = 2 := by omega
  have C3 := Go.Lib.hid MC.c3
  have C2 := Go.Lib.hid MC.c2
  have C1 := Go.Lib.hid MC.c1
  have hB1 : Below w.heap.size w (w.alloc (.cells #[.string { data := #[195, 128] }, .string { data := #[195, 169] }, .string { data := #[195, 143] }, .string { data := #[195, 177] }, .string { data := #[195, 182] }, .string { data := #[195, 191] }, .string { data := #[195, 135] }, .string { data := #[195, 152] }] 9)) := (Below.refl _ w).alloc (Nat.le_refl _) _
  clear cF MC hx hy hz h0 hr
  go_enter Try.func9, Try.ntmps9
  go_wp2_with (first
    | (go_at_call 14; (with_reducible refine (ca _).mono ?_); rintro e w ⟨rfl, rfl⟩)
    | (go_at_call 14; (with_reducible refine (cb _).mono ?_); rintro e w ⟨rfl, rfl⟩))
  have hB2 := hB1.alloc hB1.size (.cells #[.string { data := #[65, 204, 128] }, .string { data := #[101, 204, 129] }, .string { data := #[73, 204, 136] }, .string { data := #[110, 204, 131] }, .string { data := #[111, 204, 136] }, .string { data := #[121, 204, 136] }, .string { data := #[67, 204, 167] }, .string { data := #[79, 204, 184] }] 9)
  generalize (w.alloc (.cells #[.string { data := #[195, 128] }, .string { data := #[195, 169] }, .string { data := #[195, 143] }, .string { data := #[195, 177] }, .string { data := #[195, 182] }, .string { data := #[195, 191] }, .string { data := #[195, 135] }, .string { data := #[195, 152] }] 9)).alloc (.cells #[.string { data := #[65, 204, 128] }, .string { data := #[101, 204, 129] }, .string { data := #[73, 204, 136] }, .string { data := #[110, 204, 131] }, .string { data := #[111, 204, 136] }, .string { data := #[121, 204, 136] }, .string { data := #[67, 204, 167] }, .string { data := #[79, 204, 184] }] 9) = W at *
  clear hB1 ca cb
  have zB : (({ data := #[73, 204, 136] } : ByteArray).extract 0 1).size ≤ 8 := by decide
  have zD : ({ data := #[73, 204, 136] } : ByteArray).size ≤ 8 := by decide
  have zO : ({ data := #[195, 143] } : ByteArray).size ≤ 8 := by decide
  generalize ({ data := #[73, 204, 136] } : ByteArray).extract 0 1 = B at *
  generalize ({ data := #[73, 204, 136] } : ByteArray) = D at *
  generalize ({ data := #[195, 143] } : ByteArray) = O at *
  refine (known_any W).mono ?_
  rintro e w1 ⟨rfl, k1⟩
  have hB3 := hB2.trans (k1.mono hB2.size)
  clear hB2 k1
  go_wp2_with fail
  refine (CF.out w1).mono ?_
  rintro e w2 ⟨rfl, kk⟩
  have k2 : Below w1.heap.size w1 w2 := ((Below.refl _ w1).alloc (Nat.le_refl _) _).trans (kk.mono (by simp))
  have hB4 := hB3.trans (k2.mono hB3.size)
  clear hB3 k2 kk
  go_wp2_with fail
  go_loopw [10] (fun kv wr => ∃ k : Nat, 1 ≤ k ∧ k ≤ 4 ∧ kv = .int .i64 (k : Nat) ∧ Below w.heap.size w wr) (fun kv _ => 4 - (RowKit.intOf kv).toNat)
  case atStart => exact ⟨1, by omega, by omega, rfl, hB4⟩
  case round =>
    clear hB4
    obtain ⟨k, h1, h4, rfl, hbk⟩ := hrel
    by_cases h3 : k ≤ 3
    · have h3i : (k : Int) ≤ 3 := by omega
      go_wp2_with (go_at_call 23; (with_reducible refine (C3.out k h1 h3 _).mono ?_); rintro e w5 ⟨rfl, k5⟩)
      have hb5 := hbk.trans (k5.mono hbk.size)
      go_roundw
      case rel => exact ⟨k + 1, by omega, by omega, by go_num, hb5⟩
      case measure => simp [RowKit.intOf]; omega
    · have h3i : ¬ (k : Int) ≤ 3 := by omega
      go_wp2_with fail
      refine (C2.out wr).mono ?_
      rintro e w5 ⟨rfl, k5⟩
      have hb5 := hbk.trans (k5.mono hbk.size)
      clear hbk k5
      go_wp2_with fail
      refine (C1.out w5).mono ?_
      rintro e w6 ⟨rfl, k6⟩
      have HB := Go.Lib.hid (hb5.trans (k6.mono hb5.size))
      clear hb5 k6
      go_wp2
      go_ret
      exact ⟨rfl, HB.out⟩
set_option maxRecDepth 100000 in
set_option maxHeartbeats 8000000 in
theorem marksb_2 {x y : Sx} {a b : ByteArray} (ca : ∀ w, Calls Try.prog 14 #[.string a] w fun e w' => e = .returned (.string x.s) ∧ w' = w)
    (cb : ∀ w, Calls Try.prog 14 #[.string b] w fun e w' => e = .returned (.string y.s) ∧ w' = w) (c : Nat) (hr : c % 8 = 2) (h0 : faultN 1 [x, y] ≠ 0) (w : World) : Calls Try.prog 9 #[.string a, .string b, .int .u8 (c : Nat)] w (TrueW w) := by
  have cF := fun w' => fault_any (st := 1) (nu := false) (ig := false) (uf := false) (w'.alloc _) (strs_new w' [x, y] 9 2) (by simp)
  simp only [List.map_cons, List.map_nil, List.length_cons, List.length_nil, Nat.reduceAdd] at cF
  unfold opV at cF
  have CF := Go.Lib.hid cF
  have hri : (c : Int) % 8 = 2 := by omega
  have hB1 : Below w.heap.size w (w.alloc (.cells #[.string { data := #[195, 128] }, .string { data := #[195, 169] }, .string { data := #[195, 143] }, .string { data := #[195, 177] }, .string { data := #[195, 182] }, .string { data := #[195, 191] }, .string { data := #[195, 135] }, .string { data := #[195, 152] }] 9)) := (Below.refl _ w).alloc (Nat.le_refl _) _
  clear cF hr
  go_enter Try.func9, Try.ntmps9
  go_wp2_with (first
    | (go_at_call 14; (with_reducible refine (ca _).mono ?_); rintro e w ⟨rfl, rfl⟩)
    | (go_at_call 14; (with_reducible refine (cb _).mono ?_); rintro e w ⟨rfl, rfl⟩))
  have hB2 := hB1.alloc hB1.size (.cells #[.string { data := #[65, 204, 128] }, .string { data := #[101, 204, 129] }, .string { data := #[73, 204, 136] }, .string { data := #[110, 204, 131] }, .string { data := #[111, 204, 136] }, .string { data := #[121, 204, 136] }, .string { data := #[67, 204, 167] }, .string { data := #[79, 204, 184] }] 9)
  generalize (w.alloc (.cells #[.string { data := #[195, 128] }, .string { data := #[195, 169] }, .string { data := #[195, 143] }, .string { data := #[195, 177] }, .string { data := #[195, 182] }, .string { data := #[195, 191] }, .string { data := #[195, 135] }, .string { data := #[195, 152] }] 9)).alloc (.cells #[.string { data := #[65, 204, 128] }, .string { data := #[101, 204, 129] }, .string { data := #[73, 204, 136] }, .string { data := #[110, 204, 131] }, .string { data := #[111, 204, 136] }, .string { data := #[121, 204, 136] }, .string { data := #[67, 204, 167] }, .string { data := #[79, 204, 184] }] 9) = W at *
  clear hB1 ca cb
  refine (known_any W).mono ?_
  rintro e w1 ⟨rfl, k1⟩
  have hB3 := hB2.trans (k1.mono hB2.size)
  clear hB2 k1
  go_wp2_with fail
  refine (CF.out w1).mono ?_
  rintro e w2 ⟨rfl, kk⟩
  have k2 : Below w1.heap.size w1 w2 := ((Below.refl _ w1).alloc (Nat.le_refl _) _).trans (kk.mono (by simp))
  have hB4 := hB3.trans (k2.mono hB3.size)
  clear hB3 k2 kk
  generalize faultN 1 [x, y] = f at *
  go_wp2_with fail
  refine (known_any w2).mono ?_
  rintro e w3 ⟨rfl, k3⟩
  have HB := Go.Lib.hid (hB4.trans (k3.mono hB4.size))
  go_wp2
  go_ret
  exact ⟨rfl, HB.out⟩
set_option maxRecDepth 100000 in
set_option maxHeartbeats 8000000 in
theorem marks_3 {x y : Sx} {a b : ByteArray} (sx : x.s.size ≤ 200) (sy : y.s.size ≤ 200) (ca : ∀ w, Calls Try.prog 14 #[.string a] w fun e w' => e = .returned (.string x.s) ∧ w' = w)
    (cb : ∀ w, Calls Try.prog 14 #[.string b] w fun e w' => e = .returned (.string y.s) ∧ w' = w) (c : Nat) (hr : c % 8 = 3) (h0 : faultN 1 [x, y] = 0) (w : World) : Calls Try.prog 9 #[.string a, .string b, .int .u8 (c : Nat)] w (TrueW w) := by
  have hz := faultN_zero h0
  have hx := x.str
  rw [hz.2 x (by simp)] at hx
  have hy := y.str
  rw [hz.2 y (by simp)] at hy
  have MC := MkC.of hx hy sx sy (q := (241, 110, 771)) (by unfold mkL; simp) (O := { data := #[195, 177] }) (D := { data := #[110, 204, 131] }) (B := ({ data := #[110, 204, 131] } : ByteArray).extract 0 1) (str_closed _ _ (by kernel_rfl) (by kernel_rfl) (by decide)) (str_closed _ _ (by kernel_rfl) (by kernel_rfl) (by decide)) (str_closed _ _ (by kernel_rfl) (by kernel_rfl) (by decide)) (by decide) (by decide) (by decide)
  have cF := fun w' => fault_any (st := 1) (nu := false) (ig := false) (uf := false) (w'.alloc _) (strs_new w' [x, y] 9 2) (by simp)
  simp only [List.map_cons, List.map_nil, List.length_cons, List.length_nil, Nat.reduceAdd] at cF
  rw [h0] at cF
  unfold opV at cF
  have CF := Go.Lib.hid cF
  have hri : (c : Int) % 8 = 3 := by omega
  have C3 := Go.Lib.hid MC.c3
  have C2 := Go.Lib.hid MC.c2
  have C1 := Go.Lib.hid MC.c1
  have hB1 : Below w.heap.size w (w.alloc (.cells #[.string { data := #[195, 128] }, .string { data := #[195, 169] }, .string { data := #[195, 143] }, .string { data := #[195, 177] }, .string { data := #[195, 182] }, .string { data := #[195, 191] }, .string { data := #[195, 135] }, .string { data := #[195, 152] }] 9)) := (Below.refl _ w).alloc (Nat.le_refl _) _
  clear cF MC hx hy hz h0 hr
  go_enter Try.func9, Try.ntmps9
  go_wp2_with (first
    | (go_at_call 14; (with_reducible refine (ca _).mono ?_); rintro e w ⟨rfl, rfl⟩)
    | (go_at_call 14; (with_reducible refine (cb _).mono ?_); rintro e w ⟨rfl, rfl⟩))
  have hB2 := hB1.alloc hB1.size (.cells #[.string { data := #[65, 204, 128] }, .string { data := #[101, 204, 129] }, .string { data := #[73, 204, 136] }, .string { data := #[110, 204, 131] }, .string { data := #[111, 204, 136] }, .string { data := #[121, 204, 136] }, .string { data := #[67, 204, 167] }, .string { data := #[79, 204, 184] }] 9)
  generalize (w.alloc (.cells #[.string { data := #[195, 128] }, .string { data := #[195, 169] }, .string { data := #[195, 143] }, .string { data := #[195, 177] }, .string { data := #[195, 182] }, .string { data := #[195, 191] }, .string { data := #[195, 135] }, .string { data := #[195, 152] }] 9)).alloc (.cells #[.string { data := #[65, 204, 128] }, .string { data := #[101, 204, 129] }, .string { data := #[73, 204, 136] }, .string { data := #[110, 204, 131] }, .string { data := #[111, 204, 136] }, .string { data := #[121, 204, 136] }, .string { data := #[67, 204, 167] }, .string { data := #[79, 204, 184] }] 9) = W at *
  clear hB1 ca cb
  have zB : (({ data := #[110, 204, 131] } : ByteArray).extract 0 1).size ≤ 8 := by decide
  have zD : ({ data := #[110, 204, 131] } : ByteArray).size ≤ 8 := by decide
  have zO : ({ data := #[195, 177] } : ByteArray).size ≤ 8 := by decide
  generalize ({ data := #[110, 204, 131] } : ByteArray).extract 0 1 = B at *
  generalize ({ data := #[110, 204, 131] } : ByteArray) = D at *
  generalize ({ data := #[195, 177] } : ByteArray) = O at *
  refine (known_any W).mono ?_
  rintro e w1 ⟨rfl, k1⟩
  have hB3 := hB2.trans (k1.mono hB2.size)
  clear hB2 k1
  go_wp2_with fail
  refine (CF.out w1).mono ?_
  rintro e w2 ⟨rfl, kk⟩
  have k2 : Below w1.heap.size w1 w2 := ((Below.refl _ w1).alloc (Nat.le_refl _) _).trans (kk.mono (by simp))
  have hB4 := hB3.trans (k2.mono hB3.size)
  clear hB3 k2 kk
  go_wp2_with fail
  go_loopw [10] (fun kv wr => ∃ k : Nat, 1 ≤ k ∧ k ≤ 4 ∧ kv = .int .i64 (k : Nat) ∧ Below w.heap.size w wr) (fun kv _ => 4 - (RowKit.intOf kv).toNat)
  case atStart => exact ⟨1, by omega, by omega, rfl, hB4⟩
  case round =>
    clear hB4
    obtain ⟨k, h1, h4, rfl, hbk⟩ := hrel
    by_cases h3 : k ≤ 3
    · have h3i : (k : Int) ≤ 3 := by omega
      go_wp2_with (go_at_call 23; (with_reducible refine (C3.out k h1 h3 _).mono ?_); rintro e w5 ⟨rfl, k5⟩)
      have hb5 := hbk.trans (k5.mono hbk.size)
      go_roundw
      case rel => exact ⟨k + 1, by omega, by omega, by go_num, hb5⟩
      case measure => simp [RowKit.intOf]; omega
    · have h3i : ¬ (k : Int) ≤ 3 := by omega
      go_wp2_with fail
      refine (C2.out wr).mono ?_
      rintro e w5 ⟨rfl, k5⟩
      have hb5 := hbk.trans (k5.mono hbk.size)
      clear hbk k5
      go_wp2_with fail
      refine (C1.out w5).mono ?_
      rintro e w6 ⟨rfl, k6⟩
      have HB := Go.Lib.hid (hb5.trans (k6.mono hb5.size))
      clear hb5 k6
      go_wp2
      go_ret
      exact ⟨rfl, HB.out⟩
set_option maxRecDepth 100000 in
set_option maxHeartbeats 8000000 in
theorem marksb_3 {x y : Sx} {a b : ByteArray} (ca : ∀ w, Calls Try.prog 14 #[.string a] w fun e w' => e = .returned (.string x.s) ∧ w' = w)
    (cb : ∀ w, Calls Try.prog 14 #[.string b] w fun e w' => e = .returned (.string y.s) ∧ w' = w) (c : Nat) (hr : c % 8 = 3) (h0 : faultN 1 [x, y] ≠ 0) (w : World) : Calls Try.prog 9 #[.string a, .string b, .int .u8 (c : Nat)] w (TrueW w) := by
  have cF := fun w' => fault_any (st := 1) (nu := false) (ig := false) (uf := false) (w'.alloc _) (strs_new w' [x, y] 9 2) (by simp)
  simp only [List.map_cons, List.map_nil, List.length_cons, List.length_nil, Nat.reduceAdd] at cF
  unfold opV at cF
  have CF := Go.Lib.hid cF
  have hri : (c : Int) % 8 = 3 := by omega
  have hB1 : Below w.heap.size w (w.alloc (.cells #[.string { data := #[195, 128] }, .string { data := #[195, 169] }, .string { data := #[195, 143] }, .string { data := #[195, 177] }, .string { data := #[195, 182] }, .string { data := #[195, 191] }, .string { data := #[195, 135] }, .string { data := #[195, 152] }] 9)) := (Below.refl _ w).alloc (Nat.le_refl _) _
  clear cF hr
  go_enter Try.func9, Try.ntmps9
  go_wp2_with (first
    | (go_at_call 14; (with_reducible refine (ca _).mono ?_); rintro e w ⟨rfl, rfl⟩)
    | (go_at_call 14; (with_reducible refine (cb _).mono ?_); rintro e w ⟨rfl, rfl⟩))
  have hB2 := hB1.alloc hB1.size (.cells #[.string { data := #[65, 204, 128] }, .string { data := #[101, 204, 129] }, .string { data := #[73, 204, 136] }, .string { data := #[110, 204, 131] }, .string { data := #[111, 204, 136] }, .string { data := #[121, 204, 136] }, .string { data := #[67, 204, 167] }, .string { data := #[79, 204, 184] }] 9)
  generalize (w.alloc (.cells #[.string { data := #[195, 128] }, .string { data := #[195, 169] }, .string { data := #[195, 143] }, .string { data := #[195, 177] }, .string { data := #[195, 182] }, .string { data := #[195, 191] }, .string { data := #[195, 135] }, .string { data := #[195, 152] }] 9)).alloc (.cells #[.string { data := #[65, 204, 128] }, .string { data := #[101, 204, 129] }, .string { data := #[73, 204, 136] }, .string { data := #[110, 204, 131] }, .string { data := #[111, 204, 136] }, .string { data := #[121, 204, 136] }, .string { data := #[67, 204, 167] }, .string { data := #[79, 204, 184] }] 9) = W at *
  clear hB1 ca cb
  refine (known_any W).mono ?_
  rintro e w1 ⟨rfl, k1⟩
  have hB3 := hB2.trans (k1.mono hB2.size)
  clear hB2 k1
  go_wp2_with fail
  refine (CF.out w1).mono ?_
  rintro e w2 ⟨rfl, kk⟩
  have k2 : Below w1.heap.size w1 w2 := ((Below.refl _ w1).alloc (Nat.le_refl _) _).trans (kk.mono (by simp))
  have hB4 := hB3.trans (k2.mono hB3.size)
  clear hB3 k2 kk
  generalize faultN 1 [x, y] = f at *
  go_wp2_with fail
  refine (known_any w2).mono ?_
  rintro e w3 ⟨rfl, k3⟩
  have HB := Go.Lib.hid (hB4.trans (k3.mono hB4.size))
  go_wp2
  go_ret
  exact ⟨rfl, HB.out⟩
set_option maxRecDepth 100000 in
set_option maxHeartbeats 8000000 in
theorem marks_4 {x y : Sx} {a b : ByteArray} (sx : x.s.size ≤ 200) (sy : y.s.size ≤ 200) (ca : ∀ w, Calls Try.prog 14 #[.string a] w fun e w' => e = .returned (.string x.s) ∧ w' = w)
    (cb : ∀ w, Calls Try.prog 14 #[.string b] w fun e w' => e = .returned (.string y.s) ∧ w' = w) (c : Nat) (hr : c % 8 = 4) (h0 : faultN 1 [x, y] = 0) (w : World) : Calls Try.prog 9 #[.string a, .string b, .int .u8 (c : Nat)] w (TrueW w) := by
  have hz := faultN_zero h0
  have hx := x.str
  rw [hz.2 x (by simp)] at hx
  have hy := y.str
  rw [hz.2 y (by simp)] at hy
  have MC := MkC.of hx hy sx sy (q := (246, 111, 776)) (by unfold mkL; simp) (O := { data := #[195, 182] }) (D := { data := #[111, 204, 136] }) (B := ({ data := #[111, 204, 136] } : ByteArray).extract 0 1) (str_closed _ _ (by kernel_rfl) (by kernel_rfl) (by decide)) (str_closed _ _ (by kernel_rfl) (by kernel_rfl) (by decide)) (str_closed _ _ (by kernel_rfl) (by kernel_rfl) (by decide)) (by decide) (by decide) (by decide)
  have cF := fun w' => fault_any (st := 1) (nu := false) (ig := false) (uf := false) (w'.alloc _) (strs_new w' [x, y] 9 2) (by simp)
  simp only [List.map_cons, List.map_nil, List.length_cons, List.length_nil, Nat.reduceAdd] at cF
  rw [h0] at cF
  unfold opV at cF
  have CF := Go.Lib.hid cF
  have hri : (c : Int) % 8 = 4 := by omega
  have C3 := Go.Lib.hid MC.c3
  have C2 := Go.Lib.hid MC.c2
  have C1 := Go.Lib.hid MC.c1
  have hB1 : Below w.heap.size w (w.alloc (.cells #[.string { data := #[195, 128] }, .string { data := #[195, 169] }, .string { data := #[195, 143] }, .string { data := #[195, 177] }, .string { data := #[195, 182] }, .string { data := #[195, 191] }, .string { data := #[195, 135] }, .string { data := #[195, 152] }] 9)) := (Below.refl _ w).alloc (Nat.le_refl _) _
  clear cF MC hx hy hz h0 hr
  go_enter Try.func9, Try.ntmps9
  go_wp2_with (first
    | (go_at_call 14; (with_reducible refine (ca _).mono ?_); rintro e w ⟨rfl, rfl⟩)
    | (go_at_call 14; (with_reducible refine (cb _).mono ?_); rintro e w ⟨rfl, rfl⟩))
  have hB2 := hB1.alloc hB1.size (.cells #[.string { data := #[65, 204, 128] }, .string { data := #[101, 204, 129] }, .string { data := #[73, 204, 136] }, .string { data := #[110, 204, 131] }, .string { data := #[111, 204, 136] }, .string { data := #[121, 204, 136] }, .string { data := #[67, 204, 167] }, .string { data := #[79, 204, 184] }] 9)
  generalize (w.alloc (.cells #[.string { data := #[195, 128] }, .string { data := #[195, 169] }, .string { data := #[195, 143] }, .string { data := #[195, 177] }, .string { data := #[195, 182] }, .string { data := #[195, 191] }, .string { data := #[195, 135] }, .string { data := #[195, 152] }] 9)).alloc (.cells #[.string { data := #[65, 204, 128] }, .string { data := #[101, 204, 129] }, .string { data := #[73, 204, 136] }, .string { data := #[110, 204, 131] }, .string { data := #[111, 204, 136] }, .string { data := #[121, 204, 136] }, .string { data := #[67, 204, 167] }, .string { data := #[79, 204, 184] }] 9) = W at *
  clear hB1 ca cb
  have zB : (({ data := #[111, 204, 136] } : ByteArray).extract 0 1).size ≤ 8 := by decide
  have zD : ({ data := #[111, 204, 136] } : ByteArray).size ≤ 8 := by decide
  have zO : ({ data := #[195, 182] } : ByteArray).size ≤ 8 := by decide
  generalize ({ data := #[111, 204, 136] } : ByteArray).extract 0 1 = B at *
  generalize ({ data := #[111, 204, 136] } : ByteArray) = D at *
  generalize ({ data := #[195, 182] } : ByteArray) = O at *
  refine (known_any W).mono ?_
  rintro e w1 ⟨rfl, k1⟩
  have hB3 := hB2.trans (k1.mono hB2.size)
  clear hB2 k1
  go_wp2_with fail
  refine (CF.out w1).mono ?_
  rintro e w2 ⟨rfl, kk⟩
  have k2 : Below w1.heap.size w1 w2 := ((Below.refl _ w1).alloc (Nat.le_refl _) _).trans (kk.mono (by simp))
  have hB4 := hB3.trans (k2.mono hB3.size)
  clear hB3 k2 kk
  go_wp2_with fail
  go_loopw [10] (fun kv wr => ∃ k : Nat, 1 ≤ k ∧ k ≤ 4 ∧ kv = .int .i64 (k : Nat) ∧ Below w.heap.size w wr) (fun kv _ => 4 - (RowKit.intOf kv).toNat)
  case atStart => exact ⟨1, by omega, by omega, rfl, hB4⟩
  case round =>
    clear hB4
    obtain ⟨k, h1, h4, rfl, hbk⟩ := hrel
    by_cases h3 : k ≤ 3
    · have h3i : (k : Int) ≤ 3 := by omega
      go_wp2_with (go_at_call 23; (with_reducible refine (C3.out k h1 h3 _).mono ?_); rintro e w5 ⟨rfl, k5⟩)
      have hb5 := hbk.trans (k5.mono hbk.size)
      go_roundw
      case rel => exact ⟨k + 1, by omega, by omega, by go_num, hb5⟩
      case measure => simp [RowKit.intOf]; omega
    · have h3i : ¬ (k : Int) ≤ 3 := by omega
      go_wp2_with fail
      refine (C2.out wr).mono ?_
      rintro e w5 ⟨rfl, k5⟩
      have hb5 := hbk.trans (k5.mono hbk.size)
      clear hbk k5
      go_wp2_with fail
      refine (C1.out w5).mono ?_
      rintro e w6 ⟨rfl, k6⟩
      have HB := Go.Lib.hid (hb5.trans (k6.mono hb5.size))
      clear hb5 k6
      go_wp2
      go_ret
      exact ⟨rfl, HB.out⟩
set_option maxRecDepth 100000 in
set_option maxHeartbeats 8000000 in
theorem marksb_4 {x y : Sx} {a b : ByteArray} (ca : ∀ w, Calls Try.prog 14 #[.string a] w fun e w' => e = .returned (.string x.s) ∧ w' = w)
    (cb : ∀ w, Calls Try.prog 14 #[.string b] w fun e w' => e = .returned (.string y.s) ∧ w' = w) (c : Nat) (hr : c % 8 = 4) (h0 : faultN 1 [x, y] ≠ 0) (w : World) : Calls Try.prog 9 #[.string a, .string b, .int .u8 (c : Nat)] w (TrueW w) := by
  have cF := fun w' => fault_any (st := 1) (nu := false) (ig := false) (uf := false) (w'.alloc _) (strs_new w' [x, y] 9 2) (by simp)
  simp only [List.map_cons, List.map_nil, List.length_cons, List.length_nil, Nat.reduceAdd] at cF
  unfold opV at cF
  have CF := Go.Lib.hid cF
  have hri : (c : Int) % 8 = 4 := by omega
  have hB1 : Below w.heap.size w (w.alloc (.cells #[.string { data := #[195, 128] }, .string { data := #[195, 169] }, .string { data := #[195, 143] }, .string { data := #[195, 177] }, .string { data := #[195, 182] }, .string { data := #[195, 191] }, .string { data := #[195, 135] }, .string { data := #[195, 152] }] 9)) := (Below.refl _ w).alloc (Nat.le_refl _) _
  clear cF hr
  go_enter Try.func9, Try.ntmps9
  go_wp2_with (first
    | (go_at_call 14; (with_reducible refine (ca _).mono ?_); rintro e w ⟨rfl, rfl⟩)
    | (go_at_call 14; (with_reducible refine (cb _).mono ?_); rintro e w ⟨rfl, rfl⟩))
  have hB2 := hB1.alloc hB1.size (.cells #[.string { data := #[65, 204, 128] }, .string { data := #[101, 204, 129] }, .string { data := #[73, 204, 136] }, .string { data := #[110, 204, 131] }, .string { data := #[111, 204, 136] }, .string { data := #[121, 204, 136] }, .string { data := #[67, 204, 167] }, .string { data := #[79, 204, 184] }] 9)
  generalize (w.alloc (.cells #[.string { data := #[195, 128] }, .string { data := #[195, 169] }, .string { data := #[195, 143] }, .string { data := #[195, 177] }, .string { data := #[195, 182] }, .string { data := #[195, 191] }, .string { data := #[195, 135] }, .string { data := #[195, 152] }] 9)).alloc (.cells #[.string { data := #[65, 204, 128] }, .string { data := #[101, 204, 129] }, .string { data := #[73, 204, 136] }, .string { data := #[110, 204, 131] }, .string { data := #[111, 204, 136] }, .string { data := #[121, 204, 136] }, .string { data := #[67, 204, 167] }, .string { data := #[79, 204, 184] }] 9) = W at *
  clear hB1 ca cb
  refine (known_any W).mono ?_
  rintro e w1 ⟨rfl, k1⟩
  have hB3 := hB2.trans (k1.mono hB2.size)
  clear hB2 k1
  go_wp2_with fail
  refine (CF.out w1).mono ?_
  rintro e w2 ⟨rfl, kk⟩
  have k2 : Below w1.heap.size w1 w2 := ((Below.refl _ w1).alloc (Nat.le_refl _) _).trans (kk.mono (by simp))
  have hB4 := hB3.trans (k2.mono hB3.size)
  clear hB3 k2 kk
  generalize faultN 1 [x, y] = f at *
  go_wp2_with fail
  refine (known_any w2).mono ?_
  rintro e w3 ⟨rfl, k3⟩
  have HB := Go.Lib.hid (hB4.trans (k3.mono hB4.size))
  go_wp2
  go_ret
  exact ⟨rfl, HB.out⟩
set_option maxRecDepth 100000 in
set_option maxHeartbeats 8000000 in
theorem marks_5 {x y : Sx} {a b : ByteArray} (sx : x.s.size ≤ 200) (sy : y.s.size ≤ 200) (ca : ∀ w, Calls Try.prog 14 #[.string a] w fun e w' => e = .returned (.string x.s) ∧ w' = w)
    (cb : ∀ w, Calls Try.prog 14 #[.string b] w fun e w' => e = .returned (.string y.s) ∧ w' = w) (c : Nat) (hr : c % 8 = 5) (h0 : faultN 1 [x, y] = 0) (w : World) : Calls Try.prog 9 #[.string a, .string b, .int .u8 (c : Nat)] w (TrueW w) := by
  have hz := faultN_zero h0
  have hx := x.str
  rw [hz.2 x (by simp)] at hx
  have hy := y.str
  rw [hz.2 y (by simp)] at hy
  have MC := MkC.of hx hy sx sy (q := (255, 121, 776)) (by unfold mkL; simp) (O := { data := #[195, 191] }) (D := { data := #[121, 204, 136] }) (B := ({ data := #[121, 204, 136] } : ByteArray).extract 0 1) (str_closed _ _ (by kernel_rfl) (by kernel_rfl) (by decide)) (str_closed _ _ (by kernel_rfl) (by kernel_rfl) (by decide)) (str_closed _ _ (by kernel_rfl) (by kernel_rfl) (by decide)) (by decide) (by decide) (by decide)
  have cF := fun w' => fault_any (st := 1) (nu := false) (ig := false) (uf := false) (w'.alloc _) (strs_new w' [x, y] 9 2) (by simp)
  simp only [List.map_cons, List.map_nil, List.length_cons, List.length_nil, Nat.reduceAdd] at cF
  rw [h0] at cF
  unfold opV at cF
  have CF := Go.Lib.hid cF
  have hri : (c : Int) % 8 = 5 := by omega
  have C3 := Go.Lib.hid MC.c3
  have C2 := Go.Lib.hid MC.c2
  have C1 := Go.Lib.hid MC.c1
  have hB1 : Below w.heap.size w (w.alloc (.cells #[.string { data := #[195, 128] }, .string { data := #[195, 169] }, .string { data := #[195, 143] }, .string { data := #[195, 177] }, .string { data := #[195, 182] }, .string { data := #[195, 191] }, .string { data := #[195, 135] }, .string { data := #[195, 152] }] 9)) := (Below.refl _ w).alloc (Nat.le_refl _) _
  clear cF MC hx hy hz h0 hr
  go_enter Try.func9, Try.ntmps9
  go_wp2_with (first
    | (go_at_call 14; (with_reducible refine (ca _).mono ?_); rintro e w ⟨rfl, rfl⟩)
    | (go_at_call 14; (with_reducible refine (cb _).mono ?_); rintro e w ⟨rfl, rfl⟩))
  have hB2 := hB1.alloc hB1.size (.cells #[.string { data := #[65, 204, 128] }, .string { data := #[101, 204, 129] }, .string { data := #[73, 204, 136] }, .string { data := #[110, 204, 131] }, .string { data := #[111, 204, 136] }, .string { data := #[121, 204, 136] }, .string { data := #[67, 204, 167] }, .string { data := #[79, 204, 184] }] 9)
  generalize (w.alloc (.cells #[.string { data := #[195, 128] }, .string { data := #[195, 169] }, .string { data := #[195, 143] }, .string { data := #[195, 177] }, .string { data := #[195, 182] }, .string { data := #[195, 191] }, .string { data := #[195, 135] }, .string { data := #[195, 152] }] 9)).alloc (.cells #[.string { data := #[65, 204, 128] }, .string { data := #[101, 204, 129] }, .string { data := #[73, 204, 136] }, .string { data := #[110, 204, 131] }, .string { data := #[111, 204, 136] }, .string { data := #[121, 204, 136] }, .string { data := #[67, 204, 167] }, .string { data := #[79, 204, 184] }] 9) = W at *
  clear hB1 ca cb
  have zB : (({ data := #[121, 204, 136] } : ByteArray).extract 0 1).size ≤ 8 := by decide
  have zD : ({ data := #[121, 204, 136] } : ByteArray).size ≤ 8 := by decide
  have zO : ({ data := #[195, 191] } : ByteArray).size ≤ 8 := by decide
  generalize ({ data := #[121, 204, 136] } : ByteArray).extract 0 1 = B at *
  generalize ({ data := #[121, 204, 136] } : ByteArray) = D at *
  generalize ({ data := #[195, 191] } : ByteArray) = O at *
  refine (known_any W).mono ?_
  rintro e w1 ⟨rfl, k1⟩
  have hB3 := hB2.trans (k1.mono hB2.size)
  clear hB2 k1
  go_wp2_with fail
  refine (CF.out w1).mono ?_
  rintro e w2 ⟨rfl, kk⟩
  have k2 : Below w1.heap.size w1 w2 := ((Below.refl _ w1).alloc (Nat.le_refl _) _).trans (kk.mono (by simp))
  have hB4 := hB3.trans (k2.mono hB3.size)
  clear hB3 k2 kk
  go_wp2_with fail
  go_loopw [10] (fun kv wr => ∃ k : Nat, 1 ≤ k ∧ k ≤ 4 ∧ kv = .int .i64 (k : Nat) ∧ Below w.heap.size w wr) (fun kv _ => 4 - (RowKit.intOf kv).toNat)
  case atStart => exact ⟨1, by omega, by omega, rfl, hB4⟩
  case round =>
    clear hB4
    obtain ⟨k, h1, h4, rfl, hbk⟩ := hrel
    by_cases h3 : k ≤ 3
    · have h3i : (k : Int) ≤ 3 := by omega
      go_wp2_with (go_at_call 23; (with_reducible refine (C3.out k h1 h3 _).mono ?_); rintro e w5 ⟨rfl, k5⟩)
      have hb5 := hbk.trans (k5.mono hbk.size)
      go_roundw
      case rel => exact ⟨k + 1, by omega, by omega, by go_num, hb5⟩
      case measure => simp [RowKit.intOf]; omega
    · have h3i : ¬ (k : Int) ≤ 3 := by omega
      go_wp2_with fail
      refine (C2.out wr).mono ?_
      rintro e w5 ⟨rfl, k5⟩
      have hb5 := hbk.trans (k5.mono hbk.size)
      clear hbk k5
      go_wp2_with fail
      refine (C1.out w5).mono ?_
      rintro e w6 ⟨rfl, k6⟩
      have HB := Go.Lib.hid (hb5.trans (k6.mono hb5.size))
      clear hb5 k6
      go_wp2
      go_ret
      exact ⟨rfl, HB.out⟩
set_option maxRecDepth 100000 in
set_option maxHeartbeats 8000000 in
theorem marksb_5 {x y : Sx} {a b : ByteArray} (ca : ∀ w, Calls Try.prog 14 #[.string a] w fun e w' => e = .returned (.string x.s) ∧ w' = w)
    (cb : ∀ w, Calls Try.prog 14 #[.string b] w fun e w' => e = .returned (.string y.s) ∧ w' = w) (c : Nat) (hr : c % 8 = 5) (h0 : faultN 1 [x, y] ≠ 0) (w : World) : Calls Try.prog 9 #[.string a, .string b, .int .u8 (c : Nat)] w (TrueW w) := by
  have cF := fun w' => fault_any (st := 1) (nu := false) (ig := false) (uf := false) (w'.alloc _) (strs_new w' [x, y] 9 2) (by simp)
  simp only [List.map_cons, List.map_nil, List.length_cons, List.length_nil, Nat.reduceAdd] at cF
  unfold opV at cF
  have CF := Go.Lib.hid cF
  have hri : (c : Int) % 8 = 5 := by omega
  have hB1 : Below w.heap.size w (w.alloc (.cells #[.string { data := #[195, 128] }, .string { data := #[195, 169] }, .string { data := #[195, 143] }, .string { data := #[195, 177] }, .string { data := #[195, 182] }, .string { data := #[195, 191] }, .string { data := #[195, 135] }, .string { data := #[195, 152] }] 9)) := (Below.refl _ w).alloc (Nat.le_refl _) _
  clear cF hr
  go_enter Try.func9, Try.ntmps9
  go_wp2_with (first
    | (go_at_call 14; (with_reducible refine (ca _).mono ?_); rintro e w ⟨rfl, rfl⟩)
    | (go_at_call 14; (with_reducible refine (cb _).mono ?_); rintro e w ⟨rfl, rfl⟩))
  have hB2 := hB1.alloc hB1.size (.cells #[.string { data := #[65, 204, 128] }, .string { data := #[101, 204, 129] }, .string { data := #[73, 204, 136] }, .string { data := #[110, 204, 131] }, .string { data := #[111, 204, 136] }, .string { data := #[121, 204, 136] }, .string { data := #[67, 204, 167] }, .string { data := #[79, 204, 184] }] 9)
  generalize (w.alloc (.cells #[.string { data := #[195, 128] }, .string { data := #[195, 169] }, .string { data := #[195, 143] }, .string { data := #[195, 177] }, .string { data := #[195, 182] }, .string { data := #[195, 191] }, .string { data := #[195, 135] }, .string { data := #[195, 152] }] 9)).alloc (.cells #[.string { data := #[65, 204, 128] }, .string { data := #[101, 204, 129] }, .string { data := #[73, 204, 136] }, .string { data := #[110, 204, 131] }, .string { data := #[111, 204, 136] }, .string { data := #[121, 204, 136] }, .string { data := #[67, 204, 167] }, .string { data := #[79, 204, 184] }] 9) = W at *
  clear hB1 ca cb
  refine (known_any W).mono ?_
  rintro e w1 ⟨rfl, k1⟩
  have hB3 := hB2.trans (k1.mono hB2.size)
  clear hB2 k1
  go_wp2_with fail
  refine (CF.out w1).mono ?_
  rintro e w2 ⟨rfl, kk⟩
  have k2 : Below w1.heap.size w1 w2 := ((Below.refl _ w1).alloc (Nat.le_refl _) _).trans (kk.mono (by simp))
  have hB4 := hB3.trans (k2.mono hB3.size)
  clear hB3 k2 kk
  generalize faultN 1 [x, y] = f at *
  go_wp2_with fail
  refine (known_any w2).mono ?_
  rintro e w3 ⟨rfl, k3⟩
  have HB := Go.Lib.hid (hB4.trans (k3.mono hB4.size))
  go_wp2
  go_ret
  exact ⟨rfl, HB.out⟩
set_option maxRecDepth 100000 in
set_option maxHeartbeats 8000000 in
theorem marks_6 {x y : Sx} {a b : ByteArray} (sx : x.s.size ≤ 200) (sy : y.s.size ≤ 200) (ca : ∀ w, Calls Try.prog 14 #[.string a] w fun e w' => e = .returned (.string x.s) ∧ w' = w)
    (cb : ∀ w, Calls Try.prog 14 #[.string b] w fun e w' => e = .returned (.string y.s) ∧ w' = w) (c : Nat) (hr : c % 8 = 6) (h0 : faultN 1 [x, y] = 0) (w : World) : Calls Try.prog 9 #[.string a, .string b, .int .u8 (c : Nat)] w (TrueW w) := by
  have hz := faultN_zero h0
  have hx := x.str
  rw [hz.2 x (by simp)] at hx
  have hy := y.str
  rw [hz.2 y (by simp)] at hy
  have MC := MkC.of hx hy sx sy (q := (199, 67, 807)) (by unfold mkL; simp) (O := { data := #[195, 135] }) (D := { data := #[67, 204, 167] }) (B := ({ data := #[67, 204, 167] } : ByteArray).extract 0 1) (str_closed _ _ (by kernel_rfl) (by kernel_rfl) (by decide)) (str_closed _ _ (by kernel_rfl) (by kernel_rfl) (by decide)) (str_closed _ _ (by kernel_rfl) (by kernel_rfl) (by decide)) (by decide) (by decide) (by decide)
  have cF := fun w' => fault_any (st := 1) (nu := false) (ig := false) (uf := false) (w'.alloc _) (strs_new w' [x, y] 9 2) (by simp)
  simp only [List.map_cons, List.map_nil, List.length_cons, List.length_nil, Nat.reduceAdd] at cF
  rw [h0] at cF
  unfold opV at cF
  have CF := Go.Lib.hid cF
  have hri : (c : Int) % 8 = 6 := by omega
  have C3 := Go.Lib.hid MC.c3
  have C2 := Go.Lib.hid MC.c2
  have C1 := Go.Lib.hid MC.c1
  have hB1 : Below w.heap.size w (w.alloc (.cells #[.string { data := #[195, 128] }, .string { data := #[195, 169] }, .string { data := #[195, 143] }, .string { data := #[195, 177] }, .string { data := #[195, 182] }, .string { data := #[195, 191] }, .string { data := #[195, 135] }, .string { data := #[195, 152] }] 9)) := (Below.refl _ w).alloc (Nat.le_refl _) _
  clear cF MC hx hy hz h0 hr
  go_enter Try.func9, Try.ntmps9
  go_wp2_with (first
    | (go_at_call 14; (with_reducible refine (ca _).mono ?_); rintro e w ⟨rfl, rfl⟩)
    | (go_at_call 14; (with_reducible refine (cb _).mono ?_); rintro e w ⟨rfl, rfl⟩))
  have hB2 := hB1.alloc hB1.size (.cells #[.string { data := #[65, 204, 128] }, .string { data := #[101, 204, 129] }, .string { data := #[73, 204, 136] }, .string { data := #[110, 204, 131] }, .string { data := #[111, 204, 136] }, .string { data := #[121, 204, 136] }, .string { data := #[67, 204, 167] }, .string { data := #[79, 204, 184] }] 9)
  generalize (w.alloc (.cells #[.string { data := #[195, 128] }, .string { data := #[195, 169] }, .string { data := #[195, 143] }, .string { data := #[195, 177] }, .string { data := #[195, 182] }, .string { data := #[195, 191] }, .string { data := #[195, 135] }, .string { data := #[195, 152] }] 9)).alloc (.cells #[.string { data := #[65, 204, 128] }, .string { data := #[101, 204, 129] }, .string { data := #[73, 204, 136] }, .string { data := #[110, 204, 131] }, .string { data := #[111, 204, 136] }, .string { data := #[121, 204, 136] }, .string { data := #[67, 204, 167] }, .string { data := #[79, 204, 184] }] 9) = W at *
  clear hB1 ca cb
  have zB : (({ data := #[67, 204, 167] } : ByteArray).extract 0 1).size ≤ 8 := by decide
  have zD : ({ data := #[67, 204, 167] } : ByteArray).size ≤ 8 := by decide
  have zO : ({ data := #[195, 135] } : ByteArray).size ≤ 8 := by decide
  generalize ({ data := #[67, 204, 167] } : ByteArray).extract 0 1 = B at *
  generalize ({ data := #[67, 204, 167] } : ByteArray) = D at *
  generalize ({ data := #[195, 135] } : ByteArray) = O at *
  refine (known_any W).mono ?_
  rintro e w1 ⟨rfl, k1⟩
  have hB3 := hB2.trans (k1.mono hB2.size)
  clear hB2 k1
  go_wp2_with fail
  refine (CF.out w1).mono ?_
  rintro e w2 ⟨rfl, kk⟩
  have k2 : Below w1.heap.size w1 w2 := ((Below.refl _ w1).alloc (Nat.le_refl _) _).trans (kk.mono (by simp))
  have hB4 := hB3.trans (k2.mono hB3.size)
  clear hB3 k2 kk
  go_wp2_with fail
  go_loopw [10] (fun kv wr => ∃ k : Nat, 1 ≤ k ∧ k ≤ 4 ∧ kv = .int .i64 (k : Nat) ∧ Below w.heap.size w wr) (fun kv _ => 4 - (RowKit.intOf kv).toNat)
  case atStart => exact ⟨1, by omega, by omega, rfl, hB4⟩
  case round =>
    clear hB4
    obtain ⟨k, h1, h4, rfl, hbk⟩ := hrel
    by_cases h3 : k ≤ 3
    · have h3i : (k : Int) ≤ 3 := by omega
      go_wp2_with (go_at_call 23; (with_reducible refine (C3.out k h1 h3 _).mono ?_); rintro e w5 ⟨rfl, k5⟩)
      have hb5 := hbk.trans (k5.mono hbk.size)
      go_roundw
      case rel => exact ⟨k + 1, by omega, by omega, by go_num, hb5⟩
      case measure => simp [RowKit.intOf]; omega
    · have h3i : ¬ (k : Int) ≤ 3 := by omega
      go_wp2_with fail
      refine (C2.out wr).mono ?_
      rintro e w5 ⟨rfl, k5⟩
      have hb5 := hbk.trans (k5.mono hbk.size)
      clear hbk k5
      go_wp2_with fail
      refine (C1.out w5).mono ?_
      rintro e w6 ⟨rfl, k6⟩
      have HB := Go.Lib.hid (hb5.trans (k6.mono hb5.size))
      clear hb5 k6
      go_wp2
      go_ret
      exact ⟨rfl, HB.out⟩
set_option maxRecDepth 100000 in
set_option maxHeartbeats 8000000 in
theorem marksb_6 {x y : Sx} {a b : ByteArray} (ca : ∀ w, Calls Try.prog 14 #[.string a] w fun e w' => e = .returned (.string x.s) ∧ w' = w)
    (cb : ∀ w, Calls Try.prog 14 #[.string b] w fun e w' => e = .returned (.string y.s) ∧ w' = w) (c : Nat) (hr : c % 8 = 6) (h0 : faultN 1 [x, y] ≠ 0) (w : World) : Calls Try.prog 9 #[.string a, .string b, .int .u8 (c : Nat)] w (TrueW w) := by
  have cF := fun w' => fault_any (st := 1) (nu := false) (ig := false) (uf := false) (w'.alloc _) (strs_new w' [x, y] 9 2) (by simp)
  simp only [List.map_cons, List.map_nil, List.length_cons, List.length_nil, Nat.reduceAdd] at cF
  unfold opV at cF
  have CF := Go.Lib.hid cF
  have hri : (c : Int) % 8 = 6 := by omega
  have hB1 : Below w.heap.size w (w.alloc (.cells #[.string { data := #[195, 128] }, .string { data := #[195, 169] }, .string { data := #[195, 143] }, .string { data := #[195, 177] }, .string { data := #[195, 182] }, .string { data := #[195, 191] }, .string { data := #[195, 135] }, .string { data := #[195, 152] }] 9)) := (Below.refl _ w).alloc (Nat.le_refl _) _
  clear cF hr
  go_enter Try.func9, Try.ntmps9
  go_wp2_with (first
    | (go_at_call 14; (with_reducible refine (ca _).mono ?_); rintro e w ⟨rfl, rfl⟩)
    | (go_at_call 14; (with_reducible refine (cb _).mono ?_); rintro e w ⟨rfl, rfl⟩))
  have hB2 := hB1.alloc hB1.size (.cells #[.string { data := #[65, 204, 128] }, .string { data := #[101, 204, 129] }, .string { data := #[73, 204, 136] }, .string { data := #[110, 204, 131] }, .string { data := #[111, 204, 136] }, .string { data := #[121, 204, 136] }, .string { data := #[67, 204, 167] }, .string { data := #[79, 204, 184] }] 9)
  generalize (w.alloc (.cells #[.string { data := #[195, 128] }, .string { data := #[195, 169] }, .string { data := #[195, 143] }, .string { data := #[195, 177] }, .string { data := #[195, 182] }, .string { data := #[195, 191] }, .string { data := #[195, 135] }, .string { data := #[195, 152] }] 9)).alloc (.cells #[.string { data := #[65, 204, 128] }, .string { data := #[101, 204, 129] }, .string { data := #[73, 204, 136] }, .string { data := #[110, 204, 131] }, .string { data := #[111, 204, 136] }, .string { data := #[121, 204, 136] }, .string { data := #[67, 204, 167] }, .string { data := #[79, 204, 184] }] 9) = W at *
  clear hB1 ca cb
  refine (known_any W).mono ?_
  rintro e w1 ⟨rfl, k1⟩
  have hB3 := hB2.trans (k1.mono hB2.size)
  clear hB2 k1
  go_wp2_with fail
  refine (CF.out w1).mono ?_
  rintro e w2 ⟨rfl, kk⟩
  have k2 : Below w1.heap.size w1 w2 := ((Below.refl _ w1).alloc (Nat.le_refl _) _).trans (kk.mono (by simp))
  have hB4 := hB3.trans (k2.mono hB3.size)
  clear hB3 k2 kk
  generalize faultN 1 [x, y] = f at *
  go_wp2_with fail
  refine (known_any w2).mono ?_
  rintro e w3 ⟨rfl, k3⟩
  have HB := Go.Lib.hid (hB4.trans (k3.mono hB4.size))
  go_wp2
  go_ret
  exact ⟨rfl, HB.out⟩
set_option maxRecDepth 100000 in
set_option maxHeartbeats 8000000 in
theorem marks_7 {x y : Sx} {a b : ByteArray} (sx : x.s.size ≤ 200) (sy : y.s.size ≤ 200) (ca : ∀ w, Calls Try.prog 14 #[.string a] w fun e w' => e = .returned (.string x.s) ∧ w' = w)
    (cb : ∀ w, Calls Try.prog 14 #[.string b] w fun e w' => e = .returned (.string y.s) ∧ w' = w) (c : Nat) (hr : c % 8 = 7) (h0 : faultN 1 [x, y] = 0) (w : World) : Calls Try.prog 9 #[.string a, .string b, .int .u8 (c : Nat)] w (TrueW w) := by
  have hz := faultN_zero h0
  have hx := x.str
  rw [hz.2 x (by simp)] at hx
  have hy := y.str
  rw [hz.2 y (by simp)] at hy
  have MC := MkC.of hx hy sx sy (q := (216, 79, 824)) (by unfold mkL; simp) (O := { data := #[195, 152] }) (D := { data := #[79, 204, 184] }) (B := ({ data := #[79, 204, 184] } : ByteArray).extract 0 1) (str_closed _ _ (by kernel_rfl) (by kernel_rfl) (by decide)) (str_closed _ _ (by kernel_rfl) (by kernel_rfl) (by decide)) (str_closed _ _ (by kernel_rfl) (by kernel_rfl) (by decide)) (by decide) (by decide) (by decide)
  have cF := fun w' => fault_any (st := 1) (nu := false) (ig := false) (uf := false) (w'.alloc _) (strs_new w' [x, y] 9 2) (by simp)
  simp only [List.map_cons, List.map_nil, List.length_cons, List.length_nil, Nat.reduceAdd] at cF
  rw [h0] at cF
  unfold opV at cF
  have CF := Go.Lib.hid cF
  have hri : (c : Int) % 8 = 7 := by omega
  have C3 := Go.Lib.hid MC.c3
  have C2 := Go.Lib.hid MC.c2
  have C1 := Go.Lib.hid MC.c1
  have hB1 : Below w.heap.size w (w.alloc (.cells #[.string { data := #[195, 128] }, .string { data := #[195, 169] }, .string { data := #[195, 143] }, .string { data := #[195, 177] }, .string { data := #[195, 182] }, .string { data := #[195, 191] }, .string { data := #[195, 135] }, .string { data := #[195, 152] }] 9)) := (Below.refl _ w).alloc (Nat.le_refl _) _
  clear cF MC hx hy hz h0 hr
  go_enter Try.func9, Try.ntmps9
  go_wp2_with (first
    | (go_at_call 14; (with_reducible refine (ca _).mono ?_); rintro e w ⟨rfl, rfl⟩)
    | (go_at_call 14; (with_reducible refine (cb _).mono ?_); rintro e w ⟨rfl, rfl⟩))
  have hB2 := hB1.alloc hB1.size (.cells #[.string { data := #[65, 204, 128] }, .string { data := #[101, 204, 129] }, .string { data := #[73, 204, 136] }, .string { data := #[110, 204, 131] }, .string { data := #[111, 204, 136] }, .string { data := #[121, 204, 136] }, .string { data := #[67, 204, 167] }, .string { data := #[79, 204, 184] }] 9)
  generalize (w.alloc (.cells #[.string { data := #[195, 128] }, .string { data := #[195, 169] }, .string { data := #[195, 143] }, .string { data := #[195, 177] }, .string { data := #[195, 182] }, .string { data := #[195, 191] }, .string { data := #[195, 135] }, .string { data := #[195, 152] }] 9)).alloc (.cells #[.string { data := #[65, 204, 128] }, .string { data := #[101, 204, 129] }, .string { data := #[73, 204, 136] }, .string { data := #[110, 204, 131] }, .string { data := #[111, 204, 136] }, .string { data := #[121, 204, 136] }, .string { data := #[67, 204, 167] }, .string { data := #[79, 204, 184] }] 9) = W at *
  clear hB1 ca cb
  have zB : (({ data := #[79, 204, 184] } : ByteArray).extract 0 1).size ≤ 8 := by decide
  have zD : ({ data := #[79, 204, 184] } : ByteArray).size ≤ 8 := by decide
  have zO : ({ data := #[195, 152] } : ByteArray).size ≤ 8 := by decide
  generalize ({ data := #[79, 204, 184] } : ByteArray).extract 0 1 = B at *
  generalize ({ data := #[79, 204, 184] } : ByteArray) = D at *
  generalize ({ data := #[195, 152] } : ByteArray) = O at *
  refine (known_any W).mono ?_
  rintro e w1 ⟨rfl, k1⟩
  have hB3 := hB2.trans (k1.mono hB2.size)
  clear hB2 k1
  go_wp2_with fail
  refine (CF.out w1).mono ?_
  rintro e w2 ⟨rfl, kk⟩
  have k2 : Below w1.heap.size w1 w2 := ((Below.refl _ w1).alloc (Nat.le_refl _) _).trans (kk.mono (by simp))
  have hB4 := hB3.trans (k2.mono hB3.size)
  clear hB3 k2 kk
  go_wp2_with fail
  go_loopw [10] (fun kv wr => ∃ k : Nat, 1 ≤ k ∧ k ≤ 4 ∧ kv = .int .i64 (k : Nat) ∧ Below w.heap.size w wr) (fun kv _ => 4 - (RowKit.intOf kv).toNat)
  case atStart => exact ⟨1, by omega, by omega, rfl, hB4⟩
  case round =>
    clear hB4
    obtain ⟨k, h1, h4, rfl, hbk⟩ := hrel
    by_cases h3 : k ≤ 3
    · have h3i : (k : Int) ≤ 3 := by omega
      go_wp2_with (go_at_call 23; (with_reducible refine (C3.out k h1 h3 _).mono ?_); rintro e w5 ⟨rfl, k5⟩)
      have hb5 := hbk.trans (k5.mono hbk.size)
      go_roundw
      case rel => exact ⟨k + 1, by omega, by omega, by go_num, hb5⟩
      case measure => simp [RowKit.intOf]; omega
    · have h3i : ¬ (k : Int) ≤ 3 := by omega
      go_wp2_with fail
      refine (C2.out wr).mono ?_
      rintro e w5 ⟨rfl, k5⟩
      have hb5 := hbk.trans (k5.mono hbk.size)
      clear hbk k5
      go_wp2_with fail
      refine (C1.out w5).mono ?_
      rintro e w6 ⟨rfl, k6⟩
      have HB := Go.Lib.hid (hb5.trans (k6.mono hb5.size))
      clear hb5 k6
      go_wp2
      go_ret
      exact ⟨rfl, HB.out⟩
set_option maxRecDepth 100000 in
set_option maxHeartbeats 8000000 in
theorem marksb_7 {x y : Sx} {a b : ByteArray} (ca : ∀ w, Calls Try.prog 14 #[.string a] w fun e w' => e = .returned (.string x.s) ∧ w' = w)
    (cb : ∀ w, Calls Try.prog 14 #[.string b] w fun e w' => e = .returned (.string y.s) ∧ w' = w) (c : Nat) (hr : c % 8 = 7) (h0 : faultN 1 [x, y] ≠ 0) (w : World) : Calls Try.prog 9 #[.string a, .string b, .int .u8 (c : Nat)] w (TrueW w) := by
  have cF := fun w' => fault_any (st := 1) (nu := false) (ig := false) (uf := false) (w'.alloc _) (strs_new w' [x, y] 9 2) (by simp)
  simp only [List.map_cons, List.map_nil, List.length_cons, List.length_nil, Nat.reduceAdd] at cF
  unfold opV at cF
  have CF := Go.Lib.hid cF
  have hri : (c : Int) % 8 = 7 := by omega
  have hB1 : Below w.heap.size w (w.alloc (.cells #[.string { data := #[195, 128] }, .string { data := #[195, 169] }, .string { data := #[195, 143] }, .string { data := #[195, 177] }, .string { data := #[195, 182] }, .string { data := #[195, 191] }, .string { data := #[195, 135] }, .string { data := #[195, 152] }] 9)) := (Below.refl _ w).alloc (Nat.le_refl _) _
  clear cF hr
  go_enter Try.func9, Try.ntmps9
  go_wp2_with (first
    | (go_at_call 14; (with_reducible refine (ca _).mono ?_); rintro e w ⟨rfl, rfl⟩)
    | (go_at_call 14; (with_reducible refine (cb _).mono ?_); rintro e w ⟨rfl, rfl⟩))
  have hB2 := hB1.alloc hB1.size (.cells #[.string { data := #[65, 204, 128] }, .string { data := #[101, 204, 129] }, .string { data := #[73, 204, 136] }, .string { data := #[110, 204, 131] }, .string { data := #[111, 204, 136] }, .string { data := #[121, 204, 136] }, .string { data := #[67, 204, 167] }, .string { data := #[79, 204, 184] }] 9)
  generalize (w.alloc (.cells #[.string { data := #[195, 128] }, .string { data := #[195, 169] }, .string { data := #[195, 143] }, .string { data := #[195, 177] }, .string { data := #[195, 182] }, .string { data := #[195, 191] }, .string { data := #[195, 135] }, .string { data := #[195, 152] }] 9)).alloc (.cells #[.string { data := #[65, 204, 128] }, .string { data := #[101, 204, 129] }, .string { data := #[73, 204, 136] }, .string { data := #[110, 204, 131] }, .string { data := #[111, 204, 136] }, .string { data := #[121, 204, 136] }, .string { data := #[67, 204, 167] }, .string { data := #[79, 204, 184] }] 9) = W at *
  clear hB1 ca cb
  refine (known_any W).mono ?_
  rintro e w1 ⟨rfl, k1⟩
  have hB3 := hB2.trans (k1.mono hB2.size)
  clear hB2 k1
  go_wp2_with fail
  refine (CF.out w1).mono ?_
  rintro e w2 ⟨rfl, kk⟩
  have k2 : Below w1.heap.size w1 w2 := ((Below.refl _ w1).alloc (Nat.le_refl _) _).trans (kk.mono (by simp))
  have hB4 := hB3.trans (k2.mono hB3.size)
  clear hB3 k2 kk
  generalize faultN 1 [x, y] = f at *
  go_wp2_with fail
  refine (known_any w2).mono ?_
  rintro e w3 ⟨rfl, k3⟩
  have HB := Go.Lib.hid (hB4.trans (k3.mono hB4.size))
  go_wp2
  go_ret
  exact ⟨rfl, HB.out⟩
theorem law_marks {w : World} (a : ByteArray) (ha : a.size ≤ maxLen) (b : ByteArray) (hb : b.size ≤ maxLen) (c : Int) (hc : (Lit.int .u8 c).wf = true) : Calls Try.prog 9 #[.string a, .string b, .int .u8 c] w (TrueW w) := by
  obtain ⟨x, sx, cx⟩ := cut_x a ha
  obtain ⟨y, sy, cy⟩ := cut_x b hb
  obtain ⟨n, rfl, hn⟩ := wf_u8 hc
  have hr : n % 8 = 0 ∨ n % 8 = 1 ∨ n % 8 = 2 ∨ n % 8 = 3 ∨ n % 8 = 4 ∨ n % 8 = 5 ∨ n % 8 = 6 ∨ n % 8 = 7 := by omega
  by_cases h : faultN 1 [x, y] = 0
  · rcases hr with h' | h' | h' | h' | h' | h' | h' | h'
    · exact marks_0 sx sy cx cy n h' h w
    · exact marks_1 sx sy cx cy n h' h w
    · exact marks_2 sx sy cx cy n h' h w
    · exact marks_3 sx sy cx cy n h' h w
    · exact marks_4 sx sy cx cy n h' h w
    · exact marks_5 sx sy cx cy n h' h w
    · exact marks_6 sx sy cx cy n h' h w
    · exact marks_7 sx sy cx cy n h' h w
  · rcases hr with h' | h' | h' | h' | h' | h' | h' | h'
    · exact marksb_0 cx cy n h' h w
    · exact marksb_1 cx cy n h' h w
    · exact marksb_2 cx cy n h' h w
    · exact marksb_3 cx cy n h' h w
    · exact marksb_4 cx cy n h' h w
    · exact marksb_5 cx cy n h' h w
    · exact marksb_6 cx cy n h' h w
    · exact marksb_7 cx cy n h' h w
end Go.Proofs.Ytknbglcmjggkjaa
