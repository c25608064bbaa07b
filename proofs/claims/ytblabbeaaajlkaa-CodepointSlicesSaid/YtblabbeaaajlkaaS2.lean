import Derived.Test.YtblabbeaaajlkaaS1
import Derived.Test.YtblabbeaaajlkaaE2
namespace Go.Proofs.Ytblabbeaaajlkaa
open Go.RowKit
open U

theorem cutP_length (P : List Nat) (x y : Nat) (hy : y ≤ P.length) : (cutP P x y).length = y - x := by unfold cutP; rw [List.length_drop, List.length_take]; omega
theorem cutP_pts {P : List Nat} (h : Pts P) (x y : Nat) : Pts (cutP P x y) := fun p hp => h p (List.mem_of_mem_take (List.mem_of_mem_drop hp))
theorem cutP_join (P : List Nat) (x y z : Nat) (h1 : x ≤ y) (h2 : y ≤ z) (h3 : z ≤ P.length) : cutP P x y ++ cutP P y z = cutP P x z := by
  unfold cutP
  have e : P.take z = P.take y ++ (P.take z).drop y := by
    conv => lhs; rw [← List.take_append_drop y (P.take z)]
    rw [List.take_take, Nat.min_eq_left h2]
  have e2 : (P.take z).drop x = (P.take y).drop x ++ (P.take z).drop y := by
    conv => lhs; rw [e]
    rw [List.drop_append_of_le_length (by rw [List.length_take]; omega)]
  exact e2.symm
theorem cut_at {w : World} {g cap : Nat} {P : List Nat} (hg : g < w.heap.size) (hc : ∀ j (h : j < P.length), w.cell? ⟨g, j, none⟩ = some (.int .i64 ((P[j] : Nat) : Int))) (x y : Nat) (_hx : x ≤ y) (hy : y ≤ P.length) : SliceAt w (.slice (some ⟨g, x, none⟩) (y - x) cap) (asInts (cutP P x y)) := by
  have e : (asInts (cutP P x y)).length = y - x := by rw [asInts_length, cutP_length P x y hy]
  refine .inr ⟨g, x, cap, by rw [e], hg, fun j hj => ?_⟩
  rw [e] at hj
  rw [asInts_get, hc (x + j) (by omega)]
  simp only [cutP, List.getElem_drop, List.getElem_take]
theorem cut_obj {c : ByteArray} {P : List Nat} (hS : Str c P []) (x y : Nat) (hx : x ≤ y) (hy : y ≤ P.length) : c.extract (off P x) (off P y) = ⟨(U.bytes (cutP P x y)).toArray⟩ := mk_of _ _ (cut_str hS x y hx hy)

set_option maxRecDepth 100000 in
set_option maxHeartbeats 2000000 in
theorem refSlice_lt {c : ByteArray} {P} (hS : Str c P []) (hc3 : c.size ≤ 300) (x y : Nat) (hx : x < y) (hy : y ≤ P.length) (w : World) :
    Calls Try.prog 30 #[.string c, .int .i64 (x : Nat), .int .i64 (y : Nat)] w fun e w' => e = .returned (.tuple #[.string ⟨(U.bytes (cutP P x y)).toArray⟩, .int .i64 0]) ∧ Below w.heap.size w w' := by
  have hPl : P.length ≤ 300 := by have := hS.size; have := (bytes_len P).1; omega
  have hf : fstI P [] = -1 := rfl
  have HF := Lib.hid (fun w => refFirst_any hS w)
  rw [hf] at HF
  have hQ := cutP_length P x y hy
  have HQ := Lib.hid hQ
  clear hf hQ
  go_enter Try.func30, Try.ntmps30
  go_wp2_with fail
  refine (HF.out _).mono ?_
  rintro e w2 ⟨rfl, hb2⟩
  go_wp2_with fail
  refine (refPoints_cap hS _).mono ?_
  rintro e w3 ⟨v3, rfl, hI3, hb3⟩
  rcases hI3 with ⟨h, _⟩ | ⟨g, cap, rfl, hlc, hcap, hg, hc⟩
  · subst h; simp at hy; omega
  have HA := Lib.hid (cut_at (cap := cap - x) hg hc x y (by omega) hy)
  clear hc
  go_wp2_with fail
  refine (refMake_ok _ (cutP P x y) (cutP_pts hS.pts x y) (by rw [HQ.out]; omega) _ HA.out).mono ?_
  rintro e w4 ⟨rfl, hb4⟩
  go_wp2
  go_ret2
  exact ⟨rfl, chain (chain hb2 hb3) hb4⟩
set_option maxRecDepth 100000 in
set_option maxHeartbeats 2000000 in
theorem refSlice_eq {c : ByteArray} {P} (hS : Str c P []) (x : Nat) (hy : x ≤ P.length) (w : World) :
    Calls Try.prog 30 #[.string c, .int .i64 (x : Nat), .int .i64 (x : Nat)] w fun e w' => e = .returned (.tuple #[.string ⟨(U.bytes (cutP P x x)).toArray⟩, .int .i64 0]) ∧ Below w.heap.size w w' := by
  have hf : fstI P [] = -1 := rfl
  have HF := Lib.hid (fun w => refFirst_any hS w)
  rw [hf] at HF
  have hQ : cutP P x x = [] := List.eq_nil_of_length_eq_zero (by rw [cutP_length P x x hy]; omega)
  rw [hQ]
  clear hf hQ
  go_enter Try.func30, Try.ntmps30
  go_wp2_with fail
  refine (HF.out _).mono ?_
  rintro e w2 ⟨rfl, hb2⟩
  go_wp2_with fail
  refine (refPoints_cap hS _).mono ?_
  rintro e w3 ⟨v3, rfl, hI3, hb3⟩
  obtain ⟨A, cap, rfl, hlc, hcap, hpre⟩ := hI3.pre
  clear hpre hI3
  go_wp2_with fail
  · refine (refMake_none _ _ _).mono ?_
    rintro e w4 ⟨rfl, hb4⟩
    go_wp2
    go_ret2
    exact ⟨rfl, chain (chain hb2 hb3) hb4⟩
  · refine (refMake_none _ _ _).mono ?_
    rintro e w4 ⟨rfl, hb4⟩
    go_wp2
    go_ret2
    exact ⟨rfl, chain (chain hb2 hb3) hb4⟩

/-- What both Slices answer: one string, one error. -/
theorem slice_obj {c : ByteArray} {P bad} (hS : Str c P bad) (hc3 : c.size ≤ 300) (x y : Int) (hx : x ≤ 9223372036854775807) (hy : -9223372036854775808 ≤ y ∧ y ≤ 9223372036854775807) :
    ∃ (X : ByteArray) (E : Int), X.size ≤ 1000000 ∧ (∀ w, Calls Try.prog 29 #[.string c, .int .i64 x, .int .i64 y] w fun e w' => e = .returned (.tuple #[.string X, .int .i64 E]) ∧ Below w.heap.size w w')
      ∧ (∀ w, Calls Try.prog 30 #[.string c, .int .i64 x, .int .i64 y] w fun e w' => e = .returned (.tuple #[.string X, .int .i64 E]) ∧ Below w.heap.size w w')
      ∧ (E = 0 → bad = [] ∧ slOk P x y) ∧ (bad = [] → slOk P x y → X.data.toList = U.bytes (cutP P x.toNat y.toNat)) := by
  by_cases hb : bad = []
  · subst hb
    by_cases h : slOk P x y
    · obtain ⟨h1, h2, h3⟩ := h
      obtain ⟨n, rfl⟩ := Int.eq_ofNat_of_zero_le h1
      obtain ⟨m, rfl⟩ := Int.eq_ofNat_of_zero_le (Int.le_trans h1 h2)
      have hnm : n ≤ m := by omega
      have hmP : m ≤ P.length := by omega
      refine ⟨c.extract (off P n) (off P m), 0, by rw [ByteArray.size_extract]; omega, fun w => slice_yes hS n m hnm hmP w, fun w => ?_, fun _ => ⟨rfl, h1, h2, h3⟩, fun _ _ => ?_⟩
      · rw [cut_obj hS n m hnm hmP]
        by_cases he : n = m
        · subst he; exact refSlice_eq hS n hmP w
        · exact refSlice_lt hS hc3 n m (by omega) hmP w
      · rw [show ((n : Int)).toNat = n by omega, show ((m : Int)).toNat = m by omega]
        exact cut_str hS n m hnm hmP
    · exact ⟨⟨#[]⟩, 2, by decide, fun w => (slice_out hS x y hx hy h w).mono fun e w' ⟨h1, h2⟩ => ⟨h1, h2 ▸ Below.refl _ _⟩, fun w => refSlice_out hS x y h w, fun h => absurd h (by decide), fun _ q => absurd q h⟩
  · exact ⟨⟨#[]⟩, 12, by decide, fun w => (slice_no hS hb x y w).mono fun e w' ⟨h1, h2⟩ => ⟨h1, h2 ▸ Below.refl _ _⟩, fun w => refSlice_no hS hb x y w, fun h => absurd h (by decide), fun q => absurd q hb⟩

/-- The three numbers in their box. -/
def Box (W : World) (B : Nat) (a b d : Int) : Prop := B < W.heap.size ∧ W.cell? ⟨B, 0, none⟩ = some (.int .i64 a) ∧ W.cell? ⟨B, 1, none⟩ = some (.int .i64 b) ∧ W.cell? ⟨B, 2, none⟩ = some (.int .i64 d)
theorem Box.start (w : World) (a b d : Int) : Box (w.alloc (.cells #[.int .i64 a, .int .i64 b, .int .i64 d] 47)) w.heap.size a b d :=
  ⟨by simp, (World.cell?_alloc_mark w _ 47 (0, 0) 0).trans rfl, (World.cell?_alloc_mark w _ 47 (0, 0) 1).trans rfl, (World.cell?_alloc_mark w _ 47 (0, 0) 2).trans rfl⟩
theorem Box.below {W W' : World} {B : Nat} {a b d : Int} (h : Box W B a b d) (hb : Below W.heap.size W W') : Box W' B a b d :=
  ⟨Nat.lt_of_lt_of_le h.1 hb.size, (hb.cell (p := ⟨B, 0, none⟩) h.1).trans h.2.1, (hb.cell (p := ⟨B, 1, none⟩) h.1).trans h.2.2.1, (hb.cell (p := ⟨B, 2, none⟩) h.1).trans h.2.2.2⟩
set_option maxRecDepth 100000 in
set_option maxHeartbeats 4000000 in
theorem law_slices (s : ByteArray) (a b d : Int) (hs : s.size ≤ maxLen) (ha : a ≤ 9223372036854775807) (hb : -9223372036854775808 ≤ b ∧ b ≤ 9223372036854775807) (hd : -9223372036854775808 ≤ d ∧ d ≤ 9223372036854775807) (w : World) :
    Calls Try.prog 8 #[.string s, .agg #[.int .i64 a, .int .i64 b, .int .i64 d]] w (TrueRet w) := by
  have hz := cutS_size s
  have hsm := cutS_small s
  have HC := Lib.hid (fun w => cut_any s hs w)
  clear hs
  generalize cutS s = c at *
  obtain ⟨P, bad, hS⟩ := Str.ex c hsm
  obtain ⟨X, E, hX, hX1, hX2, hX3, hX4⟩ := slice_obj hS hz a d ha hd
  obtain ⟨Y, F, hY, hY1, _, hY3, hY4⟩ := slice_obj hS hz a b ha hb
  obtain ⟨Z, G, hZ, hZ1, _, hZ3, hZ4⟩ := slice_obj hS hz b d hb.2 hd
  have H1 := Lib.hid hX1
  have H2 := Lib.hid hX2
  have H3 := Lib.hid hY1
  have H4 := Lib.hid hZ1
  have hjoin : F = 0 → G = 0 → Y ++ Z = X := by
    intro f g
    obtain ⟨b0, y1, y2, y3⟩ := hY3 f
    obtain ⟨_, z1, z2, z3⟩ := hZ3 g
    refine bytes_eq ?_
    rw [append_list, hY4 b0 ⟨y1, y2, y3⟩, hZ4 b0 ⟨z1, z2, z3⟩, hX4 b0 ⟨y1, by omega, z3⟩, ← bytes_append, cutP_join P a.toNat b.toNat d.toNat (by omega) (by omega) (by omega)]
  have HJ := Lib.hid hjoin
  clear hX1 hX2 hX3 hX4 hY1 hY3 hY4 hZ1 hZ3 hZ4 hjoin ha hb hd
  go_enter Try.func8, Try.ntmps8
  go_wp2_with fail
  refine (HC.out _).mono ?_
  rintro e w' ⟨rfl, rfl⟩
  go_wp2_with fail
  refine (H1.out _).mono ?_
  rintro e w1 ⟨rfl, hb1⟩
  have hB1 := (Box.start w a b d).below hb1
  have hw1 : Below w.heap.size w w1 := ((Below.refl _ w).alloc (Nat.le_refl _) _).trans (hb1.mono (by simp))
  have HB1 := Lib.hid hB1
  clear hb1
  obtain ⟨q0, q1, q2, q3⟩ := hB1
  go_wp2_with fail
  refine (H2.out _).mono ?_
  rintro e w2 ⟨rfl, hb2⟩
  have HB2 := Lib.hid (HB1.out.below hb2)
  have hw2 := chain hw1 hb2
  clear q0 q1 q2 q3 hb2 HB1 hw1
  go_wp2_with fail
  refine (known_any _).mono ?_
  rintro e w3 ⟨rfl, hb3⟩
  have hB3 := HB2.out.below hb3
  have HB3 := Lib.hid hB3
  have hw3 := chain hw2 hb3
  clear hb3 HB2 hw2
  obtain ⟨q0, q1, q2, q3⟩ := hB3
  go_wp2_with fail
  refine (H3.out _).mono ?_
  rintro e w4 ⟨rfl, hb4⟩
  have hB4 := HB3.out.below hb4
  have HB4 := Lib.hid hB4
  have hw4 := chain hw3 hb4
  clear q0 q1 q2 q3 hb4 HB3 hw3
  obtain ⟨q0, q1, q2, q3⟩ := hB4
  go_wp2_with fail
  refine (H4.out _).mono ?_
  rintro e w5 ⟨rfl, hb5⟩
  have hw5 := chain hw4 hb5
  clear q0 q1 q2 q3 hb5 hw4
  by_cases f0 : F = 0
  · by_cases g0 : G = 0
    · have hj := Lib.hid (HJ.out f0 g0)
      subst f0 g0
      go_wp2
      go_ret
      exact ⟨ret_bool (by rw [hj.out]; first | rfl | simp), hw5⟩
    · have g1 : (G != 0) = true := by rw [bne_iff_ne]; exact g0
      subst f0
      go_wp2
      go_ret
      exact ⟨ret_bool (by first | rfl | simp), hw5⟩
  · have f1 : (F != 0) = true := by rw [bne_iff_ne]; exact f0
    go_wp2
    go_ret
    exact ⟨ret_bool (by first | rfl | simp), hw5⟩
end Go.Proofs.Ytblabbeaaajlkaa
