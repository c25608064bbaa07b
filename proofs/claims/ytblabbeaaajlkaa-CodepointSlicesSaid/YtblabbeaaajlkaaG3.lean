import Derived.Test.YtblabbeaaajlkaaG2
namespace Go.Proofs.Ytblabbeaaajlkaa
open Go.RowKit
open U

theorem code_pt (p : Nat) (h : isPt p) (w : World) : Calls Try.prog 14 #[.int .i64 (p : Nat)] w fun e w' => e = .returned (.bool true) ∧ w = w' := by
  have := isPoint_any p w
  rw [ptB_true (by obtain ⟨h1, h2⟩ := h; omega)] at this; exact this
theorem code_npt (z : Int) (h : ptB z = false) (w : World) : Calls Try.prog 14 #[.int .i64 z] w fun e w' => e = .returned (.bool false) ∧ w = w' := by
  have := isPoint_any z w
  rw [h] at this; exact this
/-- Numbers: code points, and a rest whose first number is none. -/
structure Nums (Z : List Int) (P : List Nat) (R : List Int) : Prop where
  eq : Z = asInts P ++ R
  pts : Pts P
  rest : ∀ z T, R = z :: T → ptB z = false
theorem Nums.ex : ∀ Z : List Int, ∃ P R, Nums Z P R
  | [] => ⟨[], [], rfl, (fun _ h => by cases h), fun _ _ h => by cases h⟩
  | z :: Z => by
    by_cases h : ptB z = true
    · obtain ⟨P, R, h1, h2, h3⟩ := Nums.ex Z
      have hz : 0 ≤ z ∧ z ≤ 1114111 ∧ (z < 55296 ∨ 57343 < z) := by unfold ptB at h; exact of_decide_eq_true h
      refine ⟨z.toNat :: P, R, ?_, ?_, h3⟩
      · rw [h1, asInts, asInts, List.map_cons, List.cons_append, show ((z.toNat : Nat) : Int) = z by omega]
      · intro p hp
        rcases List.mem_cons.1 hp with rfl | hp
        · exact ⟨by omega, by omega⟩
        · exact h2 p hp
    · exact ⟨[], z :: Z, rfl, (fun _ h => by cases h), fun y T e => by cases e; simpa using h⟩
theorem Nums.length {Z P R} (h : Nums Z P R) : Z.length = P.length + R.length := by rw [h.eq, List.length_append, asInts_length]
theorem Nums.get {Z P R} (h : Nums Z P R) (k : Nat) (hk : k < P.length) (hz : k < Z.length) : Z[k] = ((P[k] : Nat) : Int) := by
  have h1 := h.eq
  subst h1
  rw [List.getElem_append_left (by rw [asInts_length]; exact hk), asInts_get]
theorem Nums.bad {Z P R} (h : Nums Z P R) (hz : P.length < Z.length) : ptB Z[P.length] = false := by
  have h1 := h.eq
  subst h1
  rw [List.getElem_append_right (by rw [asInts_length]; exact Nat.le_refl _)]
  have h2 : (asInts P ++ R).length = P.length + R.length := by rw [List.length_append, asInts_length]
  match R, h with
  | [], _ => simp [asInts] at hz
  | z :: T, h =>
    have := h.rest z T rfl
    simpa [asInts_length] using this
theorem appendEnc_at {base : Nat} (P : List Nat) (k : Nat) (hk : k < P.length) (hP : Pts P) (hl : P.length ≤ 200000) (v : Value) (w : World) (hown : w.ownsRow base 5 1 v (U.bytes (P.take k)).length (Lib.byteCells (U.bytes (P.take k)))) (hB : base ≤ w.heap.size) :
    Calls Try.prog 39 #[v, .int .i64 ((P[k] : Nat) : Int)] w (AppRet base (U.bytes (P.take (k + 1))) w) := by
  have h := appendEnc_any P[k] (hP.get k hk).1 base (U.bytes (P.take k)) v w hown hB (by have := (bytes_len (P.take k)).2; rw [List.length_take] at this; omega)
  rw [List.take_succ_eq_append_getElem hk, bytes_snoc]; exact h
theorem mk_of' (O : ByteArray) (l : List UInt8) (h : O.data.toList = l) : O = ⟨l.toArray⟩ := by subst h; rfl
theorem row_back {w : World} {base : Nat} {v : Value} {l : List UInt8} (h : w.ownsRow base 5 1 v l.length (Lib.byteCells l)) : (convert 55 9 v).run Try.prog w = .ok (.string ⟨l.toArray⟩) w := by
  rcases h.2 with ⟨hv, h0⟩ | ⟨g, cap, cur, hv, _⟩
  · have : l = [] := List.eq_nil_of_length_eq_zero h0
    subst this hv
    exact run_convert_bytes_nil w 55 5 Try.underlying55 Try.underlying5 0 0 9 Try.underlying9
  · subst hv
    refine conv_back w _ _ _ l rfl fun j hj => ?_
    have e : ((⟨g, 0, none⟩ : Addr).add j) = ⟨g, j, none⟩ := by unfold Addr.add; simp only []; split <;> simp_all
    rw [e, h.cellAt j (by omega)]
    simp [Lib.byteCells, hj]

def MakeRet (P : List Nat) (w : World) (e : Ending) (w' : World) : Prop := e = .returned (.tuple #[.string ⟨(U.bytes P).toArray⟩, .int .i64 0]) ∧ Below w.heap.size w w'
set_option maxRecDepth 100000 in
set_option maxHeartbeats 4000000 in
theorem make_some (g o cap : Nat) (Z : List Int) (P : List Nat) (R : List Int) (hN : Nums Z P R) (hZ : Z.length ≤ 200000) (w : World) (hg : g < w.heap.size) (hc : ∀ j (h : j < Z.length), w.cell? ⟨g, o + j, none⟩ = some (.int .i64 Z[j])) :
    Calls Try.prog 21 #[.slice (some ⟨g, o, none⟩) Z.length cap] w fun e w' => (R = [] → MakeRet P w e w') ∧ (R ≠ [] → e = .returned (.tuple #[.string ⟨#[]⟩, .int .i64 2]) ∧ Below w.heap.size w w') := by
  obtain ⟨i0, hi, hz0, hz1, hz2⟩ := info_parts byteInfo2
  have hlen := hN.length
  have hPl : P.length ≤ 200000 := by omega
  have HL := Lib.hid hlen
  have HC := Lib.hid hc
  clear hlen hc
  go_enter Try.func21, Try.ntmps21
  go_wp2_with (at_make; refine wpList_make_own _ rfl _ _ 55 rfl w.heap.size 5 i0 (.int .u8 0) 1 Try.underlying55 hi hz0 hz1 _ _ _ Z.length rfl rfl rfl ?b2 ?b3 (Nat.le_refl _) ?_)
  case b2 => rw [hz2]; omega
  case b3 => unfold maxLen; omega
  intro w0 hown0 hgrow0
  go_wp2
  go_loopw [4, 12] (fun v i wr => ∃ k : Nat, k ≤ P.length ∧ i = .int .i64 (k : Nat) ∧ wr.ownsRow w.heap.size 5 1 v (U.bytes (P.take k)).length (Lib.byteCells (U.bytes (P.take k))) ∧ Below w.heap.size w wr) (fun _ i _ => Z.length - (intOf i).toNat)
  case atStart => exact ⟨0, Nat.zero_le _, rfl, hown0, (Below.refl _ _).grown hgrow0 (Nat.le_refl _) (fun k h => by cases h)⟩
  case round =>
    obtain ⟨k, hk, rfl, hown, hbw⟩ := hrel
    have hw0 := hbw.size
    by_cases hlt : k < P.length
    · have hkz : k < Z.length := by have := HL.out; omega
      have c1 : wr.cell? ⟨g, o + k, none⟩ = some (.int .i64 ((P[k] : Nat) : Int)) := by
        rw [← hN.get k hlt hkz]; exact (hbw.cell (p := ⟨g, o + k, none⟩) hg).trans (HC.out k hkz)
      have hpt := hN.pts.get k hlt
      have HA := Lib.hid (appendEnc_at P k hlt hN.pts hPl _ wr hown hw0)
      have HBW := Lib.hid hbw
      clear hown hbw
      go_wp2_with (first | (go_at_call 14; refine (code_pt _ hpt _).mono ?_; rintro e w' ⟨rfl, rfl⟩) | (go_at_call 39; refine HA.out.mono ?_; rintro e w1 ⟨v1, rfl, hown1, hb1⟩))
      go_roundw
      case rel => exact ⟨k + 1, by omega, by go_num, hown1, HBW.out.trans hb1⟩
      case measure => simp [intOf]; omega
    · obtain rfl : k = P.length := by omega
      by_cases hR : R = []
      · have k1 : ¬ ((P.length : Nat) : Int) < (Z.length : Int) := by have := HL.out; rw [hR, List.length_nil] at this; omega
        rw [List.take_length] at hown
        have hconv := row_back hown
        have HR := Lib.hid hR
        clear hown hR
        go_wp2
        go_ret2
        exact ⟨fun _ => ⟨rfl, hbw⟩, fun h => absurd HR.out h⟩
      · have hpos : 0 < R.length := List.length_pos_iff.2 hR
        have hkz : P.length < Z.length := by have := HL.out; omega
        have hbad := Lib.hid (hN.bad hkz)
        have c1 : wr.cell? ⟨g, o + P.length, none⟩ = some (.int .i64 Z[P.length]) := (hbw.cell (p := ⟨g, o + P.length, none⟩) hg).trans (HC.out _ hkz)
        have HR := Lib.hid hR
        clear hown hR
        go_wp2_with (go_at_call 14; refine (code_npt _ hbad.out _).mono ?_; rintro e w' ⟨rfl, rfl⟩)
        go_ret2
        exact ⟨fun h => absurd h HR.out, fun _ => ⟨rfl, hbw⟩⟩
set_option maxRecDepth 100000 in
set_option maxHeartbeats 4000000 in
theorem make_none (a : Option Addr) (cap : Nat) (w : World) :
    Calls Try.prog 21 #[.slice a 0 cap] w (MakeRet [] w) := by
  obtain ⟨i0, hi, hz0, hz1, hz2⟩ := info_parts byteInfo2
  go_enter Try.func21, Try.ntmps21
  go_wp2_with (at_make; refine wpList_make_own _ rfl _ _ 55 rfl w.heap.size 5 i0 (.int .u8 0) 1 Try.underlying55 hi hz0 hz1 _ _ _ 0 rfl rfl rfl ?b2 ?b3 (Nat.le_refl _) ?_)
  case b2 => rw [hz2]; omega
  case b3 => unfold maxLen; omega
  intro w0 hown0 hgrow0
  have hconv := row_back (l := []) hown0
  go_wp2
  refine wp_loop_rounds 1 ?_
  rw [rounds_succ]
  go_wp2
  go_ret2
  exact ⟨rfl, (Below.refl _ _).grown hgrow0 (Nat.le_refl _) (fun k h => by cases h)⟩
theorem make_ok (v : Value) (P : List Nat) (hP : Pts P) (hl : P.length ≤ 200000) (w : World) (h : SliceAt w v (asInts P)) : Calls Try.prog 21 #[v] w (MakeRet P w) := by
  rcases h with ⟨h0, a, c, rfl⟩ | ⟨g, o, cap, rfl, hg, hc⟩
  · have : P = [] := by have := congrArg List.length h0; rw [asInts_length] at this; exact List.eq_nil_of_length_eq_zero this
    subst this
    exact make_none a c w
  · have hN : Nums (asInts P) P [] := ⟨by simp, hP, fun _ _ h => by cases h⟩
    exact (make_some g o cap _ P [] hN (by rw [asInts_length]; exact hl) w hg hc).mono fun e w' h => h.1 rfl
theorem make_bad (v : Value) (Z : List Int) (P : List Nat) (R : List Int) (hN : Nums Z P R) (hR : R ≠ []) (hl : Z.length ≤ 200000) (w : World) (h : SliceAt w v Z) :
    Calls Try.prog 21 #[v] w fun e w' => e = .returned (.tuple #[.string ⟨#[]⟩, .int .i64 2]) ∧ Below w.heap.size w w' := by
  rcases h with ⟨h0, a, c, rfl⟩ | ⟨g, o, cap, rfl, hg, hc⟩
  · have := hN.length
    rw [h0, List.length_nil] at this
    exact absurd (List.eq_nil_of_length_eq_zero (by omega)) hR
  · exact (make_some g o cap _ P R hN hl w hg hc).mono fun e w' h => h.2 hR

theorem IntsAt.form {w : World} {v : Value} {P : List Nat} (h : IntsAt w v P) : ∃ a c, v = .slice a P.length c := by
  rcases h with ⟨rfl, h⟩ | ⟨g, cap, hv, _⟩
  · exact ⟨_, _, h⟩
  · exact ⟨_, _, hv⟩
/-! ### the law on Points -/
set_option maxRecDepth 100000 in
set_option maxHeartbeats 4000000 in
theorem law_points (s : ByteArray) (hs : s.size ≤ maxLen) (w : World) :
    Calls Try.prog 4 #[.string s] w (TrueRet w) := by
  have hz := cutS_size s
  have hsm := cutS_small s
  have HC := Lib.hid (fun w => cut_any s hs w)
  clear hs
  generalize cutS s = c at *
  obtain ⟨P, bad, hS⟩ := Str.ex c hsm
  by_cases hb : bad = []
  · subst hb
    have hsize := hS.size
    have hll := (bytes_len P).1
    have hPl : P.length ≤ 300 := by omega
    have hc : c = ⟨(U.bytes P).toArray⟩ := mk_of' c _ (by rw [hS.eq, List.append_nil])
    have HX := Lib.hid hc
    have hf : fstI P [] = -1 := rfl
    have HF := Lib.hid (fun w => refFirst_any hS w)
    rw [hf] at HF
    clear hc hsize hll hf
    go_enter Try.func4, Try.ntmps4
    go_wp2_with (first | (go_at_call 12; refine (HC.out _).mono ?_; rintro e w' ⟨rfl, rfl⟩) | (go_at_call 13; refine (known_any _).mono ?_; rintro e w1 ⟨rfl, hb1⟩) | (go_at_call 20; refine (count_ok hS _).mono ?_; rintro e w' ⟨rfl, rfl⟩) | (go_at_call 17; refine (HF.out _).mono ?_; rintro e w2 ⟨rfl, hb2⟩) | (go_at_call 19; refine (points_ok hS _).mono ?_; rintro e w0 ⟨v0, rfl, hI0, hb0⟩; obtain ⟨a0, c0, rfl⟩ := hI0.form))
    have hI2 := ((hI0.below hb1).below hb2)
    refine (make_ok _ P hS.pts (by omega) _ hI2.slice).mono ?_
    rintro e w3 ⟨rfl, hb3⟩
    go_wp2_with fail
    refine (refPoints_any hS _).mono ?_
    rintro e w4 ⟨v4, rfl, hI4, hb4⟩
    go_wp2_with fail
    refine (same_all _ _ (asInts P) (by rw [asInts_length]; omega) _ ((hI2.below hb3).below hb4).slice hI4.slice).mono ?_
    rintro e w5 ⟨rfl, hb5⟩
    go_wp2
    go_ret
    exact ⟨ret_bool (by rw [HX.out]; first | rfl | simp), chain (chain (chain (chain (chain hb0 hb1) hb2) hb3) hb4) hb5⟩
  · have hf : fstI P bad = ((U.bytes P).length : Nat) := if_neg hb
    have HF := Lib.hid (fun w => refFirst_any hS w)
    rw [hf] at HF
    clear hf
    go_enter Try.func4, Try.ntmps4
    go_wp2_with (first | (go_at_call 12; refine (HC.out _).mono ?_; rintro e w' ⟨rfl, rfl⟩) | (go_at_call 13; refine (known_any _).mono ?_; rintro e w1 ⟨rfl, hb1⟩) | (go_at_call 20; refine (count_no hS hb _).mono ?_; rintro e w' ⟨rfl, rfl⟩) | (go_at_call 17; refine (HF.out _).mono ?_; rintro e w2 ⟨rfl, hb2⟩) | (go_at_call 19; refine (points_no hS hb _).mono ?_; rintro e w' ⟨rfl, rfl⟩))
    go_ret
    exact ⟨rfl, chain hb1 hb2⟩
end Go.Proofs.Ytblabbeaaajlkaa
