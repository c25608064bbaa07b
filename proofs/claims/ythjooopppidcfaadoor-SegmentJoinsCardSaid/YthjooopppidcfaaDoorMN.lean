import Derived.Test.YthjooopppidcfaaDoorMM

namespace Go.Proofs.YthjooopppidcfaaDoor.Cp
open Go.RowKit
open U
theorem append_list (a b : ByteArray) : (a ++ b).data.toList = a.data.toList ++ b.data.toList := by
  rw [ByteArray.data_append]; simp
theorem encode_obj (p : Nat) (h : p ≤ 1114111) : ∃ E : ByteArray, E.data.toList = enc p ∧ 1 ≤ E.size ∧ E.size ≤ 4 ∧ ∀ w, Calls Tryd.prog 69 #[.int .i64 p] w fun e w' => e = .returned (.string E) ∧ Below w.heap.size w w' := by
  refine ⟨⟨(enc p).toArray⟩, rfl, ?_, ?_, fun w => encode_any p h w⟩
  · exact (enc_pos p).1
  · exact (enc_pos p).2
theorem mk_list (l : List UInt8) : (⟨l.toArray⟩ : ByteArray).data.toList = l := rfl
theorem mk_of (O : ByteArray) (l : List UInt8) (h : O.data.toList = l) : O = ⟨l.toArray⟩ := by subst h; rfl


theorem str_bound {O : ByteArray} {P : List Nat} {k : Nat} (h : O.data.toList = U.bytes (P.take k)) (hl : P.length ≤ 200000) : O.size ≤ 800000 := by
  have h1 : O.data.toList.length = O.size := by simp
  have h2 := (bytes_len (P.take k)).2
  rw [List.length_take] at h2
  rw [h] at h1
  omega
set_option maxRecDepth 100000 in
set_option maxHeartbeats 4000000 in
theorem refMake_some (g o cap : Nat) (P : List Nat) (hP : Pts P) (hl : P.length ≤ 200000) (w : World) (hg : g < w.heap.size) (hc : ∀ j (h : j < P.length), w.cell? ⟨g, o + j, none⟩ = some (.int .i64 ((P[j] : Nat) : Int))) :
    Calls Tryd.prog 48 #[.slice (some ⟨g, o, none⟩) P.length cap] w (StrRet (U.bytes P) w) := by
  have HC := Lib.hid hc
  clear hc
  go_enter Tryd.func48, Tryd.ntmps48
  go_wp2
  go_loopw [3, 4] (fun v i wr => ∃ (k : Nat) (O : ByteArray), k ≤ P.length ∧ i = .int .i64 (k : Nat) ∧ v = .string O ∧ O.size ≤ 800000 ∧ O.data.toList = U.bytes (P.take k) ∧ Below w.heap.size w wr) (fun _ i _ => P.length - (intOf i).toNat)
  case atStart => exact ⟨0, ⟨#[]⟩, Nat.zero_le _, rfl, rfl, by decide, rfl, Below.refl _ _⟩
  case round =>
    obtain ⟨k, O, hk, rfl, rfl, hO, hOl, hbw⟩ := hrel
    have HO := Lib.hid hOl
    clear hOl
    by_cases hlt : k < P.length
    · have c1 : wr.cell? ⟨g, o + k, none⟩ = some (.int .i64 ((P[k] : Nat) : Int)) := (hbw.cell (p := ⟨g, o + k, none⟩) hg).trans (HC.out k hlt)
      obtain ⟨E, hE, hE1, hE4, hEc⟩ := encode_obj P[k] (hP.get k hlt).1
      have HEc := Lib.hid hEc
      have HN := Lib.hid (show (O ++ E).data.toList = U.bytes (P.take (k + 1)) by rw [append_list, HO.out, hE, List.take_succ_eq_append_getElem hlt, bytes_snoc])
      clear hE hEc
      go_wp2_with (go_at_call 69; refine (HEc.out _).mono ?_; rintro e w1 ⟨rfl, hb1⟩)
      go_roundw
      case rel => exact ⟨k + 1, O ++ E, by omega, by go_num, rfl, str_bound HN.out hl, HN.out, chain hbw hb1⟩
      case measure => simp [intOf]; omega
    · have hfin : O = ⟨(U.bytes P).toArray⟩ := by
        refine mk_of _ _ ?_
        rw [HO.out, show k = P.length by omega, List.take_length]
      have HF := Lib.hid hfin
      clear hfin
      go_wp2
      go_ret
      exact ⟨by rw [← HF.out]; rfl, hbw⟩
set_option maxRecDepth 100000 in
set_option maxHeartbeats 1000000 in
theorem refMake_none (a : Option Addr) (cap : Nat) (w : World) : Calls Tryd.prog 48 #[.slice a 0 cap] w (StrRet [] w) := by
  go_enter Tryd.func48, Tryd.ntmps48
  go_wp2
  refine wp_loop_rounds 1 ?_
  rw [rounds_succ]
  go_wp2
  go_ret
  exact ⟨rfl, Below.refl _ _⟩
theorem refMake_ok (v : Value) (P : List Nat) (hP : Pts P) (hl : P.length ≤ 200000) (w : World) (h : SliceAt w v (asInts P)) : Calls Tryd.prog 48 #[v] w (StrRet (U.bytes P) w) := by
  rcases h with ⟨h0, a, c, rfl⟩ | ⟨g, o, cap, rfl, hg, hc⟩
  · have : P = [] := by have := congrArg List.length h0; rw [asInts_length] at this; exact List.eq_nil_of_length_eq_zero this
    subst this
    exact refMake_none a c w
  · rw [asInts_length]
    refine refMake_some g o cap P hP hl w hg fun j hj => ?_
    have := hc j (by rw [asInts_length]; exact hj)
    rw [asInts_get] at this
    exact this
end Go.Proofs.YthjooopppidcfaaDoor.Cp

namespace Go.Proofs.YthjooopppidcfaaDoor.Cp
open Go.RowKit
open U

theorem ref_bad (z : Int) (h : ptB z = false) (w : World) : Calls Tryd.prog 92 #[.int .i64 z] w fun e w' => e = .returned (.bool false) ∧ w = w' := by
  have := refIsPoint_any z w
  rw [h] at this; exact this
end Go.Proofs.YthjooopppidcfaaDoor.Cp

namespace Go.Proofs.YthjooopppidcfaaDoor.Cp
open Go.RowKit
open U

/-- A slice of numbers in memory, with its room. -/
def IntsCap (w : World) (v : Value) (P : List Nat) : Prop :=
  (P = [] ∧ v = .slice none 0 0) ∨ ∃ g cap, v = .slice (some ⟨g, 0, none⟩) P.length cap ∧ P.length ≤ cap ∧ cap ≤ 9223372036854775807 ∧ g < w.heap.size ∧ ∀ j (h : j < P.length), w.cell? ⟨g, j, none⟩ = some (.int .i64 ((P[j] : Nat) : Int))
theorem IntsCap.of {w : World} {base : Nat} {v : Value} {P : List Nat} (h : w.ownsRow base 3 1 v P.length (ints P)) : IntsCap w v P := by
  rcases IntsAt.of h with h1 | ⟨g, cap, hv, hg, hc⟩
  · exact .inl h1
  · refine .inr ⟨g, cap, hv, ?_, ?_, hg, hc⟩
    all_goals
      rcases h.2 with ⟨h1, _⟩ | ⟨g2, cap2, cur, h1, _, _, h2, h3, _⟩
      · rw [hv] at h1; cases h1
      · rw [hv] at h1; cases h1; unfold maxLen at h3; omega
theorem IntsCap.below {w w' : World} {v : Value} {P : List Nat} (h : IntsCap w v P) (hb : Below w.heap.size w w') : IntsCap w' v P := by
  rcases h with h | ⟨g, cap, hv, h1, h2, hg, hc⟩
  · exact .inl h
  · exact .inr ⟨g, cap, hv, h1, h2, Nat.lt_of_lt_of_le hg hb.size, fun j hj => (hb.cell (p := ⟨g, j, none⟩) hg).trans (hc j hj)⟩
/-- The numbers of a beginning, in the same row. -/
theorem prefix_at {w : World} {g cap : Nat} {P : List Nat} (hg : g < w.heap.size) (hc : ∀ j (h : j < P.length), w.cell? ⟨g, j, none⟩ = some (.int .i64 ((P[j] : Nat) : Int))) (i : Nat) (hi : i ≤ P.length) : SliceAt w (.slice (some ⟨g, 0, none⟩) i cap) (asInts (P.take i)) := by
  have e : (asInts (P.take i)).length = i := by rw [asInts_length, List.length_take]; omega
  refine .inr ⟨g, 0, cap, by rw [e], hg, fun j hj => ?_⟩
  rw [e] at hj
  rw [asInts_get, Nat.zero_add, hc j (by omega), List.getElem_take]
theorem pts_take {P : List Nat} (h : Pts P) (i : Nat) : Pts (P.take i) := fun p hp => h p (List.mem_of_mem_take hp)
theorem make_prefix {P : List Nat} (hP : Pts P) (hl : P.length ≤ 200000) (i : Nat) : ∃ X : ByteArray, X.size = off P i ∧ ∀ (w : World) (v : Value), SliceAt w v (asInts (P.take i)) → Calls Tryd.prog 48 #[v] w fun e w' => e = .returned (.string X) ∧ Below w.heap.size w w' := by
  refine ⟨⟨(U.bytes (P.take i)).toArray⟩, rfl, fun w v h => ?_⟩
  exact refMake_ok v (P.take i) (pts_take hP i) (by rw [List.length_take]; omega) w h

/-- What the reference's Points hands back. -/
def RefCapRet (P : List Nat) (w : World) (e : Ending) (w' : World) : Prop := ∃ v, e = .returned v ∧ IntsCap w' v P ∧ Below w.heap.size w w'
set_option maxRecDepth 100000 in
set_option maxHeartbeats 4000000 in
theorem refPoints_cap {s P bad} (h : Str s P bad) (w : World) :
    Calls Tryd.prog 47 #[.string s] w (RefCapRet P w) := by
  obtain ⟨i0, hi, hz0, hz1, hz2⟩ := info_parts intInfo
  have hsz := h.small
  have hsize := h.size
  have hend := off_end P
  have hll := (bytes_len P).1
  rw [← hend] at hsize hll
  have hP : P.length ≤ 1000000 := by omega
  clear hend hll
  have HZ := Lib.hid hsize
  clear hsize
  go_enter Tryd.func47, Tryd.ntmps47
  go_wp2
  go_loopw [3, 4] (fun v i wr => ∃ k : Nat, k ≤ P.length ∧ i = .int .i64 (off P k : Nat) ∧ wr.ownsRow w.heap.size 3 1 v k (ints (P.take k)) ∧ Below w.heap.size w wr) (fun _ i _ => s.size - (intOf i).toNat)
  case atStart => exact ⟨0, Nat.zero_le _, rfl, World.ownsRow_nil _ _ _ _, Below.refl _ _⟩
  case round =>
    obtain ⟨k, hk, rfl, hown, hbw⟩ := hrel
    have hw0 := hbw.size
    by_cases hlt : k < P.length
    · have h1 := h.lt k hlt
      have h2 := enc_pos P[k]
      have k2 : (((enc P[k]).length : Int) == 0) = false := by rw [beq_eq_false_iff_ne]; omega
      have HS := Lib.hid (off_succ P k hlt)
      have HT := Lib.hid (show P.take (k + 1) = P.take k ++ [P[k]] from List.take_succ_eq_append_getElem hlt)
      go_wp2_with fail
      refine (decode_ok h k hlt _).mono ?_
      rintro e w1 ⟨rfl, hb1⟩
      have hown1 : w1.ownsRow w.heap.size 3 1 _ k (ints (P.take k)) := ownsRow_below hown hb1
      have hw1 := hb1.size
      have hbw1 := chain hbw hb1
      go_wp2_with (at_builtin; refine wpList_append_own _ rfl _ _ 37 rfl w.heap.size 3 i0 (.int .i64 0) 1 8 Tryd.underlying37 hi hz0 hz1 hz2 rfl (by decide) _ _ _ rfl (hown1.alloc _) ⟨w1.heap.size, 0, none⟩ 1 1 [.int .i64 ((P[k] : Nat) : Int)] rfl rfl (cell_one_new _ _ _) (by intro u hu; simp at hu; subst hu; rfl) (by unfold maxLen; omega) (by omega) (by simp; omega) ?_; intro v2 w2 hown2 hgrow2 _)
      go_roundw
      case rel =>
        refine ⟨k + 1, by omega, by rw [HS.out]; go_num, ?_, (hbw1.alloc (by omega) _).grown hgrow2 (by simp; omega) (fun j e => (hown1.lt j e).1)⟩
        rw [HT.out, ints_snoc]; exact hown2
      case measure => simp [intOf]; omega
    · obtain rfl : k = P.length := by omega
      have hz := HZ.out
      rw [List.take_length] at hown
      have HI := Lib.hid (IntsCap.of hown)
      by_cases hb : bad = []
      · have k1 : ¬ ((off P P.length : Nat) : Int) < (s.size : Int) := by rw [hb, List.length_nil] at hz; omega
        clear hz hb hown
        go_wp2
        go_ret
        exact ⟨_, rfl, HI.out, hbw⟩
      · have h3 : 0 < bad.length := List.length_pos_iff.2 hb
        have k1 : ((off P P.length : Nat) : Int) < (s.size : Int) := by omega
        clear hz hb hown
        go_wp2_with (go_at_call 68; refine (decode_end h _).mono ?_; rintro e w1 ⟨rfl, hb1⟩)
        go_ret
        exact ⟨_, rfl, HI.out.below hb1, chain hbw hb1⟩
end Go.Proofs.YthjooopppidcfaaDoor.Cp

namespace Go.Proofs.YthjooopppidcfaaDoor.Cp
open Go.RowKit
open U
theorem IntsCap.pre {w : World} {v : Value} {P : List Nat} (h : IntsCap w v P) : ∃ A cap, v = .slice A P.length cap ∧ P.length ≤ cap ∧ cap ≤ 9223372036854775807 ∧ ∀ x, Below w.heap.size w x → ∀ i, i ≤ P.length → SliceAt x (.slice A i cap) (asInts (P.take i)) := by
  rcases h with ⟨rfl, hv⟩ | ⟨g, cap, hv, h1, h2, hg, hc⟩
  · exact ⟨none, 0, hv, Nat.le_refl _, by decide, fun x _ i hi => by
      obtain rfl : i = 0 := by simpa using hi
      exact .inl ⟨rfl, _, _, rfl⟩⟩
  · exact ⟨_, cap, hv, h1, h2, fun x hx i hi => prefix_at (Nat.lt_of_lt_of_le hg hx.size) (fun j h => (hx.cell (p := ⟨g, j, none⟩) hg).trans (hc j h)) i hi⟩

/-- What a slice of a string is: the units of a range, or an error. -/
def slOk (P : List Nat) (x y : Int) : Prop := 0 ≤ x ∧ x ≤ y ∧ y ≤ (P.length : Int)
def cutP (P : List Nat) (x y : Nat) : List Nat := (P.take y).drop x
theorem cut_str {c : ByteArray} {P : List Nat} (hS : Str c P []) (x y : Nat) (hx : x ≤ y) (hy : y ≤ P.length) : (c.extract (off P x) (off P y)).data.toList = U.bytes (cutP P x y) := by
  rw [Go.Lib.extract_data, hS.eq]
  have h1 : off P y = off P x + (U.bytes (cutP P x y)).length := by
    unfold off cutP
    have : P.take y = (P.take y).take x ++ (P.take y).drop x := (List.take_append_drop x (P.take y)).symm
    conv => lhs; rw [this]
    rw [bytes_append, List.length_append, List.take_take, Nat.min_eq_left hx]
  rw [h1, Nat.add_sub_cancel_left, drop_off, List.append_nil]
  have h2 : P.drop x = cutP P x y ++ P.drop y := by
    unfold cutP
    conv => lhs; rw [← List.take_append_drop y P]
    rw [List.drop_append_of_le_length (by rw [List.length_take]; omega)]
  rw [h2, bytes_append, List.take_left]
theorem rest_str {c : ByteArray} {P : List Nat} (hS : Str c P []) (x : Nat) : Str (c.extract (off P x) c.size) (P.drop x) [] := by
  refine ⟨?_, fun p hp => hS.pts p (List.mem_of_mem_drop hp), rfl, by rw [ByteArray.size_extract]; have := hS.small; omega⟩
  rw [Go.Lib.extract_data, List.take_of_length_le (by rw [List.length_drop]; simp), hS.drop]
theorem off_drop (P : List Nat) (x y : Nat) (hx : x ≤ y) : off P x + off (P.drop x) (y - x) = off P y := by
  unfold off
  have : P.take y = P.take x ++ (P.drop x).take (y - x) := by
    have e : y = x + (y - x) := by omega
    conv => lhs; rw [e]
    exact List.take_add
  rw [this, bytes_append, List.length_append]

/-! ### the reference's Slice -/
set_option maxRecDepth 100000 in
set_option maxHeartbeats 2000000 in
theorem refSlice_no {c : ByteArray} {P bad} (hS : Str c P bad) (hb : bad ≠ []) (x y : Int) (w : World) :
    Calls Tryd.prog 22 #[.string c, .int .i64 x, .int .i64 y] w fun e w' => e = .returned (.tuple #[.string ⟨#[]⟩, .int .i64 12]) ∧ Below w.heap.size w w' := by
  have hf : fstI P bad = ((U.bytes P).length : Nat) := if_neg hb
  have HF := Lib.hid (fun w => refFirst_any hS w)
  rw [hf] at HF
  clear hf
  go_enter Tryd.func22, Tryd.ntmps22
  go_wp2_with (go_at_call 46; refine (HF.out _).mono ?_; rintro e w2 ⟨rfl, hb2⟩)
  go_ret2
  exact ⟨rfl, hb2⟩
set_option maxRecDepth 100000 in
set_option maxHeartbeats 2000000 in
theorem refSlice_out {c : ByteArray} {P} (hS : Str c P []) (x y : Int) (h : ¬ slOk P x y) (w : World) :
    Calls Tryd.prog 22 #[.string c, .int .i64 x, .int .i64 y] w fun e w' => e = .returned (.tuple #[.string ⟨#[]⟩, .int .i64 2]) ∧ Below w.heap.size w w' := by
  have hf : fstI P [] = -1 := rfl
  have HF := Lib.hid (fun w => refFirst_any hS w)
  rw [hf] at HF
  unfold slOk at h
  have h' : x < 0 ∨ y < x ∨ ((P.length : Nat) : Int) < y := by omega
  clear hf h
  by_cases k1 : x < 0
  · clear h'
    go_enter Tryd.func22, Tryd.ntmps22
    go_wp2_with (first | (go_at_call 46; refine (HF.out _).mono ?_; rintro e w2 ⟨rfl, hb2⟩) | (go_at_call 47; refine (refPoints_cap hS _).mono ?_; rintro e w3 ⟨v3, rfl, hI3, hb3⟩; obtain ⟨A, cap, rfl, hlc, hcap, hpre⟩ := hI3.pre; clear hpre hI3))
    go_ret2
    exact ⟨rfl, chain hb2 hb3⟩
  by_cases k2 : y < x
  · clear h'
    go_enter Tryd.func22, Tryd.ntmps22
    go_wp2_with (first | (go_at_call 46; refine (HF.out _).mono ?_; rintro e w2 ⟨rfl, hb2⟩) | (go_at_call 47; refine (refPoints_cap hS _).mono ?_; rintro e w3 ⟨v3, rfl, hI3, hb3⟩; obtain ⟨A, cap, rfl, hlc, hcap, hpre⟩ := hI3.pre; clear hpre hI3))
    go_ret2
    exact ⟨rfl, chain hb2 hb3⟩
  · have k3 : ((P.length : Nat) : Int) < y := by omega
    clear h'
    go_enter Tryd.func22, Tryd.ntmps22
    go_wp2_with (first | (go_at_call 46; refine (HF.out _).mono ?_; rintro e w2 ⟨rfl, hb2⟩) | (go_at_call 47; refine (refPoints_cap hS _).mono ?_; rintro e w3 ⟨v3, rfl, hI3, hb3⟩; obtain ⟨A, cap, rfl, hlc, hcap, hpre⟩ := hI3.pre; clear hpre hI3))
    go_ret2
    exact ⟨rfl, chain hb2 hb3⟩
end Go.Proofs.YthjooopppidcfaaDoor.Cp

namespace Go.Proofs.YthjooopppidcfaaDoor.Cp
open Go.RowKit
open U

theorem cutP_length (P : List Nat) (x y : Nat) (hy : y ≤ P.length) : (cutP P x y).length = y - x := by unfold cutP; rw [List.length_drop, List.length_take]; omega
theorem cutP_pts {P : List Nat} (h : Pts P) (x y : Nat) : Pts (cutP P x y) := fun p hp => h p (List.mem_of_mem_take (List.mem_of_mem_drop hp))
theorem cutP_join (P : List Nat) (x y z : Nat) (h1 : x ≤ y) (h2 : y ≤ z) (h3 : z ≤ P.length) : cutP P x y ++ cutP P y z = cutP P x z := by
  unfold cutP
  have e : P.take z = P.take y ++ (P.take z).drop y := by
    conv => lhs; rw [← List.take_append_drop y (P.take z)]
    rw [List.take_take, Nat.min_eq_left h2]
  have e2 : (P.take z).drop x = (P.take y).drop x ++ (P.take z).drop y := by
    conv => lhs; rw [e]
    rw [List.drop_append_of_le_length (by rw [List.length_take]; omega)]
  exact e2.symm
theorem cut_at {w : World} {g cap : Nat} {P : List Nat} (hg : g < w.heap.size) (hc : ∀ j (h : j < P.length), w.cell? ⟨g, j, none⟩ = some (.int .i64 ((P[j] : Nat) : Int))) (x y : Nat) (_hx : x ≤ y) (hy : y ≤ P.length) : SliceAt w (.slice (some ⟨g, x, none⟩) (y - x) cap) (asInts (cutP P x y)) := by
  have e : (asInts (cutP P x y)).length = y - x := by rw [asInts_length, cutP_length P x y hy]
  refine .inr ⟨g, x, cap, by rw [e], hg, fun j hj => ?_⟩
  rw [e] at hj
  rw [asInts_get, hc (x + j) (by omega)]
  simp only [cutP, List.getElem_drop, List.getElem_take]
theorem cut_obj {c : ByteArray} {P : List Nat} (hS : Str c P []) (x y : Nat) (hx : x ≤ y) (hy : y ≤ P.length) : c.extract (off P x) (off P y) = ⟨(U.bytes (cutP P x y)).toArray⟩ := mk_of _ _ (cut_str hS x y hx hy)

set_option maxRecDepth 100000 in
set_option maxHeartbeats 2000000 in
theorem refSlice_lt {c : ByteArray} {P} (hS : Str c P []) (hc3 : c.size ≤ 300) (x y : Nat) (hx : x < y) (hy : y ≤ P.length) (w : World) :
    Calls Tryd.prog 22 #[.string c, .int .i64 (x : Nat), .int .i64 (y : Nat)] w fun e w' => e = .returned (.tuple #[.string ⟨(U.bytes (cutP P x y)).toArray⟩, .int .i64 0]) ∧ Below w.heap.size w w' := by
  have hPl : P.length ≤ 300 := by have := hS.size; have := (bytes_len P).1; omega
  have hf : fstI P [] = -1 := rfl
  have HF := Lib.hid (fun w => refFirst_any hS w)
  rw [hf] at HF
  have hQ := cutP_length P x y hy
  have HQ := Lib.hid hQ
  clear hf hQ
  go_enter Tryd.func22, Tryd.ntmps22
  go_wp2_with fail
  refine (HF.out _).mono ?_
  rintro e w2 ⟨rfl, hb2⟩
  go_wp2_with fail
  refine (refPoints_cap hS _).mono ?_
  rintro e w3 ⟨v3, rfl, hI3, hb3⟩
  rcases hI3 with ⟨h, _⟩ | ⟨g, cap, rfl, hlc, hcap, hg, hc⟩
  · subst h; simp at hy; omega
  have HA := Lib.hid (cut_at (cap := cap - x) hg hc x y (by omega) hy)
  clear hc
  go_wp2_with fail
  refine (refMake_ok _ (cutP P x y) (cutP_pts hS.pts x y) (by rw [HQ.out]; omega) _ HA.out).mono ?_
  rintro e w4 ⟨rfl, hb4⟩
  go_wp2
  go_ret2
  exact ⟨rfl, chain (chain hb2 hb3) hb4⟩
set_option maxRecDepth 100000 in
set_option maxHeartbeats 2000000 in
theorem refSlice_eq {c : ByteArray} {P} (hS : Str c P []) (x : Nat) (hy : x ≤ P.length) (w : World) :
    Calls Tryd.prog 22 #[.string c, .int .i64 (x : Nat), .int .i64 (x : Nat)] w fun e w' => e = .returned (.tuple #[.string ⟨(U.bytes (cutP P x x)).toArray⟩, .int .i64 0]) ∧ Below w.heap.size w w' := by
  have hf : fstI P [] = -1 := rfl
  have HF := Lib.hid (fun w => refFirst_any hS w)
  rw [hf] at HF
  have hQ : cutP P x x = [] := List.eq_nil_of_length_eq_zero (by rw [cutP_length P x x hy]; omega)
  rw [hQ]
  clear hf hQ
  go_enter Tryd.func22, Tryd.ntmps22
  go_wp2_with fail
  refine (HF.out _).mono ?_
  rintro e w2 ⟨rfl, hb2⟩
  go_wp2_with fail
  refine (refPoints_cap hS _).mono ?_
  rintro e w3 ⟨v3, rfl, hI3, hb3⟩
  obtain ⟨A, cap, rfl, hlc, hcap, hpre⟩ := hI3.pre
  clear hpre hI3
  go_wp2_with fail
  · refine (refMake_none _ _ _).mono ?_
    rintro e w4 ⟨rfl, hb4⟩
    go_wp2
    go_ret2
    exact ⟨rfl, chain (chain hb2 hb3) hb4⟩
  · refine (refMake_none _ _ _).mono ?_
    rintro e w4 ⟨rfl, hb4⟩
    go_wp2
    go_ret2
    exact ⟨rfl, chain (chain hb2 hb3) hb4⟩

/-- The three numbers in their box. -/
def Box (W : World) (B : Nat) (a b d : Int) : Prop := B < W.heap.size ∧ W.cell? ⟨B, 0, none⟩ = some (.int .i64 a) ∧ W.cell? ⟨B, 1, none⟩ = some (.int .i64 b) ∧ W.cell? ⟨B, 2, none⟩ = some (.int .i64 d)
theorem Box.start (w : World) (a b d : Int) : Box (w.alloc (.cells #[.int .i64 a, .int .i64 b, .int .i64 d] 47)) w.heap.size a b d :=
  ⟨by simp, (World.cell?_alloc_mark w _ 47 (0, 0) 0).trans rfl, (World.cell?_alloc_mark w _ 47 (0, 0) 1).trans rfl, (World.cell?_alloc_mark w _ 47 (0, 0) 2).trans rfl⟩
theorem Box.below {W W' : World} {B : Nat} {a b d : Int} (h : Box W B a b d) (hb : Below W.heap.size W W') : Box W' B a b d :=
  ⟨Nat.lt_of_lt_of_le h.1 hb.size, (hb.cell (p := ⟨B, 0, none⟩) h.1).trans h.2.1, (hb.cell (p := ⟨B, 1, none⟩) h.1).trans h.2.2.1, (hb.cell (p := ⟨B, 2, none⟩) h.1).trans h.2.2.2⟩
end Go.Proofs.YthjooopppidcfaaDoor.Cp
