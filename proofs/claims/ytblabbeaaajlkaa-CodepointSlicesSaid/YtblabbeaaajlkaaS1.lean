import Derived.Test.YtblabbeaaajlkaaL2
namespace Go.Proofs.Ytblabbeaaajlkaa
open Go.RowKit
open U

theorem clone_any (s : ByteArray) (hs : s.size ≤ 1000000) (w : World) :
    Calls Try.prog 41 #[.string s] w fun e w' => e = .returned (.string s) ∧ Below w.heap.size w w' := by
  go_enter Try.func41, Try.ntmps41
  go_wp2_with fail
  refine (Try.stringslite_Clone s _ (by omega)).mono ?_
  rintro e w1 ⟨rfl, hb⟩
  go_wp2
  go_ret
  exact ⟨rfl, hb⟩

/-- What a slice of a string is: the units of a range, or an error. -/
def slOk (P : List Nat) (x y : Int) : Prop := 0 ≤ x ∧ x ≤ y ∧ y ≤ (P.length : Int)
def cutP (P : List Nat) (x y : Nat) : List Nat := (P.take y).drop x
theorem cut_str {c : ByteArray} {P : List Nat} (hS : Str c P []) (x y : Nat) (hx : x ≤ y) (hy : y ≤ P.length) : (c.extract (off P x) (off P y)).data.toList = U.bytes (cutP P x y) := by
  rw [Go.Lib.extract_data, hS.eq]
  have h1 : off P y = off P x + (U.bytes (cutP P x y)).length := by
    unfold off cutP
    have : P.take y = (P.take y).take x ++ (P.take y).drop x := (List.take_append_drop x (P.take y)).symm
    conv => lhs; rw [this]
    rw [bytes_append, List.length_append, List.take_take, Nat.min_eq_left hx]
  rw [h1, Nat.add_sub_cancel_left, drop_off, List.append_nil]
  have h2 : P.drop x = cutP P x y ++ P.drop y := by
    unfold cutP
    conv => lhs; rw [← List.take_append_drop y P]
    rw [List.drop_append_of_le_length (by rw [List.length_take]; omega)]
  rw [h2, bytes_append, List.take_left]
theorem rest_str {c : ByteArray} {P : List Nat} (hS : Str c P []) (x : Nat) : Str (c.extract (off P x) c.size) (P.drop x) [] := by
  refine ⟨?_, fun p hp => hS.pts p (List.mem_of_mem_drop hp), rfl, by rw [ByteArray.size_extract]; have := hS.small; omega⟩
  rw [Go.Lib.extract_data, List.take_of_length_le (by rw [List.length_drop]; simp), hS.drop]
theorem off_drop (P : List Nat) (x y : Nat) (hx : x ≤ y) : off P x + off (P.drop x) (y - x) = off P y := by
  unfold off
  have : P.take y = P.take x ++ (P.drop x).take (y - x) := by
    have e : y = x + (y - x) := by omega
    conv => lhs; rw [e]
    exact List.take_add
  rw [this, bytes_append, List.length_append]

set_option maxRecDepth 100000 in
set_option maxHeartbeats 2000000 in
theorem slice_no {c : ByteArray} {P bad} (hS : Str c P bad) (hb : bad ≠ []) (x y : Int) (w : World) :
    Calls Try.prog 29 #[.string c, .int .i64 x, .int .i64 y] w fun e w' => e = .returned (.tuple #[.string ⟨#[]⟩, .int .i64 12]) ∧ w = w' := by
  go_enter Try.func29, Try.ntmps29
  go_wp2_with (go_at_call 27; refine (offset_no hS hb x _).mono ?_; rintro e w' ⟨rfl, rfl⟩)
  go_ret2
  exact ⟨rfl, rfl⟩

set_option maxRecDepth 100000 in
set_option maxHeartbeats 2000000 in
theorem slice_yes {c : ByteArray} {P} (hS : Str c P []) (x y : Nat) (hx : x ≤ y) (hy : y ≤ P.length) (w : World) :
    Calls Try.prog 29 #[.string c, .int .i64 (x : Nat), .int .i64 (y : Nat)] w fun e w' => e = .returned (.tuple #[.string (c.extract (off P x) (off P y)), .int .i64 0]) ∧ Below w.heap.size w w' := by
  have hsm := hS.small
  have hPl : P.length ≤ 1000000 := by have := hS.size; have := (bytes_len P).1; omega
  have hxs : off P x ≤ c.size := by have := off_le P x; have := hS.size; omega
  have hys : off P y ≤ c.size := by have := off_le P y; have := hS.size; omega
  have HR := Lib.hid (rest_str hS x)
  have HO := Lib.hid (fun w => off_in P (x : Int) ⟨by omega, by omega⟩ hS (by omega) w)
  rw [show ((x : Int)).toNat = x by omega] at HO
  have HO2 := Lib.hid (fun w => off_in (P.drop x) ((y : Int) - (x : Int)) ⟨by omega, by rw [List.length_drop]; omega⟩ HR.out (by omega) w)
  rw [show ((y : Int) - (x : Int)).toNat = y - x by omega] at HO2
  have hod := off_drop P x y hx
  generalize hX : off P x = X at *
  generalize hY : off (P.drop x) (y - x) = Y at *
  have hXY : X + Y ≤ c.size := by omega
  have HE := Lib.hid (show c.extract X (off P y) = c.extract X (X + Y) by rw [hod])
  have HCl := Lib.hid (fun w => clone_any (c.extract X (X + Y)) (by rw [ByteArray.size_extract]; omega) w)
  clear hod hX hY hys
  go_enter Try.func29, Try.ntmps29
  go_wp2_with fail
  refine (HO.out _).mono ?_
  rintro e w' ⟨rfl, rfl⟩
  go_wp2_with fail
  refine (HO2.out _).mono ?_
  rintro e w' ⟨rfl, rfl⟩
  go_wp2_with fail
  refine (HCl.out _).mono ?_
  rintro e w1 ⟨rfl, hb⟩
  go_wp2
  go_ret2
  exact ⟨by rw [HE.out]; rfl, hb⟩
set_option maxRecDepth 100000 in
set_option maxHeartbeats 2000000 in
theorem slice_out {c : ByteArray} {P} (hS : Str c P []) (x y : Int) (hx : x ≤ 9223372036854775807) (hy : -9223372036854775808 ≤ y ∧ y ≤ 9223372036854775807) (h : ¬ slOk P x y) (w : World) :
    Calls Try.prog 29 #[.string c, .int .i64 x, .int .i64 y] w fun e w' => e = .returned (.tuple #[.string ⟨#[]⟩, .int .i64 2]) ∧ w = w' := by
  unfold slOk at h
  obtain ⟨hy1, hy2⟩ := hy
  by_cases h1 : 0 ≤ x ∧ x ≤ (P.length : Int)
  · obtain ⟨n, rfl⟩ := Int.eq_ofNat_of_zero_le h1.1
    have hsm := hS.small
    have hPl : P.length ≤ 1000000 := by have := hS.size; have := (bytes_len P).1; omega
    have hxs : off P n ≤ c.size := by have := off_le P n; have := hS.size; omega
    have HO := Lib.hid (fun w => off_in P (n : Int) h1 hS (by omega) w)
    rw [show ((n : Int)).toNat = n by omega] at HO
    by_cases h2 : y < n
    · clear h h1
      go_enter Try.func29, Try.ntmps29
      go_wp2_with fail
      refine (HO.out _).mono ?_
      rintro e w' ⟨rfl, rfl⟩
      go_wp2
      go_ret2
      exact ⟨rfl, rfl⟩
    · have HR := Lib.hid (rest_str hS n)
      have HO2 := Lib.hid (fun w => off_out (P.drop n) (y - (n : Int)) (by rw [List.length_drop]; omega) HR.out (by omega) w)
      generalize off P n = X at *
      clear h
      go_enter Try.func29, Try.ntmps29
      go_wp2_with fail
      refine (HO.out _).mono ?_
      rintro e w' ⟨rfl, rfl⟩
      go_wp2_with fail
      refine (HO2.out _).mono ?_
      rintro e w' ⟨rfl, rfl⟩
      go_wp2
      go_ret2
      exact ⟨rfl, rfl⟩
  · have HO := Lib.hid (fun w => off_out P x h1 hS hx w)
    clear h h1
    go_enter Try.func29, Try.ntmps29
    go_wp2_with fail
    refine (HO.out _).mono ?_
    rintro e w' ⟨rfl, rfl⟩
    go_wp2
    go_ret2
    exact ⟨rfl, rfl⟩

/-! ### the reference's Slice -/
set_option maxRecDepth 100000 in
set_option maxHeartbeats 2000000 in
theorem refSlice_no {c : ByteArray} {P bad} (hS : Str c P bad) (hb : bad ≠ []) (x y : Int) (w : World) :
    Calls Try.prog 30 #[.string c, .int .i64 x, .int .i64 y] w fun e w' => e = .returned (.tuple #[.string ⟨#[]⟩, .int .i64 12]) ∧ Below w.heap.size w w' := by
  have hf : fstI P bad = ((U.bytes P).length : Nat) := if_neg hb
  have HF := Lib.hid (fun w => refFirst_any hS w)
  rw [hf] at HF
  clear hf
  go_enter Try.func30, Try.ntmps30
  go_wp2_with (go_at_call 17; refine (HF.out _).mono ?_; rintro e w2 ⟨rfl, hb2⟩)
  go_ret2
  exact ⟨rfl, hb2⟩
set_option maxRecDepth 100000 in
set_option maxHeartbeats 2000000 in
theorem refSlice_out {c : ByteArray} {P} (hS : Str c P []) (x y : Int) (h : ¬ slOk P x y) (w : World) :
    Calls Try.prog 30 #[.string c, .int .i64 x, .int .i64 y] w fun e w' => e = .returned (.tuple #[.string ⟨#[]⟩, .int .i64 2]) ∧ Below w.heap.size w w' := by
  have hf : fstI P [] = -1 := rfl
  have HF := Lib.hid (fun w => refFirst_any hS w)
  rw [hf] at HF
  unfold slOk at h
  have h' : x < 0 ∨ y < x ∨ ((P.length : Nat) : Int) < y := by omega
  clear hf h
  by_cases k1 : x < 0
  · clear h'
    go_enter Try.func30, Try.ntmps30
    go_wp2_with (first | (go_at_call 17; refine (HF.out _).mono ?_; rintro e w2 ⟨rfl, hb2⟩) | (go_at_call 23; refine (refPoints_cap hS _).mono ?_; rintro e w3 ⟨v3, rfl, hI3, hb3⟩; obtain ⟨A, cap, rfl, hlc, hcap, hpre⟩ := hI3.pre; clear hpre hI3))
    go_ret2
    exact ⟨rfl, chain hb2 hb3⟩
  by_cases k2 : y < x
  · clear h'
    go_enter Try.func30, Try.ntmps30
    go_wp2_with (first | (go_at_call 17; refine (HF.out _).mono ?_; rintro e w2 ⟨rfl, hb2⟩) | (go_at_call 23; refine (refPoints_cap hS _).mono ?_; rintro e w3 ⟨v3, rfl, hI3, hb3⟩; obtain ⟨A, cap, rfl, hlc, hcap, hpre⟩ := hI3.pre; clear hpre hI3))
    go_ret2
    exact ⟨rfl, chain hb2 hb3⟩
  · have k3 : ((P.length : Nat) : Int) < y := by omega
    clear h'
    go_enter Try.func30, Try.ntmps30
    go_wp2_with (first | (go_at_call 17; refine (HF.out _).mono ?_; rintro e w2 ⟨rfl, hb2⟩) | (go_at_call 23; refine (refPoints_cap hS _).mono ?_; rintro e w3 ⟨v3, rfl, hI3, hb3⟩; obtain ⟨A, cap, rfl, hlc, hcap, hpre⟩ := hI3.pre; clear hpre hI3))
    go_ret2
    exact ⟨rfl, chain hb2 hb3⟩
end Go.Proofs.Ytblabbeaaajlkaa
