import Derived.Test.YtblabbeaaajlkaaA2
namespace Go.Proofs.Ytblabbeaaajlkaa
open Go.RowKit
open U

/-- A string: encodings of points, and a rest with which none begins. -/
structure Str (s : ByteArray) (P : List Nat) (bad : List UInt8) : Prop where
  eq : s.data.toList = U.bytes P ++ bad
  pts : Pts P
  rest : (dec bad).2 = 0
  small : s.size ≤ 1000000
theorem Str.ex (s : ByteArray) (h : s.size ≤ 1000000) : ∃ P bad, Str s P bad := by
  obtain ⟨P, bad, h1, h2, h3⟩ := parts s.data.toList
  exact ⟨P, bad, h1, h2, h3, h⟩
theorem Str.size {s P bad} (h : Str s P bad) : s.size = (U.bytes P).length + bad.length := by
  have := congrArg List.length h.eq
  rw [List.length_append] at this
  rw [← this]; simp
theorem Str.drop {s P bad} (h : Str s P bad) (k : Nat) : s.data.toList.drop (off P k) = U.bytes (P.drop k) ++ bad := by
  rw [h.eq, drop_off]
theorem Str.lt {s P bad} (h : Str s P bad) (k : Nat) (hk : k < P.length) : off P k + (enc P[k]).length ≤ s.size := by
  have h1 := off_succ P k hk
  have h2 := off_le P (k + 1)
  have h3 := h.size
  omega
theorem Str.scan {s P bad} (h : Str s P bad) (k : Nat) (hk : k < P.length) : U.scan (s.data.toList.drop (off P k)) = (P[k], (enc P[k]).length, true) := by
  have := enc_pos P[k]
  exact scan_some _ _ _ (by rw [h.drop, dec_at h.pts bad k hk]) (by omega)
theorem Str.scan_end {s P bad} (h : Str s P bad) (hb : bad ≠ []) : ∃ q z, U.scan (s.data.toList.drop (off P P.length)) = (q, z, false) := by
  have : s.data.toList.drop (off P P.length) = bad := by rw [h.drop, List.drop_length]; rfl
  rw [this]
  obtain ⟨q, k, h1, _⟩ := scan_none bad hb h.rest
  exact ⟨q, k, h1⟩

theorem scan_ok {s P bad} (h : Str s P bad) (k : Nat) (hk : k < P.length) (w : World) :
    Calls Try.prog 37 #[.string s, .int .i64 (off P k : Nat)] w fun e w' => e = .returned (.tuple #[.int .i64 (P[k] : Nat), .int .i64 ((enc P[k]).length : Nat), .bool true]) ∧ w = w' := by
  have h1 := h.lt k hk
  have h2 := enc_pos P[k]
  refine (scan_any s (off P k) (by omega) h.small w).mono ?_
  rintro e w' ⟨he, hw⟩
  rw [h.scan k hk] at he
  exact ⟨he, hw⟩
theorem scan_end {s P bad} (h : Str s P bad) (hb : bad ≠ []) (w : World) :
    Calls Try.prog 37 #[.string s, .int .i64 (off P P.length : Nat)] w fun e w' => ∃ q z : Nat, e = .returned (.tuple #[.int .i64 (q : Nat), .int .i64 (z : Nat), .bool false]) ∧ w = w' := by
  have h1 := h.size
  have h2 := off_end P
  have h3 : 0 < bad.length := List.length_pos_iff.2 hb
  refine (scan_any s (off P P.length) (by omega) h.small w).mono ?_
  rintro e w' ⟨he, hw⟩
  obtain ⟨q, z, hq⟩ := h.scan_end hb
  rw [hq] at he
  exact ⟨q, z, he, hw⟩

def fstI (P : List Nat) (bad : List UInt8) : Int := if bad = [] then -1 else (U.bytes P).length
set_option maxRecDepth 100000 in
set_option maxHeartbeats 1000000 in
theorem first_any {s P bad} (h : Str s P bad) (w : World) :
    Calls Try.prog 16 #[.string s] w fun e w' => e = .returned (.int .i64 (fstI P bad)) ∧ w = w' := by
  have hsz := h.small
  go_enter Try.func16, Try.ntmps16
  go_wp2
  go_loop [3] (fun i => ∃ k : Nat, k ≤ P.length ∧ i = .int .i64 (off P k : Nat)) (fun i => s.size - (intOf i).toNat)
  case atStart => exact ⟨0, Nat.zero_le _, rfl⟩
  case round =>
    obtain ⟨k, hk, rfl⟩ := hrel
    by_cases hlt : k < P.length
    · have h1 := h.lt k hlt
      have h2 := enc_pos P[k]
      have HS := Lib.hid (off_succ P k hlt)
      go_wp2_with (go_at_call 37; refine (scan_ok h k hlt _).mono ?_; rintro e w' ⟨rfl, rfl⟩)
      go_round
      case rel => exact ⟨k + 1, by omega, by rw [HS.out]; go_num⟩
      case measure => simp [intOf]; omega
    · obtain rfl : k = P.length := by omega
      have h1 := h.size
      have h2 := off_end P
      by_cases hb : bad = []
      · have : off P P.length = s.size := by rw [hb] at h1; simp at h1; omega
        have k1 : ¬ ((off P P.length : Nat) : Int) < (s.size : Int) := by omega
        have hf := Lib.hid (show fstI P bad = -1 from if_pos hb)
        clear h2 h1 this hb
        go_wp2
        go_ret
        exact ⟨ret_int hf.out.symm, rfl⟩
      · have h3 : 0 < bad.length := List.length_pos_iff.2 hb
        have k1 : ((off P P.length : Nat) : Int) < (s.size : Int) := by omega
        have hf := Lib.hid (show fstI P bad = (off P P.length : Nat) from by rw [h2]; exact if_neg hb)
        clear h2 h1
        go_wp2_with (go_at_call 37; refine (scan_end h hb _).mono ?_; rintro e w' ⟨q, z, rfl, rfl⟩)
        go_ret
        exact ⟨ret_int hf.out.symm, rfl⟩

def vldB (bad : List UInt8) : Bool := decide (bad = [])
set_option maxRecDepth 100000 in
set_option maxHeartbeats 1000000 in
theorem valid_any {s P bad} (h : Str s P bad) (w : World) :
    Calls Try.prog 18 #[.string s] w fun e w' => e = .returned (.bool (vldB bad)) ∧ w = w' := by
  have hf : decide (fstI P bad < 0) = vldB bad := by
    unfold fstI vldB
    by_cases hb : bad = []
    · rw [if_pos hb, decide_eq_true hb]; rfl
    · rw [if_neg hb, decide_eq_false hb]; exact decide_eq_false (by omega)
  have HF := Lib.hid hf
  clear hf
  go_enter Try.func18, Try.ntmps18
  go_wp2_with (go_at_call 16; refine (first_any h _).mono ?_; rintro e w' ⟨rfl, rfl⟩)
  go_ret
  exact ⟨ret_bool HF.out, rfl⟩
end Go.Proofs.Ytblabbeaaajlkaa
