import Derived.Test.YtblabbeaaajlkaaA6
import Derived.Test.YtblabbeaaajlkaaB3
namespace Go.Proofs.Ytblabbeaaajlkaa
open Go.RowKit
open U

set_option maxRecDepth 100000 in
set_option maxHeartbeats 2000000 in
theorem decode_any (s : ByteArray) (hs : s.size ≤ 1000000) (w : World) :
    Calls Try.prog 26 #[.string s] w (DecRet s.data.toList w) := by
  by_cases h0 : s.size = 0
  · have he : s.data.toList = [] := by
      have : s.data.toList.length = 0 := by simpa using h0
      exact List.eq_nil_of_length_eq_zero this
    have HD := Lib.hid (show dec s.data.toList = (0, 0) by rw [he]; rfl)
    have k1 : ((s.size : Int) == 0) = true := by rw [beq_iff_eq]; omega
    clear he h0
    go_enter Try.func26, Try.ntmps26
    go_wp2
    go_ret2
    exact decRet_of HD.out rfl (Below.refl _ _)
  have hpos : 0 < s.size := by omega
  by_cases hr : 2 ≤ rn s[0].toNat
  · exact decode_multi s hs hpos hr w
  have hh : s.data.toList = s[0] :: s.data.toList.drop 1 := scan_head s 0 hpos
  have h8 := s[0].toNat_lt
  have k1 : ((s.size : Int) == 0) = false := by rw [beq_eq_false_iff_ne]; omega
  by_cases h1 : s[0].toNat < 128
  · have HD := Lib.hid (show dec s.data.toList = (s[0].toNat, 1) by rw [hh, dec1 _ h1])
    clear hh hr h0
    go_enter Try.func26, Try.ntmps26
    go_wp2
    go_ret2
    exact decRet_of HD.out rfl (Below.refl _ _)
  · rcases rn_cases s[0].toNat with ⟨q, q2⟩ | ⟨e1, _⟩ | ⟨e1, _⟩ | ⟨e1, _⟩
    · have HD := Lib.hid (rdec_short s.data.toList _ _ hh h1 (.inl q))
      clear hh hr h0 q
      rcases q2 with q2 | q2
      · go_enter Try.func26, Try.ntmps26
        go_wp2
        go_ret2
        exact decRet_of HD.out rfl (Below.refl _ _)
      · go_enter Try.func26, Try.ntmps26
        go_wp2
        go_ret2
        exact decRet_of HD.out rfl (Below.refl _ _)
    · omega
    · omega
    · omega
theorem decode_at (s : ByteArray) (hs : s.size ≤ 1000000) (k : Nat) (w : World) :
    Calls Try.prog 26 #[.string (s.extract k s.size)] w (DecRet (s.data.toList.drop k) w) := by
  have h := decode_any (s.extract k s.size) (by rw [ByteArray.size_extract]; omega) w
  rw [Go.Lib.extract_data] at h
  rw [List.take_of_length_le (by rw [List.length_drop]; simp)] at h
  exact h
theorem decode_ok {s P bad} (h : Str s P bad) (k : Nat) (hk : k < P.length) (w : World) :
    Calls Try.prog 26 #[.string (s.extract (off P k) s.size)] w fun e w' => e = .returned (.tuple #[.int .i64 (P[k] : Nat), .int .i64 ((enc P[k]).length : Nat)]) ∧ Below w.heap.size w w' := by
  have := decode_at s h.small (off P k) w
  unfold DecRet at this
  rw [h.drop, dec_at h.pts bad k hk] at this
  exact this
theorem decode_end {s P bad} (h : Str s P bad) (w : World) :
    Calls Try.prog 26 #[.string (s.extract (off P P.length) s.size)] w fun e w' => e = .returned (.tuple #[.int .i64 0, .int .i64 0]) ∧ Below w.heap.size w w' := by
  have := decode_at s h.small (off P P.length) w
  unfold DecRet at this
  have e1 : s.data.toList.drop (off P P.length) = bad := by rw [h.drop, List.drop_length]; rfl
  rw [e1, dec_zero _ h.rest] at this
  exact this

set_option maxRecDepth 100000 in
set_option maxHeartbeats 2000000 in
theorem refFirst_any {s P bad} (h : Str s P bad) (w : World) :
    Calls Try.prog 17 #[.string s] w fun e w' => e = .returned (.int .i64 (fstI P bad)) ∧ Below w.heap.size w w' := by
  have hsz := h.small
  go_enter Try.func17, Try.ntmps17
  go_wp2
  go_loopw [3] (fun i wr => ∃ k : Nat, k ≤ P.length ∧ i = .int .i64 (off P k : Nat) ∧ Below w.heap.size w wr) (fun i _ => s.size - (intOf i).toNat)
  case atStart => exact ⟨0, Nat.zero_le _, rfl, Below.refl _ _⟩
  case round =>
    obtain ⟨k, hk, rfl, hbw⟩ := hrel
    have hw0 := hbw.size
    by_cases hlt : k < P.length
    · have h1 := h.lt k hlt
      have h2 := enc_pos P[k]
      have HS := Lib.hid (off_succ P k hlt)
      have k2 : (((enc P[k]).length : Int) == 0) = false := by rw [beq_eq_false_iff_ne]; omega
      go_wp2_with (go_at_call 26; refine (decode_ok h k hlt _).mono ?_; rintro e w' ⟨rfl, hb⟩)
      go_roundw
      case rel => exact ⟨k + 1, by omega, by rw [HS.out]; go_num, hbw.trans (hb.mono hw0)⟩
      case measure => simp [intOf]; omega
    · obtain rfl : k = P.length := by omega
      have h1 := h.size
      have h2 := off_end P
      by_cases hb : bad = []
      · have : off P P.length = s.size := by rw [hb] at h1; simp at h1; omega
        have k1 : ¬ ((off P P.length : Nat) : Int) < (s.size : Int) := by omega
        have hf := Lib.hid (show fstI P bad = -1 from if_pos hb)
        clear h2 h1 this hb
        go_wp2
        go_ret
        exact ⟨ret_int hf.out.symm, hbw⟩
      · have h3 : 0 < bad.length := List.length_pos_iff.2 hb
        have k1 : ((off P P.length : Nat) : Int) < (s.size : Int) := by omega
        have hf := Lib.hid (show fstI P bad = (off P P.length : Nat) from by rw [h2]; exact if_neg hb)
        clear h2 h1
        go_wp2_with (go_at_call 26; refine (decode_end h _).mono ?_; rintro e w' ⟨rfl, hb⟩)
        go_ret
        exact ⟨ret_int hf.out.symm, hbw.trans (hb.mono hw0)⟩
end Go.Proofs.Ytblabbeaaajlkaa
