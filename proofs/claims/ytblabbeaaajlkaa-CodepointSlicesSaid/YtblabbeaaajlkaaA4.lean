import Derived.Test.YtblabbeaaajlkaaA3
namespace Go.Proofs.Ytblabbeaaajlkaa
open Go.RowKit
open U

theorem valid_ok {s P} (h : Str s P []) (w : World) :
    Calls Try.prog 18 #[.string s] w fun e w' => e = .returned (.bool true) ∧ w = w' := valid_any h w
theorem valid_no {s P bad} (h : Str s P bad) (hb : bad ≠ []) (w : World) :
    Calls Try.prog 18 #[.string s] w fun e w' => e = .returned (.bool false) ∧ w = w' := by
  have : vldB bad = false := decide_eq_false hb
  rw [← this]; exact valid_any h w

theorem wid_enc (p : Nat) (h : isPt p) : ∃ a t, enc p = a :: t ∧ wid a.toNat = (enc p).length := by
  obtain ⟨h1, h2⟩ := h
  unfold enc encN
  by_cases c1 : p < 128
  · rw [if_pos c1]; exact ⟨_, _, rfl, by rw [u8_toNat _ (by omega), wid1 c1]; rfl⟩
  rw [if_neg c1]
  by_cases c2 : p < 2048
  · rw [if_pos c2]; exact ⟨_, _, rfl, by rw [u8_toNat _ (by omega), wid2 (by omega) (by omega)]; rfl⟩
  rw [if_neg c2]
  by_cases c3 : p < 65536
  · rw [if_pos c3]; exact ⟨_, _, rfl, by rw [u8_toNat _ (by omega), wid3 (by omega) (by omega)]; rfl⟩
  · rw [if_neg c3]; exact ⟨_, _, rfl, by rw [u8_toNat _ (by omega), wid4 (by omega) (by omega)]; rfl⟩
theorem Str.width {s P bad} (h : Str s P bad) (k : Nat) (hk : k < P.length) (hs : off P k < s.size) : wid (s[off P k]).toNat = (enc P[k]).length := by
  obtain ⟨a, t, e1, e2⟩ := wid_enc _ (h.pts.get k hk)
  have h1 := scan_head s (off P k) hs
  rw [h.drop, drop_cons P k hk, e1, List.append_assoc, List.cons_append] at h1
  injection h1 with h1 _
  rw [← h1, e2]
theorem width_at {s P bad} (h : Str s P bad) (k : Nat) (hk : k < P.length) (hs : off P k < s.size) (w : World) :
    Calls Try.prog 38 #[.int .u8 ((s[off P k]).toNat : Nat)] w fun e w' => e = .returned (.int .i64 ((enc P[k]).length : Nat)) ∧ w = w' := by
  have := width_any (s[off P k]).toNat (s[off P k]).toNat_lt w
  rw [h.width k hk hs] at this; exact this

set_option maxRecDepth 100000 in
set_option maxHeartbeats 1000000 in
theorem count_no {s P bad} (h : Str s P bad) (hb : bad ≠ []) (w : World) :
    Calls Try.prog 20 #[.string s] w fun e w' => e = .returned (.tuple #[.int .i64 0, .int .i64 12]) ∧ w = w' := by
  go_enter Try.func20, Try.ntmps20
  go_wp2_with (go_at_call 18; refine (valid_no h hb _).mono ?_; rintro e w' ⟨rfl, rfl⟩)
  go_ret2
  exact ⟨rfl, rfl⟩
set_option maxRecDepth 100000 in
set_option maxHeartbeats 1000000 in
theorem count_ok {s P} (h : Str s P []) (w : World) :
    Calls Try.prog 20 #[.string s] w fun e w' => e = .returned (.tuple #[.int .i64 (P.length : Nat), .int .i64 0]) ∧ w = w' := by
  have hsz := h.small
  have hsize := h.size
  have hend := off_end P
  have hll := (bytes_len P).1
  rw [List.length_nil] at hsize
  rw [← hend] at hsize hll
  clear hend
  have HZ := Lib.hid hsize
  clear hsize
  go_enter Try.func20, Try.ntmps20
  go_wp2_with (go_at_call 18; refine (valid_ok h _).mono ?_; rintro e w' ⟨rfl, rfl⟩)
  go_loop [4, 5] (fun c i => ∃ k : Nat, k ≤ P.length ∧ i = .int .i64 (off P k : Nat) ∧ c = .int .i64 (k : Nat)) (fun _ i => s.size - (intOf i).toNat)
  case atStart => exact ⟨0, Nat.zero_le _, rfl, rfl⟩
  case round =>
    obtain ⟨k, hk, rfl, rfl⟩ := hrel
    by_cases hlt : k < P.length
    · have h1 := h.lt k hlt
      have h2 := enc_pos P[k]
      have h3 : off P k < s.size := by omega
      have h4 := off_ge P k hk
      have HS := Lib.hid (off_succ P k hlt)
      go_wp2_with (go_at_call 38; refine (width_at h k hlt h3 _).mono ?_; rintro e w' ⟨rfl, rfl⟩)
      go_round
      case rel => exact ⟨k + 1, by omega, by rw [HS.out]; go_num, by go_num⟩
      case measure => simp [intOf]; omega
    · obtain rfl : k = P.length := by omega
      have h1 := HZ.out
      have k1 : ¬ ((off P P.length : Nat) : Int) < (s.size : Int) := by omega
      clear h1
      go_wp2
      go_ret2
      exact ⟨rfl, rfl⟩

/-- What Offset answers. -/
def OffRet (P : List Nat) (u : Int) (w : World) (e : Ending) (w' : World) : Prop :=
  (0 ≤ u ∧ u ≤ P.length ∧ e = .returned (.tuple #[.int .i64 (off P u.toNat : Nat), .int .i64 0]) ∨ ¬ (0 ≤ u ∧ u ≤ P.length) ∧ e = .returned (.tuple #[.int .i64 0, .int .i64 2])) ∧ w = w'
set_option maxRecDepth 100000 in
set_option maxHeartbeats 1000000 in
theorem offset_no {s P bad} (h : Str s P bad) (hb : bad ≠ []) (u : Int) (w : World) :
    Calls Try.prog 27 #[.string s, .int .i64 u] w fun e w' => e = .returned (.tuple #[.int .i64 0, .int .i64 12]) ∧ w = w' := by
  go_enter Try.func27, Try.ntmps27
  go_wp2_with (go_at_call 18; refine (valid_no h hb _).mono ?_; rintro e w' ⟨rfl, rfl⟩)
  go_ret2
  exact ⟨rfl, rfl⟩
set_option maxRecDepth 100000 in
set_option maxHeartbeats 1000000 in
theorem offset_ok {s P} (h : Str s P []) (u : Int) (hu : u ≤ 9223372036854775807) (w : World) :
    Calls Try.prog 27 #[.string s, .int .i64 u] w (OffRet P u w) := by
  have hsz := h.small
  have hsize := h.size
  have hend := off_end P
  have hll := (bytes_len P).1
  rw [List.length_nil] at hsize
  rw [← hend] at hsize hll
  clear hend
  have HZ := Lib.hid hsize
  clear hsize
  by_cases h0 : u < 0
  · go_enter Try.func27, Try.ntmps27
    go_wp2_with (go_at_call 18; refine (valid_ok h _).mono ?_; rintro e w' ⟨rfl, rfl⟩)
    go_ret2
    exact ⟨.inr ⟨by omega, rfl⟩, rfl⟩
  go_enter Try.func27, Try.ntmps27
  go_wp2_with (go_at_call 18; refine (valid_ok h _).mono ?_; rintro e w' ⟨rfl, rfl⟩)
  go_loop [1, 6] (fun c i => ∃ (k : Nat) (v : Int), k ≤ P.length ∧ i = .int .i64 (off P k : Nat) ∧ c = .int .i64 v ∧ v + k = u ∧ 0 ≤ v) (fun _ i => s.size - (intOf i).toNat)
  case atStart => exact ⟨0, u, Nat.zero_le _, rfl, rfl, by omega, by omega⟩
  case round =>
    obtain ⟨k, v, hk, rfl, rfl, hv, hv0⟩ := hrel
    have HV := Lib.hid hv
    have hvb : v ≤ 9223372036854775807 := by omega
    by_cases hv1 : v = 0
    · subst hv1
      go_wp2
      go_ret2
      refine ⟨.inl ⟨by omega, by omega, ?_⟩, rfl⟩
      rw [show u.toNat = k by omega]; rfl
    · have hv2 : 0 < v := by omega
      clear hv
      by_cases hlt : k < P.length
      · have h1 := h.lt k hlt
        have h2 := enc_pos P[k]
        have h3 : off P k < s.size := by omega
        have HS := Lib.hid (off_succ P k hlt)
        go_wp2_with (go_at_call 38; refine (width_at h k hlt h3 _).mono ?_; rintro e w' ⟨rfl, rfl⟩)
        go_round
        case rel => exact ⟨k + 1, v - 1, by omega, by rw [HS.out]; go_num, rfl, by have := HV.out; omega, by omega⟩
        case measure => simp [intOf]; omega
      · obtain rfl : k = P.length := by omega
        have h1 := HZ.out
        have k1 : ¬ ((off P P.length : Nat) : Int) < (s.size : Int) := by omega
        clear h1
        go_wp2
        go_ret2
        refine ⟨.inr ⟨by have := HV.out; omega, rfl⟩, rfl⟩

/-- What Unit answers. -/
def UnitRet (P : List Nat) (u : Int) (w : World) (e : Ending) (w' : World) : Prop :=
  ((∃ k : Nat, k ≤ P.length ∧ u = (off P k : Nat) ∧ e = .returned (.tuple #[.int .i64 (k : Nat), .int .i64 0])) ∨ (∀ k : Nat, k ≤ P.length → u ≠ (off P k : Nat)) ∧ e = .returned (.tuple #[.int .i64 0, .int .i64 2])) ∧ w = w'
set_option maxRecDepth 100000 in
set_option maxHeartbeats 1000000 in
theorem unit_no {s P bad} (h : Str s P bad) (hb : bad ≠ []) (u : Int) (w : World) :
    Calls Try.prog 28 #[.string s, .int .i64 u] w fun e w' => e = .returned (.tuple #[.int .i64 0, .int .i64 12]) ∧ w = w' := by
  go_enter Try.func28, Try.ntmps28
  go_wp2_with (go_at_call 18; refine (valid_no h hb _).mono ?_; rintro e w' ⟨rfl, rfl⟩)
  go_ret2
  exact ⟨rfl, rfl⟩
set_option maxRecDepth 100000 in
set_option maxHeartbeats 1000000 in
theorem unit_ok {s P} (h : Str s P []) (u : Int) (w : World) :
    Calls Try.prog 28 #[.string s, .int .i64 u] w (UnitRet P u w) := by
  have hsz := h.small
  have hsize := h.size
  have hend := off_end P
  have hll := (bytes_len P).1
  rw [List.length_nil] at hsize
  rw [← hend] at hsize hll
  clear hend
  have HZ := Lib.hid hsize
  have hle : ∀ k, k ≤ P.length → off P k ≤ s.size := fun k hk => by have := off_mono P k P.length hk; omega
  have HLE := Lib.hid hle
  clear hsize hle
  by_cases h0 : u < 0
  · go_enter Try.func28, Try.ntmps28
    go_wp2_with (go_at_call 18; refine (valid_ok h _).mono ?_; rintro e w' ⟨rfl, rfl⟩)
    go_ret2
    exact ⟨.inr ⟨fun k _ => by omega, rfl⟩, rfl⟩
  by_cases h1 : (s.size : Int) < u
  · go_enter Try.func28, Try.ntmps28
    go_wp2_with (go_at_call 18; refine (valid_ok h _).mono ?_; rintro e w' ⟨rfl, rfl⟩)
    go_ret2
    exact ⟨.inr ⟨fun k hk => by have := HLE.out k hk; omega, rfl⟩, rfl⟩
  go_enter Try.func28, Try.ntmps28
  go_wp2_with (go_at_call 18; refine (valid_ok h _).mono ?_; rintro e w' ⟨rfl, rfl⟩)
  go_loop [6, 7] (fun c i => ∃ k : Nat, k ≤ P.length ∧ i = .int .i64 (off P k : Nat) ∧ c = .int .i64 (k : Nat) ∧ ∀ j, j < k → ((off P j : Nat) : Int) < u) (fun _ i => s.size - (intOf i).toNat)
  case atStart => exact ⟨0, Nat.zero_le _, rfl, rfl, fun j hj => by omega⟩
  case round =>
    obtain ⟨k, hk, rfl, rfl, hj⟩ := hrel
    have HJ := Lib.hid hj
    clear hj
    by_cases hlt : ((off P k : Nat) : Int) < u
    · have hkl : k < P.length := by
        by_cases hkl : k < P.length
        · exact hkl
        · obtain rfl : k = P.length := by omega
          have := HZ.out; omega
      have h1 := h.lt k hkl
      have h2 := enc_pos P[k]
      have h3 : off P k < s.size := by omega
      have h4 := off_ge P k hk
      have HS := Lib.hid (off_succ P k hkl)
      go_wp2_with (go_at_call 38; refine (width_at h k hkl h3 _).mono ?_; rintro e w' ⟨rfl, rfl⟩)
      go_round
      case rel => exact ⟨k + 1, by omega, by rw [HS.out]; go_num, by go_num, fun j hj => by rcases Nat.lt_succ_iff_lt_or_eq.1 hj with q | rfl; exact HJ.out j q; exact hlt⟩
      case measure => simp [intOf]; omega
    · by_cases hgt : u < ((off P k : Nat) : Int)
      · go_wp2
        go_ret2
        refine ⟨.inr ⟨fun j hj => ?_, rfl⟩, rfl⟩
        by_cases hjk : j < k
        · have := HJ.out j hjk; omega
        · have := off_mono P k j (by omega); omega
      · go_wp2
        go_ret2
        exact ⟨.inl ⟨k, hk, by omega, rfl⟩, rfl⟩

set_option maxRecDepth 100000 in
set_option maxHeartbeats 1000000 in
theorem at_out (s : ByteArray) (_hs : s.size ≤ 1000000) (o : Int) (ho : o < 0 ∨ (s.size : Int) ≤ o) (w : World) :
    Calls Try.prog 25 #[.string s, .int .i64 o] w fun e w' => e = .returned (.tuple #[.int .i64 0, .int .i64 0, .int .i64 2]) ∧ w = w' := by
  by_cases h1 : o < 0
  · clear ho
    go_enter Try.func25, Try.ntmps25
    go_wp2
    go_ret3
    exact ⟨rfl, rfl⟩
  · have h2 : (s.size : Int) ≤ o := by omega
    clear ho
    go_enter Try.func25, Try.ntmps25
    go_wp2
    go_ret3
    exact ⟨rfl, rfl⟩
set_option maxRecDepth 100000 in
set_option maxHeartbeats 1000000 in
theorem at_in (s : ByteArray) (hs : s.size ≤ 1000000) (k : Nat) (hk : k < s.size) (w : World) :
    Calls Try.prog 25 #[.string s, .int .i64 k] w fun e w' => (if (dec (s.data.toList.drop k)).2 = 0 then e = .returned (.tuple #[.int .i64 0, .int .i64 0, .int .i64 12]) else e = .returned (.tuple #[.int .i64 ((dec (s.data.toList.drop k)).1 : Nat), .int .i64 ((dec (s.data.toList.drop k)).2 : Nat), .int .i64 0])) ∧ w = w' := by
  by_cases h : (dec (s.data.toList.drop k)).2 = 0
  · have hne : s.data.toList.drop k ≠ [] := by rw [scan_head s k hk]; exact List.cons_ne_nil _ _
    obtain ⟨q, z, e1, _⟩ := scan_none _ hne h
    have hc : Calls Try.prog 37 #[.string s, .int .i64 k] w fun e w' => e = .returned (.tuple #[.int .i64 (q : Nat), .int .i64 (z : Nat), .bool false]) ∧ w = w' := by
      have := scan_any s k hk hs w
      unfold ScanRet at this
      rw [e1] at this; exact this
    simp only [if_pos h]
    have HC := Lib.hid hc
    clear hc e1 hne h
    go_enter Try.func25, Try.ntmps25
    go_wp2_with (go_at_call 37; refine HC.out.mono ?_; rintro e w' ⟨rfl, rfl⟩)
    go_ret3
    exact ⟨rfl, rfl⟩
  · have e1 := scan_some _ _ _ rfl h
    have hc : Calls Try.prog 37 #[.string s, .int .i64 k] w fun e w' => e = .returned (.tuple #[.int .i64 ((dec (s.data.toList.drop k)).1 : Nat), .int .i64 ((dec (s.data.toList.drop k)).2 : Nat), .bool true]) ∧ w = w' := by
      have := scan_any s k hk hs w
      unfold ScanRet at this
      rw [e1] at this; exact this
    simp only [if_neg h]
    generalize (dec (s.data.toList.drop k)).1 = p at *
    generalize (dec (s.data.toList.drop k)).2 = n at *
    have HC := Lib.hid hc
    clear hc e1 h
    go_enter Try.func25, Try.ntmps25
    go_wp2_with (go_at_call 37; refine HC.out.mono ?_; rintro e w' ⟨rfl, rfl⟩)
    go_ret3
    exact ⟨rfl, rfl⟩
end Go.Proofs.Ytblabbeaaajlkaa
