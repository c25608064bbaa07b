import Derived.Test.YtmpklkhjipclmaaProg
import Derived.WalkMore
import Derived.Below
import Derived.Test.YtmpklkhjipclmaaMA
import Derived.WalkKit
import Derived.WalkSpells
import Derived.WalkLawsBesides
import Derived.Lib.Hide
import Derived.Laws.BitsAllLaws

namespace Go.Proofs.Ytmpklkhjipclmaa.Cp
open Go.RowKit
open U

theorem ret_int {k : IntKind} {a b : Int} (h : a = b) : Ending.returned (.int k a) = .returned (.int k b) := by rw [h]
theorem ret_bool {a b : Bool} (h : a = b) : Ending.returned (.bool a) = .returned (.bool b) := by rw [h]

set_option maxRecDepth 100000 in
set_option maxHeartbeats 400000 in
theorem width_any (b : Nat) (hb : b < 256) (w : World) :
    Calls Try.prog 91 #[.int .u8 b] w fun e w' => e = .returned (.int .i64 (wid b : Nat)) ∧ w = w' := by
  unfold wid
  by_cases h1 : b < 128
  · rw [if_pos h1]
    go_enter Try.func91, Try.ntmps91
    go_wp2
    go_ret
    exact ⟨rfl, rfl⟩
  rw [if_neg h1]
  by_cases h2 : b < 194
  · rw [if_pos h2]
    go_enter Try.func91, Try.ntmps91
    go_wp2
    go_ret
    exact ⟨rfl, rfl⟩
  rw [if_neg h2]
  by_cases h3 : b < 224
  · rw [if_pos h3]
    go_enter Try.func91, Try.ntmps91
    go_wp2
    go_ret
    exact ⟨rfl, rfl⟩
  rw [if_neg h3]
  by_cases h4 : b < 240
  · rw [if_pos h4]
    go_enter Try.func91, Try.ntmps91
    go_wp2
    go_ret
    exact ⟨rfl, rfl⟩
  rw [if_neg h4]
  by_cases h5 : b < 245
  · rw [if_pos h5]
    go_enter Try.func91, Try.ntmps91
    go_wp2
    go_ret
    exact ⟨rfl, rfl⟩
  · rw [if_neg h5]
    go_enter Try.func91, Try.ntmps91
    go_wp2
    go_ret
    exact ⟨rfl, rfl⟩


def ptB (p : Int) : Bool := decide (0 ≤ p ∧ p ≤ 1114111 ∧ (p < 55296 ∨ 57343 < p))
theorem ptB_true {p : Int} (h : 0 ≤ p ∧ p ≤ 1114111 ∧ (p < 55296 ∨ 57343 < p)) : ptB p = true := decide_eq_true h
theorem ptB_false {p : Int} (h : ¬ (0 ≤ p ∧ p ≤ 1114111 ∧ (p < 55296 ∨ 57343 < p))) : ptB p = false := decide_eq_false h

set_option maxRecDepth 100000 in
set_option maxHeartbeats 400000 in
theorem second_any (b : Nat) (hb : b < 256) (w : World) :
    Calls Try.prog 92 #[.int .u8 b] w fun e w' => e = .returned (.tuple #[.int .u8 (lo2 b : Nat), .int .u8 (hi2 b : Nat)]) ∧ w = w' := by
  by_cases h1 : b = 224
  · subst h1
    go_enter Try.func92, Try.ntmps92
    go_wp2
    go_ret2
    exact ⟨rfl, rfl⟩
  by_cases h2 : b = 237
  · subst h2
    go_enter Try.func92, Try.ntmps92
    go_wp2
    go_ret2
    exact ⟨rfl, rfl⟩
  by_cases h3 : b = 240
  · subst h3
    go_enter Try.func92, Try.ntmps92
    go_wp2
    go_ret2
    exact ⟨rfl, rfl⟩
  by_cases h4 : b = 244
  · subst h4
    go_enter Try.func92, Try.ntmps92
    go_wp2
    go_ret2
    exact ⟨rfl, rfl⟩
  · have e1 : lo2 b = 128 := by unfold lo2; rw [if_neg h1, if_neg h3]
    have e2 : hi2 b = 191 := by unfold hi2; rw [if_neg h2, if_neg h4]
    rw [e1, e2]
    have k1 : ((b : Int) == 224) = false := by rw [beq_eq_false_iff_ne]; omega
    have k2 : ((b : Int) == 237) = false := by rw [beq_eq_false_iff_ne]; omega
    have k3 : ((b : Int) == 240) = false := by rw [beq_eq_false_iff_ne]; omega
    have k4 : ((b : Int) == 244) = false := by rw [beq_eq_false_iff_ne]; omega
    clear e1 e2
    go_enter Try.func92, Try.ntmps92
    go_wp2
    go_ret2
    exact ⟨rfl, rfl⟩

end Go.Proofs.Ytmpklkhjipclmaa.Cp

namespace Go.Proofs.Ytmpklkhjipclmaa.Cp
open Go.RowKit
open U

theorem i64_of (m : Nat) (h : m < 9223372036854775808) : IntKind.i64.wrap (m : Int) = m := by
  exact IntWalk.i64_in (m : Int) (by omega)
theorem ofInt_i64 (a : Nat) (ha : a < 1099511627776) : (BitVec.ofInt 64 (a : Int)).toNat = a := by
  rw [BitVec.ofInt_natCast, BitVec.toNat_ofNat]; exact Nat.mod_eq_of_lt (by omega)
theorem i64_and_nat (a b : Nat) (ha : a < 1099511627776) (hb : b < 1099511627776) : bits .and .i64 (a : Int) (b : Int) = ((a &&& b : Nat) : Int) := by
  have hx : a &&& b < 2 ^ 40 := Nat.and_lt_two_pow _ (by omega)
  show IntKind.i64.wrap ((BitVec.ofInt 64 (a : Int) &&& BitVec.ofInt 64 (b : Int)).toNat : Int) = _
  rw [BitVec.toNat_and, ofInt_i64 a ha, ofInt_i64 b hb, i64_of _ (by omega)]
theorem i64_or_nat (a b : Nat) (ha : a < 1099511627776) (hb : b < 1099511627776) : bits .or .i64 (a : Int) (b : Int) = ((a ||| b : Nat) : Int) := by
  have hx : a ||| b < 2 ^ 40 := Nat.or_lt_two_pow (by omega) (by omega)
  show IntKind.i64.wrap ((BitVec.ofInt 64 (a : Int) ||| BitVec.ofInt 64 (b : Int)).toNat : Int) = _
  rw [BitVec.toNat_or, ofInt_i64 a ha, ofInt_i64 b hb, i64_of _ (by omega)]
theorem and63 (c : Nat) (hc : c < 256) : bits .and .i64 (c : Int) 63 = ((c % 64 : Nat) : Int) := by
  have := i64_and_nat c 63 (by omega) (by omega)
  rw [nat_mask6] at this; exact this
theorem or6 (p c : Nat) (hp : p < 16777216) : bits .or .i64 ((p * 64 : Nat) : Int) ((c % 64 : Nat) : Int) = ((p * 64 + c % 64 : Nat) : Int) := by
  rw [i64_or_nat _ _ (by omega) (by omega), nat_join 6 _ _ (by omega) (by omega)]
theorem maskw (c n : Nat) (hc : c < 256) (h1 : 2 ≤ n) (h2 : n ≤ 4) : bits .and .i64 (c : Int) (127 / 2 ^ n) = ((c % 2 ^ (7 - n) : Nat) : Int) := by
  have h : n = 2 ∨ n = 3 ∨ n = 4 := by omega
  rcases h with rfl | rfl | rfl
  · have := i64_and_nat c 31 (by omega) (by omega)
    rw [nat_mask5] at this; exact this
  · have := i64_and_nat c 15 (by omega) (by omega)
    rw [nat_mask4] at this; exact this
  · have := i64_and_nat c 7 (by omega) (by omega)
    rw [nat_mask3] at this; exact this

theorem scan_head (s : ByteArray) (k : Nat) (h : k < s.size) : s.data.toList.drop k = s[k] :: s.data.toList.drop (k + 1) := by
  rw [List.drop_eq_getElem_cons (by simpa using h)]; rfl

/-- What scan hands back. -/
def ScanRet (l : List UInt8) (w : World) (e : Ending) (w' : World) : Prop := e = .returned (.tuple #[.int .i64 ((scan l).1 : Nat), .int .i64 ((scan l).2.1 : Nat), .bool (scan l).2.2]) ∧ w = w'
theorem scanRet_of {l : List UInt8} {w w' : World} {p n : Nat} {b : Bool} {e : Ending} (h : scan l = (p, n, b)) (he : e = .returned (.tuple #[.int .i64 (p : Nat), .int .i64 (n : Nat), .bool b])) (hw : w = w') : ScanRet l w e w' := by
  unfold ScanRet; rw [h]; exact ⟨he, hw⟩

def pb (z : Nat) : Nat := if z = 1 then 32 else if z = 2 then 2048 else if z = 3 then 131072 else 8388608
theorem pb_step {z p c : Nat} (h : 1 ≤ z) (h3 : z ≤ 3) (hp : p < pb z) : p * 64 + c % 64 < pb (z + 1) := by
  unfold pb at *
  have : z = 1 ∨ z = 2 ∨ z = 3 := by omega
  rcases this with rfl | rfl | rfl <;> simp at * <;> omega
theorem pb_le {z p : Nat} (hp : p < pb z) : p < 8388608 := by
  unfold pb at hp; (repeat' split at hp) <;> omega

set_option maxRecDepth 100000 in
set_option maxHeartbeats 1000000 in
theorem scan_any (s : ByteArray) (k : Nat) (h : k < s.size) (hs : s.size ≤ 1000000) (w : World) :
    Calls Try.prog 78 #[.string s, .int .i64 k] w (ScanRet (s.data.toList.drop k) w) := by
  have hb := s[k].toNat_lt
  have hh := scan_head s k h
  by_cases h1 : wid s[k].toNat < 2
  · have HF := Lib.hid (show scan (s.data.toList.drop k) = (s[k].toNat, wid s[k].toNat, wid s[k].toNat == 1) by rw [hh]; simp only [scan]; rw [if_pos h1])
    clear hh
    go_enter Try.func78, Try.ntmps78
    go_wp2_with (go_at_call 91; refine (width_any _ (by omega) _).mono ?_; rintro e w' ⟨rfl, rfl⟩)
    go_ret3
    refine scanRet_of HF.out ?_ rfl
    rw [show (((wid s[k].toNat : Nat) : Int) == 1) = (wid s[k].toNat == 1) from by rw [Bool.eq_iff_iff, beq_iff_eq, beq_iff_eq]; omega]
    rfl
  · have h2 : wid s[k].toNat ≤ 4 := by unfold wid; (repeat' split) <;> omega
    have HF := Lib.hid (show scan (s.data.toList.drop k) = scanGo (wid s[k].toNat) (s.data.toList.drop (k + 1)) 1 (s[k].toNat % 2 ^ (7 - wid s[k].toNat)) (lo2 s[k].toNat) (hi2 s[k].toNat) by rw [hh]; simp only [scan]; rw [if_neg h1])
    have HM := Lib.hid (maskw s[k].toNat (wid s[k].toNat) hb (by omega) h2)
    have hp0 : s[k].toNat % 2 ^ (7 - wid s[k].toNat) < pb 1 := by
      have h : wid s[k].toNat = 2 ∨ wid s[k].toNat = 3 ∨ wid s[k].toNat = 4 := by omega
      rcases h with h | h | h <;> rw [h] <;> unfold pb <;> simp <;> omega
    have HP := Lib.hid hp0
    have hlo : lo2 s[k].toNat < 256 := by unfold lo2; (repeat' split) <;> omega
    have hhi : hi2 s[k].toNat < 256 := by unfold hi2; (repeat' split) <;> omega
    clear hh hp0
    go_enter Try.func78, Try.ntmps78
    go_wp2_with (first | (go_at_call 91; refine (width_any _ (by omega) _).mono ?_; rintro e w' ⟨rfl, rfl⟩) | (go_at_call 92; refine (second_any _ (by omega) _).mono ?_; rintro e w' ⟨rfl, rfl⟩))
    go_loop [4, 5, 9, 10] (fun p z lo hi => ∃ P Z L H : Nat, p = .int .i64 P ∧ z = .int .i64 Z ∧ lo = .int .u8 L ∧ hi = .int .u8 H ∧ 1 ≤ Z ∧ Z ≤ wid s[k].toNat ∧ k + Z ≤ s.size ∧ P < pb Z ∧ L < 256 ∧ H < 256 ∧ scan (s.data.toList.drop k) = scanGo (wid s[k].toNat) (s.data.toList.drop (k + Z)) Z P L H) (fun _ z _ _ => 4 - (intOf z).toNat)
    case atStart => exact ⟨_, 1, _, _, by rw [HM.out], rfl, rfl, rfl, by omega, by omega, by omega, HP.out, hlo, hhi, HF.out⟩
    case round =>
      obtain ⟨P, Z, L, H, rfl, rfl, rfl, rfl, hz1, hz2, hz3, hP, hL, hH, hg⟩ := hrel
      clear HM HP HF
      have HG := Lib.hid hg
      have HPb := Lib.hid hP
      have hP2 := pb_le hP
      clear hg hP
      by_cases hlt : Z < wid s[k].toNat
      · by_cases he : k + Z = s.size
        · have HN := Lib.hid (show s.data.toList.drop (k + Z) = [] from List.drop_eq_nil_of_le (by simp; omega))
          have k1 : (((k : Int) + (Z : Int)) == (s.size : Int)) = true := by rw [beq_iff_eq]; omega
          clear he
          go_wp2
          go_ret3
          refine scanRet_of (HG.out.trans ?_) rfl rfl
          rw [HN.out]
          exact scanGo_nil _ _ _ _ _ hlt
        · have hlt2 : k + Z < s.size := by omega
          have k1 : (((k : Int) + (Z : Int)) == (s.size : Int)) = false := by rw [beq_eq_false_iff_ne]; omega
          have hc := s[k + Z].toNat_lt
          have HN := Lib.hid (scan_head s (k + Z) hlt2)
          clear he
          by_cases hlo' : s[k + Z].toNat < L
          · go_wp2
            go_ret3
            refine scanRet_of (HG.out.trans ?_) rfl rfl
            rw [HN.out, scanGo_lt _ _ _ _ _ _ _ hlt, if_pos (.inl hlo')]
          · by_cases hhi' : H < s[k + Z].toNat
            · go_wp2
              go_ret3
              refine scanRet_of (HG.out.trans ?_) rfl rfl
              rw [HN.out, scanGo_lt _ _ _ _ _ _ _ hlt, if_pos (.inr hhi')]
            · have hst := Lib.hid (pb_step (c := s[k + Z].toNat) hz1 (by omega) HPb.out)
              go_wp2
              go_round
              case rel =>
                refine ⟨P * 64 + s[k + Z].toNat % 64, Z + 1, 128, 191, ?_, by go_num, rfl, rfl, by omega, by omega, by omega, hst.out, by omega, by omega, ?_⟩
                · rw [and63 _ hc, show ((P : Int) * 64) = ((P * 64 : Nat) : Int) from by omega, or6 _ _ (by omega)]
                · rw [HG.out, HN.out, scanGo_lt _ _ _ _ _ _ _ hlt, if_neg (by omega)]; rfl
              case measure => simp [intOf]; omega
      · go_wp2
        go_ret3
        exact scanRet_of (HG.out.trans (scanGo_ge _ _ _ _ _ _ hlt)) rfl rfl
end Go.Proofs.Ytmpklkhjipclmaa.Cp

namespace Go.Proofs.Ytmpklkhjipclmaa.Cp
open Go.RowKit
open U

/-- A string: encodings of points, and a rest with which none begins. -/
structure Str (s : ByteArray) (P : List Nat) (bad : List UInt8) : Prop where
  eq : s.data.toList = U.bytes P ++ bad
  pts : Pts P
  rest : (dec bad).2 = 0
  small : s.size ≤ 1000000
theorem Str.ex (s : ByteArray) (h : s.size ≤ 1000000) : ∃ P bad, Str s P bad := by
  obtain ⟨P, bad, h1, h2, h3⟩ := parts s.data.toList
  exact ⟨P, bad, h1, h2, h3, h⟩
theorem Str.size {s P bad} (h : Str s P bad) : s.size = (U.bytes P).length + bad.length := by
  have := congrArg List.length h.eq
  rw [List.length_append] at this
  rw [← this]; simp
theorem Str.drop {s P bad} (h : Str s P bad) (k : Nat) : s.data.toList.drop (off P k) = U.bytes (P.drop k) ++ bad := by
  rw [h.eq, drop_off]
theorem Str.lt {s P bad} (h : Str s P bad) (k : Nat) (hk : k < P.length) : off P k + (enc P[k]).length ≤ s.size := by
  have h1 := off_succ P k hk
  have h2 := off_le P (k + 1)
  have h3 := h.size
  omega
theorem Str.scan {s P bad} (h : Str s P bad) (k : Nat) (hk : k < P.length) : U.scan (s.data.toList.drop (off P k)) = (P[k], (enc P[k]).length, true) := by
  have := enc_pos P[k]
  exact scan_some _ _ _ (by rw [h.drop, dec_at h.pts bad k hk]) (by omega)
theorem Str.scan_end {s P bad} (h : Str s P bad) (hb : bad ≠ []) : ∃ q z, U.scan (s.data.toList.drop (off P P.length)) = (q, z, false) := by
  have : s.data.toList.drop (off P P.length) = bad := by rw [h.drop, List.drop_length]; rfl
  rw [this]
  obtain ⟨q, k, h1, _⟩ := scan_none bad hb h.rest
  exact ⟨q, k, h1⟩

theorem scan_ok {s P bad} (h : Str s P bad) (k : Nat) (hk : k < P.length) (w : World) :
    Calls Try.prog 78 #[.string s, .int .i64 (off P k : Nat)] w fun e w' => e = .returned (.tuple #[.int .i64 (P[k] : Nat), .int .i64 ((enc P[k]).length : Nat), .bool true]) ∧ w = w' := by
  have h1 := h.lt k hk
  have h2 := enc_pos P[k]
  refine (scan_any s (off P k) (by omega) h.small w).mono ?_
  rintro e w' ⟨he, hw⟩
  rw [h.scan k hk] at he
  exact ⟨he, hw⟩
theorem scan_end {s P bad} (h : Str s P bad) (hb : bad ≠ []) (w : World) :
    Calls Try.prog 78 #[.string s, .int .i64 (off P P.length : Nat)] w fun e w' => ∃ q z : Nat, e = .returned (.tuple #[.int .i64 (q : Nat), .int .i64 (z : Nat), .bool false]) ∧ w = w' := by
  have h1 := h.size
  have h2 := off_end P
  have h3 : 0 < bad.length := List.length_pos_iff.2 hb
  refine (scan_any s (off P P.length) (by omega) h.small w).mono ?_
  rintro e w' ⟨he, hw⟩
  obtain ⟨q, z, hq⟩ := h.scan_end hb
  rw [hq] at he
  exact ⟨q, z, he, hw⟩

def fstI (P : List Nat) (bad : List UInt8) : Int := if bad = [] then -1 else (U.bytes P).length
set_option maxRecDepth 100000 in
set_option maxHeartbeats 1000000 in
theorem first_any {s P bad} (h : Str s P bad) (w : World) :
    Calls Try.prog 56 #[.string s] w fun e w' => e = .returned (.int .i64 (fstI P bad)) ∧ w = w' := by
  have hsz := h.small
  go_enter Try.func56, Try.ntmps56
  go_wp2
  go_loop [3] (fun i => ∃ k : Nat, k ≤ P.length ∧ i = .int .i64 (off P k : Nat)) (fun i => s.size - (intOf i).toNat)
  case atStart => exact ⟨0, Nat.zero_le _, rfl⟩
  case round =>
    obtain ⟨k, hk, rfl⟩ := hrel
    by_cases hlt : k < P.length
    · have h1 := h.lt k hlt
      have h2 := enc_pos P[k]
      have HS := Lib.hid (off_succ P k hlt)
      go_wp2_with (go_at_call 78; refine (scan_ok h k hlt _).mono ?_; rintro e w' ⟨rfl, rfl⟩)
      go_round
      case rel => exact ⟨k + 1, by omega, by rw [HS.out]; go_num⟩
      case measure => simp [intOf]; omega
    · obtain rfl : k = P.length := by omega
      have h1 := h.size
      have h2 := off_end P
      by_cases hb : bad = []
      · have : off P P.length = s.size := by rw [hb] at h1; simp at h1; omega
        have k1 : ¬ ((off P P.length : Nat) : Int) < (s.size : Int) := by omega
        have hf := Lib.hid (show fstI P bad = -1 from if_pos hb)
        clear h2 h1 this hb
        go_wp2
        go_ret
        exact ⟨ret_int hf.out.symm, rfl⟩
      · have h3 : 0 < bad.length := List.length_pos_iff.2 hb
        have k1 : ((off P P.length : Nat) : Int) < (s.size : Int) := by omega
        have hf := Lib.hid (show fstI P bad = (off P P.length : Nat) from by rw [h2]; exact if_neg hb)
        clear h2 h1
        go_wp2_with (go_at_call 78; refine (scan_end h hb _).mono ?_; rintro e w' ⟨q, z, rfl, rfl⟩)
        go_ret
        exact ⟨ret_int hf.out.symm, rfl⟩

def vldB (bad : List UInt8) : Bool := decide (bad = [])
set_option maxRecDepth 100000 in
set_option maxHeartbeats 1000000 in
theorem valid_any {s P bad} (h : Str s P bad) (w : World) :
    Calls Try.prog 38 #[.string s] w fun e w' => e = .returned (.bool (vldB bad)) ∧ w = w' := by
  have hf : decide (fstI P bad < 0) = vldB bad := by
    unfold fstI vldB
    by_cases hb : bad = []
    · rw [if_pos hb, decide_eq_true hb]; rfl
    · rw [if_neg hb, decide_eq_false hb]; exact decide_eq_false (by omega)
  have HF := Lib.hid hf
  clear hf
  go_enter Try.func38, Try.ntmps38
  go_wp2_with (go_at_call 56; refine (first_any h _).mono ?_; rintro e w' ⟨rfl, rfl⟩)
  go_ret
  exact ⟨ret_bool HF.out, rfl⟩
end Go.Proofs.Ytmpklkhjipclmaa.Cp

namespace Go.Proofs.Ytmpklkhjipclmaa.Cp
open Go.RowKit
open U

theorem valid_ok {s P} (h : Str s P []) (w : World) :
    Calls Try.prog 38 #[.string s] w fun e w' => e = .returned (.bool true) ∧ w = w' := valid_any h w
theorem valid_no {s P bad} (h : Str s P bad) (hb : bad ≠ []) (w : World) :
    Calls Try.prog 38 #[.string s] w fun e w' => e = .returned (.bool false) ∧ w = w' := by
  have : vldB bad = false := decide_eq_false hb
  rw [← this]; exact valid_any h w

theorem wid_enc (p : Nat) (h : isPt p) : ∃ a t, enc p = a :: t ∧ wid a.toNat = (enc p).length := by
  obtain ⟨h1, h2⟩ := h
  unfold enc encN
  by_cases c1 : p < 128
  · rw [if_pos c1]; exact ⟨_, _, rfl, by rw [u8_toNat _ (by omega), wid1 c1]; rfl⟩
  rw [if_neg c1]
  by_cases c2 : p < 2048
  · rw [if_pos c2]; exact ⟨_, _, rfl, by rw [u8_toNat _ (by omega), wid2 (by omega) (by omega)]; rfl⟩
  rw [if_neg c2]
  by_cases c3 : p < 65536
  · rw [if_pos c3]; exact ⟨_, _, rfl, by rw [u8_toNat _ (by omega), wid3 (by omega) (by omega)]; rfl⟩
  · rw [if_neg c3]; exact ⟨_, _, rfl, by rw [u8_toNat _ (by omega), wid4 (by omega) (by omega)]; rfl⟩
theorem Str.width {s P bad} (h : Str s P bad) (k : Nat) (hk : k < P.length) (hs : off P k < s.size) : wid (s[off P k]).toNat = (enc P[k]).length := by
  obtain ⟨a, t, e1, e2⟩ := wid_enc _ (h.pts.get k hk)
  have h1 := scan_head s (off P k) hs
  rw [h.drop, drop_cons P k hk, e1, List.append_assoc, List.cons_append] at h1
  injection h1 with h1 _
  rw [← h1, e2]
theorem width_at {s P bad} (h : Str s P bad) (k : Nat) (hk : k < P.length) (hs : off P k < s.size) (w : World) :
    Calls Try.prog 91 #[.int .u8 ((s[off P k]).toNat : Nat)] w fun e w' => e = .returned (.int .i64 ((enc P[k]).length : Nat)) ∧ w = w' := by
  have := width_any (s[off P k]).toNat (s[off P k]).toNat_lt w
  rw [h.width k hk hs] at this; exact this

/-- What Offset answers. -/
def OffRet (P : List Nat) (u : Int) (w : World) (e : Ending) (w' : World) : Prop :=
  (0 ≤ u ∧ u ≤ P.length ∧ e = .returned (.tuple #[.int .i64 (off P u.toNat : Nat), .int .i64 0]) ∨ ¬ (0 ≤ u ∧ u ≤ P.length) ∧ e = .returned (.tuple #[.int .i64 0, .int .i64 2])) ∧ w = w'
/-- What Unit answers. -/
def UnitRet (P : List Nat) (u : Int) (w : World) (e : Ending) (w' : World) : Prop :=
  ((∃ k : Nat, k ≤ P.length ∧ u = (off P k : Nat) ∧ e = .returned (.tuple #[.int .i64 (k : Nat), .int .i64 0])) ∨ (∀ k : Nat, k ≤ P.length → u ≠ (off P k : Nat)) ∧ e = .returned (.tuple #[.int .i64 0, .int .i64 2])) ∧ w = w'
end Go.Proofs.Ytmpklkhjipclmaa.Cp

namespace Go.Proofs.Ytmpklkhjipclmaa.Cp
open Go.RowKit
open U

def StrRet (l : List UInt8) (w : World) (e : Ending) (w' : World) : Prop := e = .returned (.string ⟨l.toArray⟩) ∧ Below w.heap.size w w'

/-- The table of the first bytes. -/
def firsts : Array Value := #[.int .i64 0, .int .i64 0, .int .i64 192, .int .i64 224, .int .i64 240]

end Go.Proofs.Ytmpklkhjipclmaa.Cp
