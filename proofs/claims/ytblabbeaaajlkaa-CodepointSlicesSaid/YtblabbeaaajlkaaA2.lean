import Derived.Test.YtblabbeaaajlkaaA1
import Derived.Laws.BitsAllLaws
namespace Go.Proofs.Ytblabbeaaajlkaa
open Go.RowKit
open U

theorem i64_of (m : Nat) (h : m < 9223372036854775808) : IntKind.i64.wrap (m : Int) = m := by
  exact IntWalk.i64_in (m : Int) (by omega)
theorem ofInt_i64 (a : Nat) (ha : a < 1099511627776) : (BitVec.ofInt 64 (a : Int)).toNat = a := by
  rw [BitVec.ofInt_natCast, BitVec.toNat_ofNat]; exact Nat.mod_eq_of_lt (by omega)
theorem i64_and_nat (a b : Nat) (ha : a < 1099511627776) (hb : b < 1099511627776) : bits .and .i64 (a : Int) (b : Int) = ((a &&& b : Nat) : Int) := by
  have hx : a &&& b < 2 ^ 40 := Nat.and_lt_two_pow _ (by omega)
  show IntKind.i64.wrap ((BitVec.ofInt 64 (a : Int) &&& BitVec.ofInt 64 (b : Int)).toNat : Int) = _
  rw [BitVec.toNat_and, ofInt_i64 a ha, ofInt_i64 b hb, i64_of _ (by omega)]
theorem i64_or_nat (a b : Nat) (ha : a < 1099511627776) (hb : b < 1099511627776) : bits .or .i64 (a : Int) (b : Int) = ((a ||| b : Nat) : Int) := by
  have hx : a ||| b < 2 ^ 40 := Nat.or_lt_two_pow (by omega) (by omega)
  show IntKind.i64.wrap ((BitVec.ofInt 64 (a : Int) ||| BitVec.ofInt 64 (b : Int)).toNat : Int) = _
  rw [BitVec.toNat_or, ofInt_i64 a ha, ofInt_i64 b hb, i64_of _ (by omega)]
theorem and63 (c : Nat) (hc : c < 256) : bits .and .i64 (c : Int) 63 = ((c % 64 : Nat) : Int) := by
  have := i64_and_nat c 63 (by omega) (by omega)
  rw [nat_mask6] at this; exact this
theorem or6 (p c : Nat) (hp : p < 16777216) : bits .or .i64 ((p * 64 : Nat) : Int) ((c % 64 : Nat) : Int) = ((p * 64 + c % 64 : Nat) : Int) := by
  rw [i64_or_nat _ _ (by omega) (by omega), nat_join 6 _ _ (by omega) (by omega)]
theorem maskw (c n : Nat) (hc : c < 256) (h1 : 2 ≤ n) (h2 : n ≤ 4) : bits .and .i64 (c : Int) (127 / 2 ^ n) = ((c % 2 ^ (7 - n) : Nat) : Int) := by
  have h : n = 2 ∨ n = 3 ∨ n = 4 := by omega
  rcases h with rfl | rfl | rfl
  · have := i64_and_nat c 31 (by omega) (by omega)
    rw [nat_mask5] at this; exact this
  · have := i64_and_nat c 15 (by omega) (by omega)
    rw [nat_mask4] at this; exact this
  · have := i64_and_nat c 7 (by omega) (by omega)
    rw [nat_mask3] at this; exact this

theorem scan_head (s : ByteArray) (k : Nat) (h : k < s.size) : s.data.toList.drop k = s[k] :: s.data.toList.drop (k + 1) := by
  rw [List.drop_eq_getElem_cons (by simpa using h)]; rfl

/-- What scan hands back. -/
def ScanRet (l : List UInt8) (w : World) (e : Ending) (w' : World) : Prop := e = .returned (.tuple #[.int .i64 ((scan l).1 : Nat), .int .i64 ((scan l).2.1 : Nat), .bool (scan l).2.2]) ∧ w = w'
theorem scanRet_of {l : List UInt8} {w w' : World} {p n : Nat} {b : Bool} {e : Ending} (h : scan l = (p, n, b)) (he : e = .returned (.tuple #[.int .i64 (p : Nat), .int .i64 (n : Nat), .bool b])) (hw : w = w') : ScanRet l w e w' := by
  unfold ScanRet; rw [h]; exact ⟨he, hw⟩

def pb (z : Nat) : Nat := if z = 1 then 32 else if z = 2 then 2048 else if z = 3 then 131072 else 8388608
theorem pb_step {z p c : Nat} (h : 1 ≤ z) (h3 : z ≤ 3) (hp : p < pb z) : p * 64 + c % 64 < pb (z + 1) := by
  unfold pb at *
  have : z = 1 ∨ z = 2 ∨ z = 3 := by omega
  rcases this with rfl | rfl | rfl <;> simp at * <;> omega
theorem pb_le {z p : Nat} (hp : p < pb z) : p < 8388608 := by
  unfold pb at hp; (repeat' split at hp) <;> omega

set_option maxRecDepth 100000 in
set_option maxHeartbeats 1000000 in
theorem scan_any (s : ByteArray) (k : Nat) (h : k < s.size) (hs : s.size ≤ 1000000) (w : World) :
    Calls Try.prog 37 #[.string s, .int .i64 k] w (ScanRet (s.data.toList.drop k) w) := by
  have hb := s[k].toNat_lt
  have hh := scan_head s k h
  by_cases h1 : wid s[k].toNat < 2
  · have HF := Lib.hid (show scan (s.data.toList.drop k) = (s[k].toNat, wid s[k].toNat, wid s[k].toNat == 1) by rw [hh]; simp only [scan]; rw [if_pos h1])
    clear hh
    go_enter Try.func37, Try.ntmps37
    go_wp2_with (go_at_call 38; refine (width_any _ (by omega) _).mono ?_; rintro e w' ⟨rfl, rfl⟩)
    go_ret3
    refine scanRet_of HF.out ?_ rfl
    rw [show (((wid s[k].toNat : Nat) : Int) == 1) = (wid s[k].toNat == 1) from by rw [Bool.eq_iff_iff, beq_iff_eq, beq_iff_eq]; omega]
    rfl
  · have h2 : wid s[k].toNat ≤ 4 := by unfold wid; (repeat' split) <;> omega
    have HF := Lib.hid (show scan (s.data.toList.drop k) = scanGo (wid s[k].toNat) (s.data.toList.drop (k + 1)) 1 (s[k].toNat % 2 ^ (7 - wid s[k].toNat)) (lo2 s[k].toNat) (hi2 s[k].toNat) by rw [hh]; simp only [scan]; rw [if_neg h1])
    have HM := Lib.hid (maskw s[k].toNat (wid s[k].toNat) hb (by omega) h2)
    have hp0 : s[k].toNat % 2 ^ (7 - wid s[k].toNat) < pb 1 := by
      have h : wid s[k].toNat = 2 ∨ wid s[k].toNat = 3 ∨ wid s[k].toNat = 4 := by omega
      rcases h with h | h | h <;> rw [h] <;> unfold pb <;> simp <;> omega
    have HP := Lib.hid hp0
    have hlo : lo2 s[k].toNat < 256 := by unfold lo2; (repeat' split) <;> omega
    have hhi : hi2 s[k].toNat < 256 := by unfold hi2; (repeat' split) <;> omega
    clear hh hp0
    go_enter Try.func37, Try.ntmps37
    go_wp2_with (first | (go_at_call 38; refine (width_any _ (by omega) _).mono ?_; rintro e w' ⟨rfl, rfl⟩) | (go_at_call 47; refine (second_any _ (by omega) _).mono ?_; rintro e w' ⟨rfl, rfl⟩))
    go_loop [4, 5, 9, 10] (fun p z lo hi => ∃ P Z L H : Nat, p = .int .i64 P ∧ z = .int .i64 Z ∧ lo = .int .u8 L ∧ hi = .int .u8 H ∧ 1 ≤ Z ∧ Z ≤ wid s[k].toNat ∧ k + Z ≤ s.size ∧ P < pb Z ∧ L < 256 ∧ H < 256 ∧ scan (s.data.toList.drop k) = scanGo (wid s[k].toNat) (s.data.toList.drop (k + Z)) Z P L H) (fun _ z _ _ => 4 - (intOf z).toNat)
    case atStart => exact ⟨_, 1, _, _, by rw [HM.out], rfl, rfl, rfl, by omega, by omega, by omega, HP.out, hlo, hhi, HF.out⟩
    case round =>
      obtain ⟨P, Z, L, H, rfl, rfl, rfl, rfl, hz1, hz2, hz3, hP, hL, hH, hg⟩ := hrel
      clear HM HP HF
      have HG := Lib.hid hg
      have HPb := Lib.hid hP
      have hP2 := pb_le hP
      clear hg hP
      by_cases hlt : Z < wid s[k].toNat
      · by_cases he : k + Z = s.size
        · have HN := Lib.hid (show s.data.toList.drop (k + Z) = [] from List.drop_eq_nil_of_le (by simp; omega))
          have k1 : (((k : Int) + (Z : Int)) == (s.size : Int)) = true := by rw [beq_iff_eq]; omega
          clear he
          go_wp2
          go_ret3
          refine scanRet_of (HG.out.trans ?_) rfl rfl
          rw [HN.out]
          exact scanGo_nil _ _ _ _ _ hlt
        · have hlt2 : k + Z < s.size := by omega
          have k1 : (((k : Int) + (Z : Int)) == (s.size : Int)) = false := by rw [beq_eq_false_iff_ne]; omega
          have hc := s[k + Z].toNat_lt
          have HN := Lib.hid (scan_head s (k + Z) hlt2)
          clear he
          by_cases hlo' : s[k + Z].toNat < L
          · go_wp2
            go_ret3
            refine scanRet_of (HG.out.trans ?_) rfl rfl
            rw [HN.out, scanGo_lt _ _ _ _ _ _ _ hlt, if_pos (.inl hlo')]
          · by_cases hhi' : H < s[k + Z].toNat
            · go_wp2
              go_ret3
              refine scanRet_of (HG.out.trans ?_) rfl rfl
              rw [HN.out, scanGo_lt _ _ _ _ _ _ _ hlt, if_pos (.inr hhi')]
            · have hst := Lib.hid (pb_step (c := s[k + Z].toNat) hz1 (by omega) HPb.out)
              go_wp2
              go_round
              case rel =>
                refine ⟨P * 64 + s[k + Z].toNat % 64, Z + 1, 128, 191, ?_, by go_num, rfl, rfl, by omega, by omega, by omega, hst.out, by omega, by omega, ?_⟩
                · rw [and63 _ hc, show ((P : Int) * 64) = ((P * 64 : Nat) : Int) from by omega, or6 _ _ (by omega)]
                · rw [HG.out, HN.out, scanGo_lt _ _ _ _ _ _ _ hlt, if_neg (by omega)]; rfl
              case measure => simp [intOf]; omega
      · go_wp2
        go_ret3
        exact scanRet_of (HG.out.trans (scanGo_ge _ _ _ _ _ _ hlt)) rfl rfl
end Go.Proofs.Ytblabbeaaajlkaa
