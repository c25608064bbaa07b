/- Layer 6: digits (27). -/
import Derived.Test.YtknbglcmjggkjaaK3
import Derived.Test.YtknbglcmjggkjaaLN
namespace Go.Proofs.Ytknbglcmjggkjaa
open Go.RowKit Go.Shelf Go.Lib Co

theorem dcm_first (n : Nat) : dcm n = (if n / 10 = 0 then [] else dcm (n / 10)) ++ [48 + n % 10] := by
  by_cases h : n < 10
  · rw [dcm, if_pos h, if_pos (by omega), show n % 10 = n by omega]; rfl
  · rw [dcm, if_neg h, if_neg (by omega)]
theorem dcm_step {n m : Nat} {D : List Nat} (h : dcm n = (if m = 0 then [] else dcm m) ++ D) (hm : 0 < m) : dcm n = (if m / 10 = 0 then [] else dcm (m / 10)) ++ ((48 + m % 10) :: D) := by
  rw [h, if_neg (by omega), dcm_first m, List.append_assoc]; rfl
/-- Points below 128 as bytes. -/
def d8 (l : List Nat) : List UInt8 := l.map UInt8.ofNat
theorem bs_app (a b : List UInt8) : bs a ++ bs b = bs (a ++ b) := by
  unfold bs
  apply ByteArray.ext
  simp
theorem conv1 (W : World) (x : Int) (u : UInt8) (h : x = (u.toNat : Nat)) : (convert 65 9 (.slice (some ⟨W.heap.size, 0, none⟩) 1 1)).run Try.prog (W.alloc (.cells #[.int .u8 x] 5)) = .ok (.string (bs [u])) (W.alloc (.cells #[.int .u8 x] 5)) := by
  refine run_convert_bytes_back _ 65 9 5 ⟨W.heap.size, 0, none⟩ 1 [u] Try.underlying65 Try.underlying5 Try.underlying9 (fun j hj => ?_)
  have hj0 : j = 0 := by simpa using hj
  subst hj0
  rw [show ((⟨W.heap.size, 0, none⟩ : Addr).add 0) = ⟨W.heap.size, 0, none⟩ by simp [Addr.add], World.cell?_alloc_new, h]
  rfl
/-- A string that a call answers. -/
def StrA (l : List UInt8) (w : World) (e : Ending) (w' : World) : Prop := e = .returned (.string (bs l)) ∧ Below w.heap.size w w'
set_option maxRecDepth 100000 in
set_option maxHeartbeats 8000000 in
theorem digits_any (n z : Nat) (hn : n < 9223372036854775808) (hz : z ≤ 9) (w : World) : Calls Try.prog 27 #[.int .i64 (n : Nat), .int .i64 (z : Nat)] w (StrA (d8 (List.replicate z 48 ++ dcm n)) w) := by
  have hln : (dcm n).length ≤ 19 := dcm_len n 18 (by omega)
  have HLN := Go.Lib.hid hln
  clear hln
  obtain ⟨S0, hS0⟩ : ∃ S, S = bs [UInt8.ofNat (48 + n % 10)] := ⟨_, rfl⟩
  have cv0 := conv1 w (48 + (n : Int) % 10) (UInt8.ofNat (48 + n % 10)) (by rw [UInt8.toNat_ofNat', Nat.mod_eq_of_lt (by omega)]; omega)
  rw [← hS0] at cv0
  have HS0 := Go.Lib.hid hS0
  clear hS0
  have hB0 : Below w.heap.size w (w.alloc (.cells #[.int .u8 (48 + (n : Int) % 10)] 5)) := (Below.refl _ w).alloc (Nat.le_refl _) _
  have H0 := Go.Lib.hid (dcm_first n)
  go_enter Try.func27, Try.ntmps27
  go_wp2_with fail
  clear cv0
  generalize w.alloc (.cells #[.int .u8 (48 + (n : Int) % 10)] 5) = W0 at *
  go_loopw [0, 5] (fun nv sv wr => ∃ (m : Nat) (D : List Nat), nv = .int .i64 (m : Nat) ∧ m ≤ n ∧ sv = .string (bs (d8 D)) ∧ Hid (dcm n = (if m = 0 then [] else dcm m) ++ D) ∧ Below w.heap.size w wr) (fun nv _ _ => (RowKit.intOf nv).toNat)
  case atStart => exact ⟨n / 10, [48 + n % 10], by go_num, by omega, by rw [HS0.out]; rfl, H0, hB0⟩
  case round =>
    clear hB0
    obtain ⟨m, D, rfl, hm, rfl, HD, hBk⟩ := hrel
    have hDl : (bs (d8 D)).size ≤ 19 := by
      have h1 := congrArg List.length HD.out
      rw [List.length_append] at h1
      rw [bs_size]; unfold d8; rw [List.length_map]
      have := HLN.out
      omega
    by_cases h0 : 0 < m
    · have h0i : (0 : Int) < (m : Int) := by omega
      have cv1 := conv1 wr (48 + (m : Int) % 10) (UInt8.ofNat (48 + m % 10)) (by rw [UInt8.toNat_ofNat', Nat.mod_eq_of_lt (by omega)]; omega)
      have HA := Go.Lib.hid (show bs [UInt8.ofNat (48 + m % 10)] ++ bs (d8 D) = bs (d8 ((48 + m % 10) :: D)) by rw [bs_app]; rfl)
      have hS : (bs [UInt8.ofNat (48 + m % 10)]).size ≤ 1 := by rw [bs_size]; exact Nat.le_refl _
      have HD2 := Go.Lib.hid (dcm_step HD.out h0)
      have HB2 := Go.Lib.hid (hBk.alloc hBk.size (.cells #[.int .u8 (48 + (m : Int) % 10)] 5))
      clear hBk HD
      generalize bs [UInt8.ofNat (48 + m % 10)] = S at *
      generalize bs (d8 D) = T at *
      go_wp2
      go_roundw
      case rel => exact ⟨m / 10, (48 + m % 10) :: D, by go_num, by omega, by rw [HA.out], HD2, HB2.out⟩
      case measure => simp [RowKit.intOf]; omega
    · have h0i : ¬ (0 : Int) < (m : Int) := by omega
      have HD2 := Go.Lib.hid (show dcm n = D by have := HD.out; rwa [if_pos (by omega), List.nil_append] at this)
      have HB2 := Go.Lib.hid hBk
      clear HD hBk hDl
      go_wp2_with fail
      go_loopw [5, 6] (fun sv iv wr' => ∃ k : Nat, k ≤ z ∧ iv = .int .i64 (k : Nat) ∧ sv = .string (bs (d8 (List.replicate k 48 ++ D))) ∧ wr' = wr) (fun _ iv _ => z - (RowKit.intOf iv).toNat)
      case atStart => exact ⟨0, Nat.zero_le _, rfl, rfl, rfl⟩
      case round =>
        obtain ⟨k, hk, rfl, rfl, rfl⟩ := hrel
        by_cases hlt : k < z
        · have hki : (k : Int) < (z : Int) := by omega
          have hS : (bs (d8 (List.replicate k 48 ++ D))).size ≤ 40 := by
            rw [bs_size]; unfold d8; rw [List.length_map, List.length_append, List.length_replicate, ← HD2.out]
            have := HLN.out
            omega
          have HA := Go.Lib.hid (show ({ data := #[48] } : ByteArray) ++ bs (d8 (List.replicate k 48 ++ D)) = bs (d8 (List.replicate (k + 1) 48 ++ D)) by
            rw [show ({ data := #[48] } : ByteArray) = bs [48] from rfl, bs_app]; rfl)
          generalize bs (d8 (List.replicate k 48 ++ D)) = S at *
          go_wp2
          go_roundw
          case rel => exact ⟨k + 1, by omega, by go_num, by rw [← HA.out], trivial⟩
          case measure => simp [RowKit.intOf]; omega
        · obtain rfl : k = z := by omega
          have hki : ¬ (k : Int) < (k : Int) := by omega
          go_wp2
          go_ret
          exact ⟨by rw [HD2.out]; rfl, HB2.out⟩
end Go.Proofs.Ytknbglcmjggkjaa
