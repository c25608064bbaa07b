/- Layer 9: the reference's Digits, Letters, Suffix, upper; ending. -/
import Derived.Test.YteahingapnijcaaDoorA1
namespace Go.Proofs.YteahingapnijcaaDoor
open Go.RowKit Go.Lib Go.Shelf Nu9

def bs (l : List UInt8) : ByteArray := ⟨l.toArray⟩
theorem bs_list (l : List UInt8) : (bs l).data.toList = l := by simp [bs]
theorem bs_size (l : List UInt8) : (bs l).size = l.length := by simp [bs, ByteArray.size]
theorem bs_append (a b : List UInt8) : bs a ++ bs b = bs (a ++ b) := by
  apply ByteArray.ext
  rw [ByteArray.data_append]; simp [bs]
theorem conv_one (w : World) (b : UInt8) (z : Int) (hz : z = b.toNat) : (convert 53 9 (.slice (some ⟨w.heap.size, 0, none⟩) 1 1)).run Tryd.prog (w.alloc (.cells #[.int .u8 z] 5)) = .ok (.string (bs [b])) (w.alloc (.cells #[.int .u8 z] 5)) := by
  subst hz
  refine conv_back _ _ _ _ [b] rfl ?_
  intro j hj
  match j, hj with
  | 0, _ => simp [Addr.add]
def StrB (l : List UInt8) (w : World) (e : Ending) (w' : World) : Prop := e = .returned (.string (bs l)) ∧ Below w.heap.size w w'
set_option maxRecDepth 100000 in
set_option maxHeartbeats 4000000 in
theorem digits_any (N : Nat) : N ≤ 9999999 → ∀ w : World, Calls Tryd.prog 25 #[.int .i64 (N : Int)] w (StrB (dec N) w) := by
  induction N using Nat.strongRecOn with
  | ind N ih =>
    intro hN w
    have hc := conv_one w (d8 (N % 10)) (48 + (N : Int) % 10) (by rw [d8_nat (by omega)]; omega)
    by_cases hlt : 9 < N
    · have HD := Lib.hid (show dec N = dec (N / 10) ++ [d8 (N % 10)] from dec_ge (by omega))
      have cI := fun w' => ih (N / 10) (by omega) (by omega) w'
      have e10 : ((N / 10 : Nat) : Int) = (N : Int) / 10 := by omega
      rw [e10] at cI
      have z1 : (bs (dec (N / 10))).size ≤ 7 := by rw [bs_size]; exact dec_len 6 _ (by omega)
      have z2 : (bs [d8 (N % 10)]).size ≤ 1 := by rw [bs_size]; exact Nat.le_refl _
      clear ih e10
      go_enter Tryd.func25, Tryd.ntmps25
      go_wp2_with (go_at_call 25; (with_reducible refine (cI _).mono ?_); rintro e w1 ⟨rfl, hb1⟩)
      go_ret
      rw [HD.out]
      unfold StrB
      rw [← bs_append]
      exact ⟨rfl, ((Below.refl _ w).alloc (Nat.le_refl _) _).trans (hb1.mono (by simp))⟩
    · have HD := Lib.hid (show dec N = [d8 (N % 10)] by rw [dec_lt (by omega), show N % 10 = N by omega])
      clear ih
      go_enter Tryd.func25, Tryd.ntmps25
      go_wp2
      go_ret
      rw [HD.out]
      exact ⟨rfl, (Below.refl _ w).alloc (Nat.le_refl _) _⟩
set_option maxRecDepth 100000 in
set_option maxHeartbeats 4000000 in
theorem rletters_any (N : Nat) (hN : N ≤ 999999) (w : World) : Calls Tryd.prog 26 #[.int .i64 (N : Int)] w (StrB (ltr N) w) := by
  go_enter Tryd.func26, Tryd.ntmps26
  go_wp2
  go_loopw [0, 3] (fun n v wr => ∃ (k : Nat) (r : List UInt8), n = .int .i64 (k : Nat) ∧ k ≤ 999999 ∧ Hid (ltr N = ltr k ++ r) ∧ v = .string (bs r) ∧ Below w.heap.size w wr) (fun n _ _ => (intOf n).toNat)
  case atStart => exact ⟨N, [], rfl, hN, Lib.hid (by simp), rfl, Below.refl _ _⟩
  case round =>
    obtain ⟨k, r, rfl, hk, HD, rfl, hbw⟩ := hrel
    have hw0 := hbw.size
    by_cases hlt : 0 < k
    · have HN := Lib.hid (ltr_step HD.out hlt)
      have hc := conv_one wr (a8 ((k - 1) % 26)) (97 + ((k : Int) - 1) % 26) (by rw [a8_nat (by omega)]; omega)
      have z1 : (bs r).size ≤ 6 := by
        rw [bs_size]
        have h1 := congrArg List.length HD.out
        have h2 := ltr_len 5 N (by omega)
        simp only [List.length_append] at h1
        omega
      have z2 : (bs [a8 ((k - 1) % 26)]).size ≤ 1 := by rw [bs_size]; exact Nat.le_refl _
      clear HD
      go_wp2
      go_roundw
      case rel =>
        exact ⟨(k - 1) / 26, a8 ((k - 1) % 26) :: r, by rw [show (((k - 1) / 26 : Nat) : Int) = ((k : Int) - 1) / 26 by omega], by omega, HN, by rw [bs_append]; rfl, hbw.alloc hw0 _⟩
      case measure => simp [intOf]; omega
    · have HE := Lib.hid (show ltr N = r by have := HD.out; rw [show k = 0 by omega, ltr_zero] at this; simpa using this)
      clear HD
      go_wp2
      go_ret
      rw [HE.out]
      exact ⟨rfl, hbw⟩
theorem ret_str {a b : ByteArray} (h : a = b) : Ending.returned (.string a) = .returned (.string b) := by rw [h]
set_option maxRecDepth 100000 in
set_option maxHeartbeats 4000000 in
theorem ending_any (N : Nat) (hN : N ≤ 999999) (w : World) : Calls Tryd.prog 42 #[.int .i64 (N : Int)] w fun e w' => e = .returned (.string (bs (sfx N))) ∧ w = w' := by
  obtain ⟨m, hm⟩ : ∃ m : Int, m = (N : Int) / 10 % 10 := ⟨_, rfl⟩
  obtain ⟨r, hr⟩ : ∃ r : Int, r = (N : Int) % 10 := ⟨_, rfl⟩
  have HM := Lib.hid (show (N / 10 % 10 = 1) = (m = 1) by apply propext; omega)
  have HR := fun k : Nat => Lib.hid (show (N % 10 = k) = (r = (k : Int)) by apply propext; omega)
  have H1 := HR 1
  have H2 := HR 2
  have H3 := HR 3
  have HS := Lib.hid (show sfx N = if m = 1 then [116, 104] else if r = 1 then [115, 116] else if r = 2 then [110, 100] else if r = 3 then [114, 100] else [116, 104] by
    unfold sfx
    have h1 := H1.out; have h2 := H2.out; have h3 := H3.out; have h0 := HM.out
    simp only [h0, h1, h2, h3]; rfl)
  clear HM HR H1 H2 H3
  by_cases q0 : m = 1
  · have HQ := Lib.hid (show sfx N = [116, 104] by rw [HS.out, if_pos q0])
    have q : ((N : Int) / 10 % 10 == 1) = true := by rw [← hm, q0]; rfl
    clear hm hr HS
    go_enter Tryd.func42, Tryd.ntmps42
    go_wp2
    go_ret
    rw [HQ.out]
    exact ⟨rfl, rfl⟩
  have q : ((N : Int) / 10 % 10 == 1) = false := by rw [← hm]; simpa using q0
  by_cases q1 : r = 1
  · have HQ := Lib.hid (show sfx N = [115, 116] by rw [HS.out, if_neg q0, if_pos q1])
    have q' : ((N : Int) % 10 == 1) = true := by rw [← hr, q1]; rfl
    clear hm hr HS
    go_enter Tryd.func42, Tryd.ntmps42
    go_wp2
    go_ret
    rw [HQ.out]
    exact ⟨rfl, rfl⟩
  have p1 : ((N : Int) % 10 == 1) = false := by rw [← hr]; simpa using q1
  by_cases q2 : r = 2
  · have HQ := Lib.hid (show sfx N = [110, 100] by rw [HS.out, if_neg q0, if_neg q1, if_pos q2])
    have q' : ((N : Int) % 10 == 2) = true := by rw [← hr, q2]; rfl
    clear hm hr HS
    go_enter Tryd.func42, Tryd.ntmps42
    go_wp2
    go_ret
    rw [HQ.out]
    exact ⟨rfl, rfl⟩
  have p2 : ((N : Int) % 10 == 2) = false := by rw [← hr]; simpa using q2
  by_cases q3 : r = 3
  · have HQ := Lib.hid (show sfx N = [114, 100] by rw [HS.out, if_neg q0, if_neg q1, if_neg q2, if_pos q3])
    have q' : ((N : Int) % 10 == 3) = true := by rw [← hr, q3]; rfl
    clear hm hr HS
    go_enter Tryd.func42, Tryd.ntmps42
    go_wp2
    go_ret
    rw [HQ.out]
    exact ⟨rfl, rfl⟩
  have p3 : ((N : Int) % 10 == 3) = false := by rw [← hr]; simpa using q3
  have HQ := Lib.hid (show sfx N = [116, 104] by rw [HS.out, if_neg q0, if_neg q1, if_neg q2, if_neg q3])
  clear hm hr HS
  go_enter Tryd.func42, Tryd.ntmps42
  go_wp2
  go_ret
  rw [HQ.out]
  exact ⟨rfl, rfl⟩
end Go.Proofs.YteahingapnijcaaDoor
