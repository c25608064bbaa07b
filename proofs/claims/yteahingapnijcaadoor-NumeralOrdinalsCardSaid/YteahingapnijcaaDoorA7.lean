/- Layer 9: fromDecimal, fromLetters, fromRoman. -/
import Derived.Test.YteahingapnijcaaDoorA6
namespace Go.Proofs.YteahingapnijcaaDoor
open Go.RowKit Go.Lib Go.Shelf Nu9

/-- A number, which is f's where the string is good. -/
def NumR (good : Prop) (v : Int) (w : World) (e : Ending) (w' : World) : Prop := ∃ z : Int, e = .returned (.int .i64 z) ∧ (good → z = v) ∧ w = w'
theorem take_snoc' (l : List UInt8) (k : Nat) (h : k < l.length) : l.take (k + 1) = l.take k ++ [l[k]] := by
  rw [List.take_succ_eq_append_getElem h]
theorem undec_bd (l : List UInt8) (h : digs l) (k : Nat) (hk : l.length ≤ k) : 0 ≤ undec l ∧ undec l < 10 ^ k := by
  induction k generalizing l with
  | zero => have : l = [] := List.eq_nil_of_length_eq_zero (by omega); subst this; decide
  | succ k ih =>
    rcases List.eq_nil_or_concat l with rfl | ⟨t, c, rfl⟩
    · have := Int.pow_pos (n := 10) (m := k + 1) (by decide); exact ⟨by decide, by simpa [undec] using this⟩
    · rw [List.concat_eq_append] at h hk ⊢
      have h1 := ih t (fun c hc => h c (by simp [hc])) (by simp at hk; omega)
      have h2 := h c (by simp)
      rw [undec_snoc, Int.pow_succ]
      omega
theorem unltr_bd (l : List UInt8) (h : ltrs l) (k : Nat) (hk : l.length ≤ k) : 0 ≤ unltr l ∧ unltr l < 27 ^ k := by
  induction k generalizing l with
  | zero => have : l = [] := List.eq_nil_of_length_eq_zero (by omega); subst this; decide
  | succ k ih =>
    rcases List.eq_nil_or_concat l with rfl | ⟨t, c, rfl⟩
    · have := Int.pow_pos (n := 27) (m := k + 1) (by decide); exact ⟨by decide, by simpa [unltr] using this⟩
    · rw [List.concat_eq_append] at h hk ⊢
      have h1 := ih t (fun c hc => h c (by simp [hc])) (by simp at hk; omega)
      have h2 := h c (by simp)
      rw [unltr_snoc, Int.pow_succ]
      omega
def goodD (l : List UInt8) (k : Nat) : Prop := k ≤ 6 ∧ digs (l.take k)
def goodL (l : List UInt8) (k : Nat) : Prop := k ≤ 6 ∧ ltrs (l.take k)
theorem goodD_prev {l : List UInt8} {k : Nat} (h : goodD l (k + 1)) : goodD l k := ⟨by have := h.1; omega, fun c hc => h.2 c (List.take_subset_take_left l (Nat.le_succ k) hc)⟩
theorem goodL_prev {l : List UInt8} {k : Nat} (h : goodL l (k + 1)) : goodL l k := ⟨by have := h.1; omega, fun c hc => h.2 c (List.take_subset_take_left l (Nat.le_succ k) hc)⟩
set_option maxRecDepth 100000 in
set_option maxHeartbeats 4000000 in
theorem fromdec_any (s : ByteArray) (hs : s.size ≤ 1000000) (w : World) : Calls Tryd.prog 44 #[.string s] w (NumR (goodD s.data.toList s.size) (undec s.data.toList) w) := by
  have HL := Lib.hid (show s.data.toList.length = s.size by simp)
  go_enter Tryd.func44, Tryd.ntmps44
  go_wp2
  go_loop [3, 4, 7] (fun n _ i => ∃ (k : Nat) (z : Int), k ≤ s.size ∧ i = .int .i64 (k : Nat) ∧ n = .int .i64 z ∧ Hid (goodD s.data.toList k → z = undec (s.data.toList.take k))) (fun _ _ i => s.size - (intOf i).toNat)
  case atStart => exact ⟨0, 0, Nat.zero_le _, rfl, rfl, Lib.hid fun _ => rfl⟩
  case round =>
    obtain ⟨k, z, hk, rfl, rfl, HZ⟩ := hrel
    by_cases hlt : k < s.size
    · have h8 := s[k].toNat_lt
      have hkl : k < s.data.toList.length := by rw [HL.out]; exact hlt
      have hge : s.data.toList[k] = s[k]'hlt := rfl
      by_cases hg : goodD s.data.toList (k + 1)
      · have h1 := HZ.out (goodD_prev hg)
        have h2 := undec_bd _ (goodD_prev hg).2 6 (by rw [List.length_take]; have := hg.1; omega)
        have HN := Lib.hid (show undec (s.data.toList.take (k + 1)) = z * 10 + ((s[k]'hlt).toNat : Int) - 48 by rw [take_snoc' _ k hkl, undec_snoc, h1, hge])
        have b1 : 0 ≤ z := by rw [h1]; exact h2.1
        have b2 : z < 1000000 := by rw [h1]; exact h2.2
        clear h1 h2 hg HZ hge hkl
        go_wp2
        go_round
        case rel => exact ⟨k + 1, _, by omega, by go_num, rfl, Lib.hid fun _ => by rw [HN.out]⟩
        case measure => simp [intOf]; omega
      · have HG := Lib.hid hg
        clear hg HZ hge hkl
        go_wp2
        go_round
        case rel => exact ⟨k + 1, _, by omega, by go_num, rfl, Lib.hid fun h => absurd h HG.out⟩
        case measure => simp [intOf]; omega
    · obtain rfl : k = s.size := by omega
      have HE := Lib.hid (show goodD s.data.toList s.size → z = undec s.data.toList by have := HZ.out; rw [List.take_of_length_le (by simp)] at this; exact this)
      clear HZ
      go_wp2
      go_ret
      exact ⟨z, rfl, HE.out, rfl⟩
set_option maxRecDepth 100000 in
set_option maxHeartbeats 4000000 in
theorem fromltr_any (s : ByteArray) (hs : s.size ≤ 1000000) (w : World) : Calls Tryd.prog 45 #[.string s] w (NumR (goodL s.data.toList s.size) (unltr s.data.toList) w) := by
  have HL := Lib.hid (show s.data.toList.length = s.size by simp)
  go_enter Tryd.func45, Tryd.ntmps45
  go_wp2
  go_loop [3, 4, 7] (fun n _ i => ∃ (k : Nat) (z : Int), k ≤ s.size ∧ i = .int .i64 (k : Nat) ∧ n = .int .i64 z ∧ Hid (goodL s.data.toList k → z = unltr (s.data.toList.take k))) (fun _ _ i => s.size - (intOf i).toNat)
  case atStart => exact ⟨0, 0, Nat.zero_le _, rfl, rfl, Lib.hid fun _ => rfl⟩
  case round =>
    obtain ⟨k, z, hk, rfl, rfl, HZ⟩ := hrel
    by_cases hlt : k < s.size
    · have h8 := s[k].toNat_lt
      have hkl : k < s.data.toList.length := by rw [HL.out]; exact hlt
      have hge : s.data.toList[k] = s[k]'hlt := rfl
      by_cases hg : goodL s.data.toList (k + 1)
      · have h1 := HZ.out (goodL_prev hg)
        have h2 := unltr_bd _ (goodL_prev hg).2 6 (by rw [List.length_take]; have := hg.1; omega)
        have HN := Lib.hid (show unltr (s.data.toList.take (k + 1)) = z * 26 + ((s[k]'hlt).toNat : Int) - 97 + 1 by rw [take_snoc' _ k hkl, unltr_snoc, h1, hge])
        have b1 : 0 ≤ z := by rw [h1]; exact h2.1
        have b2 : z < 387420489 := by rw [h1]; exact h2.2
        clear h1 h2 hg HZ hge hkl
        go_wp2
        go_round
        case rel => exact ⟨k + 1, _, by omega, by go_num, rfl, Lib.hid fun _ => by rw [HN.out]⟩
        case measure => simp [intOf]; omega
      · have HG := Lib.hid hg
        clear hg HZ hge hkl
        go_wp2
        go_round
        case rel => exact ⟨k + 1, _, by omega, by go_num, rfl, Lib.hid fun h => absurd h HG.out⟩
        case measure => simp [intOf]; omega
    · obtain rfl : k = s.size := by omega
      have HE := Lib.hid (show goodL s.data.toList s.size → z = unltr s.data.toList by have := HZ.out; rw [List.take_of_length_le (by simp)] at this; exact this)
      clear HZ
      go_wp2
      go_ret
      exact ⟨z, rfl, HE.out, rfl⟩
end Go.Proofs.YteahingapnijcaaDoor
