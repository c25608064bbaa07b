/- Layer 9: the reference's value. -/
import Derived.Test.YteahingapnijcaaDoorC5
import Derived.Test.YteahingapnijcaaDoorC3
namespace Go.Proofs.YteahingapnijcaaDoor
open Go.RowKit Go.Lib Go.Shelf Nu9

theorem rsum_drop (l : List UInt8) (k : Nat) (h : k < l.length) (F : Nat) : rsum (F + 1) (l.drop k) = (if h2 : k + 1 < l.length then (if rval l[k + 1] > rval l[k] then - rval l[k] else rval l[k]) else rval l[k]) + rsum F (l.drop (k + 1)) := by
  rw [List.drop_eq_getElem_cons h]
  by_cases h2 : k + 1 < l.length
  · rw [List.drop_eq_getElem_cons h2, dif_pos h2]
    rfl
  · rw [List.drop_eq_nil_of_le (by omega), dif_neg h2]
    cases F <;> simp [rsum]
theorem rsum_zero (l : List UInt8) : rsum 0 l = 0 := by cases l <;> rfl
theorem rsum_nil (F : Nat) : rsum F [] = 0 := by cases F <;> rfl
section
variable {s : ByteArray} {k : Nat} {R z : Int} (h : k < s.size) (h20 : k < 20) (HD : R = z + rsum (20 - k) (s.data.toList.drop k))
  include h20 HD
theorem rs_gt (h1 : k + 1 < s.size) (hgt : rvalN (s[k]'h).toNat < rvalN (s[k + 1]'h1).toNat) : R = (z + - rvalN (s[k]'h).toNat) + rsum (20 - (k + 1)) (s.data.toList.drop (k + 1)) := by
  rw [HD, show 20 - k = (20 - (k + 1)) + 1 by omega, rsum_drop _ k (by simpa using h), dif_pos (by simpa using h1)]
  rw [rvalN_of, rvalN_of] at hgt
  rw [if_pos (show rval (s.data.toList[k + 1]'(by simpa using h1)) > rval (s.data.toList[k]'(by simpa using h)) from hgt), rvalN_of, Int.add_assoc]; rfl
theorem rs_le (h1 : k + 1 < s.size) (hgt : ¬ rvalN (s[k]'h).toNat < rvalN (s[k + 1]'h1).toNat) : R = (z + rvalN (s[k]'h).toNat) + rsum (20 - (k + 1)) (s.data.toList.drop (k + 1)) := by
  rw [HD, show 20 - k = (20 - (k + 1)) + 1 by omega, rsum_drop _ k (by simpa using h), dif_pos (by simpa using h1)]
  rw [rvalN_of, rvalN_of] at hgt
  rw [if_neg (show ¬ rval (s.data.toList[k + 1]'(by simpa using h1)) > rval (s.data.toList[k]'(by simpa using h)) from hgt), rvalN_of, Int.add_assoc]; rfl
theorem rs_last (h1 : ¬ k + 1 < s.size) : R = (z + rvalN (s[k]'h).toNat) + rsum (20 - (k + 1)) (s.data.toList.drop (k + 1)) := by
  rw [HD, show 20 - k = (20 - (k + 1)) + 1 by omega, rsum_drop _ k (by simpa using h), dif_neg (by simpa using h1), rvalN_of, Int.add_assoc]; rfl
end
theorem rs_end {s : ByteArray} {k : Nat} {R z : Int} (h : ¬ (k < s.size ∧ k < 20)) (hk : k ≤ 20) (HD : R = z + rsum (20 - k) (s.data.toList.drop k)) : R = z := by
  by_cases h1 : k < s.size
  · rw [HD, show 20 - k = 0 by omega, rsum_zero, Int.add_zero]
  · rw [HD, List.drop_eq_nil_of_le (by simpa using h1), rsum_nil, Int.add_zero]
set_option maxRecDepth 100000 in
set_option maxHeartbeats 8000000 in
theorem value_rom4 (s : ByteArray) (w : World) : Calls Tryd.prog 31 #[.int .i64 4, .string s] w fun e w' => e = .returned (.int .i64 (rsum 20 s.data.toList)) ∧ w = w' := by
  obtain ⟨R, hR⟩ : ∃ R, rsum 20 s.data.toList = R := ⟨_, rfl⟩
  rw [hR]
  have HR := Lib.hid hR
  clear hR
  go_enter Tryd.func31, Tryd.ntmps31
  go_wp2
  go_loop [5, 6, 7] (fun n i _ => ∃ (k : Nat) (z : Int), k ≤ s.size ∧ k ≤ 20 ∧ i = .int .i64 (k : Nat) ∧ n = .int .i64 z ∧ -1000 * (k : Int) ≤ z ∧ z ≤ 1000 * (k : Int) ∧ Hid (R = z + rsum (20 - k) (s.data.toList.drop k))) (fun _ i _ => 20 - (intOf i).toNat)
  case atStart => exact ⟨0, 0, Nat.zero_le _, by omega, rfl, rfl, by omega, by omega, Lib.hid (by rw [← HR.out]; simp)⟩
  case round =>
    obtain ⟨k, z, hk, hk20, rfl, rfl, hz1, hz2, HD⟩ := hrel
    by_cases hlt : k < s.size
    · by_cases h20 : k < 20
      · have h8 := (s[k]'hlt).toNat_lt
        have cL := fun w' => letter_any (s[k]'hlt).toNat h8 w'
        have hb := rvalN_bd (s[k]'hlt).toNat h8
        unfold LetR at cL
        by_cases h1 : k + 1 < s.size
        · have h18 := (s[k + 1]'h1).toNat_lt
          have cM := fun w' => letter_any (s[k + 1]'h1).toNat h18 w'
          unfold LetR at cM
          by_cases hgt : rvalN (s[k]'hlt).toNat < rvalN (s[k + 1]'h1).toNat
          · have HX := Lib.hid (rs_gt hlt h20 HD.out h1 hgt)
            clear HD HR
            generalize rvalN (s[k]'hlt).toNat = a at cL hb hgt HX
            generalize rvalN (s[k + 1]'h1).toNat = b at cM hgt
            go_wp2_with (first | (go_at_call 51; (with_reducible refine (cL _).mono ?_); rintro e w' ⟨rfl, rfl⟩) | (go_at_call 51; (with_reducible refine (cM _).mono ?_); rintro e w' ⟨rfl, rfl⟩))
            go_round
            case rel => exact ⟨k + 1, z + -a, by omega, by omega, by go_num, rfl, by omega, by omega, HX⟩
            case measure => simp [intOf]; omega
          · have HX := Lib.hid (rs_le hlt h20 HD.out h1 hgt)
            clear HD HR
            generalize rvalN (s[k]'hlt).toNat = a at cL hb hgt HX
            generalize rvalN (s[k + 1]'h1).toNat = b at cM hgt
            go_wp2_with (first | (go_at_call 51; (with_reducible refine (cL _).mono ?_); rintro e w' ⟨rfl, rfl⟩) | (go_at_call 51; (with_reducible refine (cM _).mono ?_); rintro e w' ⟨rfl, rfl⟩))
            go_round
            case rel => exact ⟨k + 1, z + a, by omega, by omega, by go_num, rfl, by omega, by omega, HX⟩
            case measure => simp [intOf]; omega
        · have HX := Lib.hid (rs_last hlt h20 HD.out h1)
          clear HD HR
          generalize rvalN (s[k]'hlt).toNat = a at cL hb HX
          go_wp2_with (go_at_call 51; (with_reducible refine (cL _).mono ?_); rintro e w' ⟨rfl, rfl⟩)
          go_round
          case rel => exact ⟨k + 1, z + a, by omega, by omega, by go_num, rfl, by omega, by omega, HX⟩
          case measure => simp [intOf]; omega
      · have HE := Lib.hid (rs_end (by omega) hk20 HD.out)
        clear HD HR
        go_wp2
        go_ret
        rw [HE.out]
        exact ⟨rfl, rfl⟩
    · have HE := Lib.hid (rs_end (by omega) hk20 HD.out)
      clear HD HR
      go_wp2
      go_ret
      rw [HE.out]
      exact ⟨rfl, rfl⟩
set_option maxRecDepth 100000 in
set_option maxHeartbeats 8000000 in
theorem value_rom5 (s : ByteArray) (w : World) : Calls Tryd.prog 31 #[.int .i64 5, .string s] w fun e w' => e = .returned (.int .i64 (rsum 20 s.data.toList)) ∧ w = w' := by
  obtain ⟨R, hR⟩ : ∃ R, rsum 20 s.data.toList = R := ⟨_, rfl⟩
  rw [hR]
  have HR := Lib.hid hR
  clear hR
  go_enter Tryd.func31, Tryd.ntmps31
  go_wp2
  go_loop [5, 6, 7] (fun n i _ => ∃ (k : Nat) (z : Int), k ≤ s.size ∧ k ≤ 20 ∧ i = .int .i64 (k : Nat) ∧ n = .int .i64 z ∧ -1000 * (k : Int) ≤ z ∧ z ≤ 1000 * (k : Int) ∧ Hid (R = z + rsum (20 - k) (s.data.toList.drop k))) (fun _ i _ => 20 - (intOf i).toNat)
  case atStart => exact ⟨0, 0, Nat.zero_le _, by omega, rfl, rfl, by omega, by omega, Lib.hid (by rw [← HR.out]; simp)⟩
  case round =>
    obtain ⟨k, z, hk, hk20, rfl, rfl, hz1, hz2, HD⟩ := hrel
    by_cases hlt : k < s.size
    · by_cases h20 : k < 20
      · have h8 := (s[k]'hlt).toNat_lt
        have cL := fun w' => letter_any (s[k]'hlt).toNat h8 w'
        have hb := rvalN_bd (s[k]'hlt).toNat h8
        unfold LetR at cL
        by_cases h1 : k + 1 < s.size
        · have h18 := (s[k + 1]'h1).toNat_lt
          have cM := fun w' => letter_any (s[k + 1]'h1).toNat h18 w'
          unfold LetR at cM
          by_cases hgt : rvalN (s[k]'hlt).toNat < rvalN (s[k + 1]'h1).toNat
          · have HX := Lib.hid (rs_gt hlt h20 HD.out h1 hgt)
            clear HD HR
            generalize rvalN (s[k]'hlt).toNat = a at cL hb hgt HX
            generalize rvalN (s[k + 1]'h1).toNat = b at cM hgt
            go_wp2_with (first | (go_at_call 51; (with_reducible refine (cL _).mono ?_); rintro e w' ⟨rfl, rfl⟩) | (go_at_call 51; (with_reducible refine (cM _).mono ?_); rintro e w' ⟨rfl, rfl⟩))
            go_round
            case rel => exact ⟨k + 1, z + -a, by omega, by omega, by go_num, rfl, by omega, by omega, HX⟩
            case measure => simp [intOf]; omega
          · have HX := Lib.hid (rs_le hlt h20 HD.out h1 hgt)
            clear HD HR
            generalize rvalN (s[k]'hlt).toNat = a at cL hb hgt HX
            generalize rvalN (s[k + 1]'h1).toNat = b at cM hgt
            go_wp2_with (first | (go_at_call 51; (with_reducible refine (cL _).mono ?_); rintro e w' ⟨rfl, rfl⟩) | (go_at_call 51; (with_reducible refine (cM _).mono ?_); rintro e w' ⟨rfl, rfl⟩))
            go_round
            case rel => exact ⟨k + 1, z + a, by omega, by omega, by go_num, rfl, by omega, by omega, HX⟩
            case measure => simp [intOf]; omega
        · have HX := Lib.hid (rs_last hlt h20 HD.out h1)
          clear HD HR
          generalize rvalN (s[k]'hlt).toNat = a at cL hb HX
          go_wp2_with (go_at_call 51; (with_reducible refine (cL _).mono ?_); rintro e w' ⟨rfl, rfl⟩)
          go_round
          case rel => exact ⟨k + 1, z + a, by omega, by omega, by go_num, rfl, by omega, by omega, HX⟩
          case measure => simp [intOf]; omega
      · have HE := Lib.hid (rs_end (by omega) hk20 HD.out)
        clear HD HR
        go_wp2
        go_ret
        rw [HE.out]
        exact ⟨rfl, rfl⟩
    · have HE := Lib.hid (rs_end (by omega) hk20 HD.out)
      clear HD HR
      go_wp2
      go_ret
      rw [HE.out]
      exact ⟨rfl, rfl⟩
/-- What capital letters denote. -/
def unLTR (l : List UInt8) : Int := l.foldl (fun z c => z * 26 + (c.toNat : Int) - 65 + 1) 0
theorem unLTR_snoc (l : List UInt8) (c : UInt8) : unLTR (l ++ [c]) = unLTR l * 26 + (c.toNat : Int) - 65 + 1 := by unfold unLTR; rw [List.foldl_append]; rfl
def caps (l : List UInt8) : Prop := ∀ c ∈ l, 65 ≤ c.toNat ∧ c.toNat ≤ 90
def goodC (l : List UInt8) (k : Nat) : Prop := k ≤ 6 ∧ caps (l.take k)
theorem goodC_prev {l : List UInt8} {k : Nat} (h : goodC l (k + 1)) : goodC l k := ⟨by have := h.1; omega, fun c hc => h.2 c (List.take_subset_take_left l (Nat.le_succ k) hc)⟩
theorem unLTR_bd (l : List UInt8) (h : caps l) (k : Nat) (hk : l.length ≤ k) : 0 ≤ unLTR l ∧ unLTR l < 27 ^ k := by
  induction k generalizing l with
  | zero => have : l = [] := List.eq_nil_of_length_eq_zero (by omega); subst this; decide
  | succ k ih =>
    rcases List.eq_nil_or_concat l with rfl | ⟨t, c, rfl⟩
    · have := Int.pow_pos (n := 27) (m := k + 1) (by decide); exact ⟨by decide, by simpa [unLTR] using this⟩
    · rw [List.concat_eq_append] at h hk ⊢
      have h1 := ih t (fun c hc => h c (by simp [hc])) (by simp at hk; omega)
      have h2 := h c (by simp)
      rw [unLTR_snoc, Int.pow_succ]
      omega
theorem unLTR_up (l : List UInt8) (h : ltrs l) : unLTR (l.map up) = unltr l := by
  have : ∀ (l : List UInt8) (z : Int), ltrs l → (l.map up).foldl (fun z c => z * 26 + (c.toNat : Int) - 65 + 1) z = l.foldl (fun z c => z * 26 + (c.toNat : Int) - 97 + 1) z := by
    intro l
    induction l with
    | nil => intro z _; rfl
    | cons c t ih =>
      intro z h
      have hc := h c (by simp)
      rw [List.map_cons, List.foldl_cons, List.foldl_cons, ih _ (fun c hc => h c (by simp [hc]))]
      have := up_yes hc.1 hc.2
      congr 1
      omega
  exact this l 0 h
theorem up_caps {l : List UInt8} (h : ltrs l) : caps (l.map up) := by
  intro b hb
  obtain ⟨c, hc, rfl⟩ := List.mem_map.1 hb
  have h1 := h c hc
  have := up_yes h1.1 h1.2
  omega
set_option maxRecDepth 100000 in
set_option maxHeartbeats 4000000 in
theorem value_let2 (s : ByteArray) (hs : s.size ≤ 1000000) (w : World) : Calls Tryd.prog 31 #[.int .i64 2, .string s] w (NumR (goodL s.data.toList s.size) (unltr s.data.toList) w) := by
  have HL := Lib.hid (show s.data.toList.length = s.size by simp)
  go_enter Tryd.func31, Tryd.ntmps31
  go_wp2
  go_loop [5, 8] (fun n i => ∃ (k : Nat) (z : Int), k ≤ s.size ∧ k ≤ 6 ∧ i = .int .i64 (k : Nat) ∧ n = .int .i64 z ∧ Hid (goodL s.data.toList k → z = unltr (s.data.toList.take k))) (fun _ i => s.size - (intOf i).toNat)
  case atStart => exact ⟨0, 0, Nat.zero_le _, by omega, rfl, rfl, Lib.hid fun _ => rfl⟩
  case round =>
    obtain ⟨k, z, hk, hk6, rfl, rfl, HZ⟩ := hrel
    by_cases hlt : k < s.size
    · by_cases h6 : k < 6
      · have h8 := (s[k]'hlt).toNat_lt
        have hkl : k < s.data.toList.length := by rw [HL.out]; exact hlt
        by_cases hg : goodL s.data.toList (k + 1)
        · have h1 := HZ.out (goodL_prev hg)
          have h2 := unltr_bd _ (goodL_prev hg).2 6 (by rw [List.length_take]; have := hg.1; omega)
          have HN := Lib.hid (show unltr (s.data.toList.take (k + 1)) = z * 26 + ((s[k]'hlt).toNat : Int) - 97 + 1 by rw [take_snoc' _ k hkl, unltr_snoc, h1]; rfl)
          have b1 : 0 ≤ z := by rw [h1]; exact h2.1
          have b2 : z < 387420489 := by rw [h1]; exact h2.2
          clear h1 h2 hg HZ hkl
          go_wp2
          go_round
          case rel => exact ⟨k + 1, _, by omega, by omega, by go_num, rfl, Lib.hid fun _ => by rw [HN.out]⟩
          case measure => simp [intOf]; omega
        · have HG := Lib.hid hg
          clear hg HZ hkl
          go_wp2
          go_round
          case rel => exact ⟨k + 1, _, by omega, by omega, by go_num, rfl, Lib.hid fun h => absurd h HG.out⟩
          case measure => simp [intOf]; omega
      · have HE := Lib.hid (show goodL s.data.toList s.size → z = unltr s.data.toList from fun h => absurd h.1 (by omega))
        clear HZ
        go_wp2
        go_ret
        exact ⟨z, rfl, HE.out, rfl⟩
    · obtain rfl : k = s.size := by omega
      have HE := Lib.hid (show goodL s.data.toList s.size → z = unltr s.data.toList by have := HZ.out; rw [List.take_of_length_le (by simp)] at this; exact this)
      clear HZ
      go_wp2
      go_ret
      exact ⟨z, rfl, HE.out, rfl⟩
set_option maxRecDepth 100000 in
set_option maxHeartbeats 4000000 in
theorem value_let3 (s : ByteArray) (hs : s.size ≤ 1000000) (w : World) : Calls Tryd.prog 31 #[.int .i64 3, .string s] w (NumR (goodC s.data.toList s.size) (unLTR s.data.toList) w) := by
  have HL := Lib.hid (show s.data.toList.length = s.size by simp)
  go_enter Tryd.func31, Tryd.ntmps31
  go_wp2
  go_loop [5, 9] (fun n i => ∃ (k : Nat) (z : Int), k ≤ s.size ∧ k ≤ 6 ∧ i = .int .i64 (k : Nat) ∧ n = .int .i64 z ∧ Hid (goodC s.data.toList k → z = unLTR (s.data.toList.take k))) (fun _ i => s.size - (intOf i).toNat)
  case atStart => exact ⟨0, 0, Nat.zero_le _, by omega, rfl, rfl, Lib.hid fun _ => rfl⟩
  case round =>
    obtain ⟨k, z, hk, hk6, rfl, rfl, HZ⟩ := hrel
    by_cases hlt : k < s.size
    · by_cases h6 : k < 6
      · have h8 := (s[k]'hlt).toNat_lt
        have hkl : k < s.data.toList.length := by rw [HL.out]; exact hlt
        by_cases hg : goodC s.data.toList (k + 1)
        · have h1 := HZ.out (goodC_prev hg)
          have h2 := unLTR_bd _ (goodC_prev hg).2 6 (by rw [List.length_take]; have := hg.1; omega)
          have HN := Lib.hid (show unLTR (s.data.toList.take (k + 1)) = z * 26 + ((s[k]'hlt).toNat : Int) - 65 + 1 by rw [take_snoc' _ k hkl, unLTR_snoc, h1]; rfl)
          have b1 : 0 ≤ z := by rw [h1]; exact h2.1
          have b2 : z < 387420489 := by rw [h1]; exact h2.2
          clear h1 h2 hg HZ hkl
          go_wp2
          go_round
          case rel => exact ⟨k + 1, _, by omega, by omega, by go_num, rfl, Lib.hid fun _ => by rw [HN.out]⟩
          case measure => simp [intOf]; omega
        · have HG := Lib.hid hg
          clear hg HZ hkl
          go_wp2
          go_round
          case rel => exact ⟨k + 1, _, by omega, by omega, by go_num, rfl, Lib.hid fun h => absurd h HG.out⟩
          case measure => simp [intOf]; omega
      · have HE := Lib.hid (show goodC s.data.toList s.size → z = unLTR s.data.toList from fun h => absurd h.1 (by omega))
        clear HZ
        go_wp2
        go_ret
        exact ⟨z, rfl, HE.out, rfl⟩
    · obtain rfl : k = s.size := by omega
      have HE := Lib.hid (show goodC s.data.toList s.size → z = unLTR s.data.toList by have := HZ.out; rw [List.take_of_length_le (by simp)] at this; exact this)
      clear HZ
      go_wp2
      go_ret
      exact ⟨z, rfl, HE.out, rfl⟩
end Go.Proofs.YteahingapnijcaaDoor
