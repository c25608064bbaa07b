/- Layer 9: the reference's value for digits; its Parse. -/
import Derived.Test.YteahingapnijcaaDoorC6
import Derived.Test.YteahingapnijcaaDoorC4
namespace Go.Proofs.YteahingapnijcaaDoor
open Go.RowKit Go.Lib Go.Shelf Nu9

def isDig (c : UInt8) : Prop := 48 ≤ c.toNat ∧ c.toNat ≤ 57
/-- Digits, and something else behind them. -/
def DigT (l D t : List UInt8) : Prop := l = D ++ t ∧ digs D ∧ D.length ≤ 6 ∧ (∀ c t', t = c :: t' → ¬ isDig c)
theorem dig_exit {l D t : List UInt8} (h : DigT l D t) {k : Nat} (hk : k ≤ l.length) (hd : digs (l.take k)) (he : k < l.length → k < 7 → ∀ h : k < l.length, ¬ isDig l[k]) : l.take k = D := by
  obtain ⟨rfl, h1, h2, h3⟩ := h
  rcases Nat.lt_trichotomy k D.length with h4 | h4 | h4
  · exfalso
    have hl : k < (D ++ t).length := by simp; omega
    refine he hl (by omega) hl ?_
    rw [List.getElem_append_left h4]
    exact h1 _ (List.getElem_mem h4)
  · rw [h4, List.take_left]
  · exfalso
    cases t with
    | nil => simp at hk; omega
    | cons c t' =>
      refine h3 c t' rfl ?_
      refine hd c ?_
      rw [List.take_append]
      refine List.mem_append_right _ ?_
      rw [show k - D.length = (k - D.length - 1) + 1 by omega, List.take_succ_cons]
      exact List.mem_cons_self
def DigR (l : List UInt8) (w : World) (e : Ending) (w' : World) : Prop := ∃ z : Int, e = .returned (.int .i64 z) ∧ (∀ D t, DigT l D t → z = undec D) ∧ w = w'
theorem digs_snoc {l : List UInt8} {k : Nat} (h : digs (l.take k)) (hk : k < l.length) (hc : isDig l[k]) : digs (l.take (k + 1)) := by
  rw [take_snoc' l k hk]
  intro c hc'
  rw [List.mem_append, List.mem_singleton] at hc'
  rcases hc' with hc' | rfl
  · exact h c hc'
  · exact hc
set_option maxRecDepth 100000 in
set_option maxHeartbeats 4000000 in
theorem value_dig1 (s : ByteArray) (w : World) : Calls Tryd.prog 31 #[.int .i64 1, .string s] w (DigR s.data.toList w) := by
  have HL := Lib.hid (show s.data.toList.length = s.size by simp)
  go_enter Tryd.func31, Tryd.ntmps31
  go_wp2
  go_loop [5, 10] (fun n i => ∃ (k : Nat) (z : Int), k ≤ s.size ∧ k ≤ 7 ∧ i = .int .i64 (k : Nat) ∧ n = .int .i64 z ∧ Hid (digs (s.data.toList.take k)) ∧ Hid (z = undec (s.data.toList.take k))) (fun _ i => s.size - (intOf i).toNat)
  case atStart => exact ⟨0, 0, Nat.zero_le _, by omega, rfl, rfl, Lib.hid (fun c hc => by simp at hc), Lib.hid rfl⟩
  case round =>
    obtain ⟨k, z, hk, hk7, rfl, rfl, HD, HZ⟩ := hrel
    by_cases hlt : k < s.size
    · have hkl : k < s.data.toList.length := by rw [HL.out]; exact hlt
      by_cases h7 : k < 7
      · have h8 := (s[k]'hlt).toNat_lt
        by_cases hd : 48 ≤ (s[k]'hlt).toNat ∧ (s[k]'hlt).toNat ≤ 57
        · have h2 := undec_bd _ HD.out 6 (by rw [List.length_take]; omega)
          have HN := Lib.hid (show undec (s.data.toList.take (k + 1)) = z * 10 + ((s[k]'hlt).toNat : Int) - 48 by rw [take_snoc' _ k hkl, undec_snoc, HZ.out]; rfl)
          have HG := Lib.hid (digs_snoc HD.out hkl hd)
          have b1 : 0 ≤ z := by rw [HZ.out]; exact h2.1
          have b2 : z < 1000000 := by rw [HZ.out]; exact h2.2
          obtain ⟨d1, d2⟩ := hd
          clear h2 HZ HD hkl
          go_wp2
          go_round
          case rel => exact ⟨k + 1, _, by omega, by omega, by go_num, rfl, HG, Lib.hid (by rw [HN.out])⟩
          case measure => simp [intOf]; omega
        · have HE := Lib.hid (show ∀ D t, DigT s.data.toList D t → z = undec D from fun D t h => by rw [HZ.out, dig_exit h (by omega) HD.out (fun _ _ _ hc => hd hc)])
          clear HZ HD hkl
          by_cases d1 : 48 ≤ (s[k]'hlt).toNat
          · have d2 : 57 < (s[k]'hlt).toNat := by omega
            clear hd
            go_wp2
            go_ret
            exact ⟨z, rfl, HE.out, rfl⟩
          · clear hd
            go_wp2
            go_ret
            exact ⟨z, rfl, HE.out, rfl⟩
      · have HE := Lib.hid (show ∀ D t, DigT s.data.toList D t → z = undec D from fun D t h => by rw [HZ.out, dig_exit h (by omega) HD.out (fun _ h7' => absurd h7' h7)])
        clear HZ HD hkl
        go_wp2
        go_ret
        exact ⟨z, rfl, HE.out, rfl⟩
    · obtain rfl : k = s.size := by omega
      have HE := Lib.hid (show ∀ D t, DigT s.data.toList D t → z = undec D from fun D t h => by rw [HZ.out, dig_exit h (by rw [HL.out]; exact Nat.le_refl _) HD.out (fun h7' => absurd h7' (by rw [HL.out]; omega))])
      clear HZ HD
      go_wp2
      go_ret
      exact ⟨z, rfl, HE.out, rfl⟩
set_option maxRecDepth 100000 in
set_option maxHeartbeats 4000000 in
theorem value_dig6 (s : ByteArray) (w : World) : Calls Tryd.prog 31 #[.int .i64 6, .string s] w (DigR s.data.toList w) := by
  have HL := Lib.hid (show s.data.toList.length = s.size by simp)
  go_enter Tryd.func31, Tryd.ntmps31
  go_wp2
  go_loop [5, 10] (fun n i => ∃ (k : Nat) (z : Int), k ≤ s.size ∧ k ≤ 7 ∧ i = .int .i64 (k : Nat) ∧ n = .int .i64 z ∧ Hid (digs (s.data.toList.take k)) ∧ Hid (z = undec (s.data.toList.take k))) (fun _ i => s.size - (intOf i).toNat)
  case atStart => exact ⟨0, 0, Nat.zero_le _, by omega, rfl, rfl, Lib.hid (fun c hc => by simp at hc), Lib.hid rfl⟩
  case round =>
    obtain ⟨k, z, hk, hk7, rfl, rfl, HD, HZ⟩ := hrel
    by_cases hlt : k < s.size
    · have hkl : k < s.data.toList.length := by rw [HL.out]; exact hlt
      by_cases h7 : k < 7
      · have h8 := (s[k]'hlt).toNat_lt
        by_cases hd : 48 ≤ (s[k]'hlt).toNat ∧ (s[k]'hlt).toNat ≤ 57
        · have h2 := undec_bd _ HD.out 6 (by rw [List.length_take]; omega)
          have HN := Lib.hid (show undec (s.data.toList.take (k + 1)) = z * 10 + ((s[k]'hlt).toNat : Int) - 48 by rw [take_snoc' _ k hkl, undec_snoc, HZ.out]; rfl)
          have HG := Lib.hid (digs_snoc HD.out hkl hd)
          have b1 : 0 ≤ z := by rw [HZ.out]; exact h2.1
          have b2 : z < 1000000 := by rw [HZ.out]; exact h2.2
          obtain ⟨d1, d2⟩ := hd
          clear h2 HZ HD hkl
          go_wp2
          go_round
          case rel => exact ⟨k + 1, _, by omega, by omega, by go_num, rfl, HG, Lib.hid (by rw [HN.out])⟩
          case measure => simp [intOf]; omega
        · have HE := Lib.hid (show ∀ D t, DigT s.data.toList D t → z = undec D from fun D t h => by rw [HZ.out, dig_exit h (by omega) HD.out (fun _ _ _ hc => hd hc)])
          clear HZ HD hkl
          by_cases d1 : 48 ≤ (s[k]'hlt).toNat
          · have d2 : 57 < (s[k]'hlt).toNat := by omega
            clear hd
            go_wp2
            go_ret
            exact ⟨z, rfl, HE.out, rfl⟩
          · clear hd
            go_wp2
            go_ret
            exact ⟨z, rfl, HE.out, rfl⟩
      · have HE := Lib.hid (show ∀ D t, DigT s.data.toList D t → z = undec D from fun D t h => by rw [HZ.out, dig_exit h (by omega) HD.out (fun _ h7' => absurd h7' h7)])
        clear HZ HD hkl
        go_wp2
        go_ret
        exact ⟨z, rfl, HE.out, rfl⟩
    · obtain rfl : k = s.size := by omega
      have HE := Lib.hid (show ∀ D t, DigT s.data.toList D t → z = undec D from fun D t h => by rw [HZ.out, dig_exit h (by rw [HL.out]; exact Nat.le_refl _) HD.out (fun h7' => absurd h7' (by rw [HL.out]; omega))])
      clear HZ HD
      go_wp2
      go_ret
      exact ⟨z, rfl, HE.out, rfl⟩
/-- What the reference reads is the number, where the string is a numeral. -/
def ValR (f : Int) (l : List UInt8) (w : World) (e : Ending) (w' : World) : Prop := ∃ z : Int, e = .returned (.int .i64 z) ∧ (∀ N, isNum f l N → z = N) ∧ w = w'
theorem sfx_head (n : Nat) : ∀ c t', sfx n = c :: t' → ¬ isDig c := by
  intro c t' h
  unfold sfx at h
  repeat' split at h
  all_goals
    injection h with h _
    subst h
    unfold isDig
    decide
theorem val1 (l : List UInt8) (_ : l.length ≤ 40) (w : World) : Calls Tryd.prog 31 #[.int .i64 1, .string (bs l)] w (ValR 1 l w) := by
  refine (value_dig1 (bs l) w).mono ?_
  rintro e w' ⟨z, rfl, hz, rfl⟩
  refine ⟨z, rfl, fun N hN => ?_, rfl⟩
  rw [bs_list] at hz
  have hh := num1 hN
  rw [hz l [] ⟨by simp, by have := hh.1.2; rwa [List.take_length] at this, hh.1.1, fun c t' h => by cases h⟩]
  exact hh.2
theorem val6 (l : List UInt8) (_ : l.length ≤ 40) (w : World) : Calls Tryd.prog 31 #[.int .i64 6, .string (bs l)] w (ValR 6 l w) := by
  refine (value_dig6 (bs l) w).mono ?_
  rintro e w' ⟨z, rfl, hz, rfl⟩
  refine ⟨z, rfl, fun N hN => ?_, rfl⟩
  rw [bs_list] at hz
  obtain ⟨n, rfl, _, h2, hn⟩ := isNum_open hN
  rw [show most 6 = 999999 from rfl] at h2
  rw [hz (dec n) (sfx n) ⟨hn.symm, dec_digs n, dec_len 5 n (by omega), sfx_head n⟩, undec_dec]
theorem val2 (l : List UInt8) (hl : l.length ≤ 40) (w : World) : Calls Tryd.prog 31 #[.int .i64 2, .string (bs l)] w (ValR 2 l w) := by
  refine (value_let2 (bs l) (by rw [bs_size]; omega) w).mono ?_
  rintro e w' ⟨z, rfl, hz, rfl⟩
  refine ⟨z, rfl, fun N hN => ?_, rfl⟩
  rw [bs_list, bs_size] at hz
  rw [hz (num2 hN).1]; exact (num2 hN).2
theorem val3 (l : List UInt8) (hl : l.length ≤ 40) (w : World) : Calls Tryd.prog 31 #[.int .i64 3, .string (bs l)] w (ValR 3 l w) := by
  refine (value_let3 (bs l) (by rw [bs_size]; omega) w).mono ?_
  rintro e w' ⟨z, rfl, hz, rfl⟩
  refine ⟨z, rfl, fun N hN => ?_, rfl⟩
  rw [bs_list, bs_size] at hz
  obtain ⟨n, rfl, _, h2, rfl⟩ := isNum_open hN
  rw [show most 3 = 999999 from rfl] at h2
  have hln := ltr_len 5 n (by omega)
  rw [show num 3 n = (ltr n).map up from rfl] at hz
  rw [hz ⟨by rw [List.length_map]; exact hln, by rw [List.take_length]; exact up_caps (ltr_ltrs n)⟩, unLTR_up _ (ltr_ltrs n), unltr_ltr]
theorem val4 (l : List UInt8) (_ : l.length ≤ 40) (w : World) : Calls Tryd.prog 31 #[.int .i64 4, .string (bs l)] w (ValR 4 l w) := by
  refine (value_rom4 (bs l) w).mono ?_
  rintro e w' ⟨rfl, rfl⟩
  refine ⟨_, rfl, fun N hN => ?_, rfl⟩
  obtain ⟨n, rfl, _, h2, rfl⟩ := isNum_open hN
  rw [show most 4 = 3999 from rfl] at h2
  rw [bs_list]
  exact rsum_rmn n (by omega)
theorem val5 (l : List UInt8) (_ : l.length ≤ 40) (w : World) : Calls Tryd.prog 31 #[.int .i64 5, .string (bs l)] w (ValR 5 l w) := by
  refine (value_rom5 (bs l) w).mono ?_
  rintro e w' ⟨rfl, rfl⟩
  refine ⟨_, rfl, fun N hN => ?_, rfl⟩
  obtain ⟨n, rfl, _, h2, rfl⟩ := isNum_open hN
  rw [show most 5 = 3999 from rfl] at h2
  rw [bs_list]
  exact rsum_up n (by omega)
theorem val_any (f : Int) (hf : 1 ≤ f ∧ f ≤ 6) (l : List UInt8) (hl : l.length ≤ 40) (w : World) : Calls Tryd.prog 31 #[.int .i64 f, .string (bs l)] w (ValR f l w) := by
  rcases (show f = 1 ∨ f = 2 ∨ f = 3 ∨ f = 4 ∨ f = 5 ∨ f = 6 by omega) with rfl | rfl | rfl | rfl | rfl | rfl
  · exact val1 l hl w
  · exact val2 l hl w
  · exact val3 l hl w
  · exact val4 l hl w
  · exact val5 l hl w
  · exact val6 l hl w
set_option maxRecDepth 100000 in
set_option maxHeartbeats 1000000 in
theorem rparse_no (f : Int) (l : List UInt8) (h : ¬ (1 ≤ f ∧ f ≤ 6)) (w : World) : Calls Tryd.prog 19 #[.int .i64 f, .string (bs l)] w (ParR f l w) := by
  have HP := Lib.hid (prs_kind l h)
  by_cases h7 : f = 7
  · subst h7
    clear h
    have cR : ∀ w', Calls Tryd.prog 13 #[.int .i64 7] w' (fun e w'' => e = .returned (.tuple #[.int .i64 1, .int .i64 999999, .bool true]) ∧ w' = w'') := fun w' => rrange_7 w'
    go_enter Tryd.func19, Tryd.ntmps19
    go_wp2_with (go_at_call 13; (with_reducible refine (cR _).mono ?_); rintro e w' ⟨rfl, rfl⟩)
    go_ret2
    unfold ParR
    rw [HP.out]
    exact ⟨rfl, Below.refl _ _⟩
  · have cR := fun w' => rrange_any f w'
    unfold RRngR at cR
    rw [rrng_no (fun q : 1 ≤ f ∧ f ≤ 7 => h ⟨q.1, by omega⟩)] at cR
    clear h h7
    go_enter Tryd.func19, Tryd.ntmps19
    go_wp2_with (go_at_call 13; (with_reducible refine (cR _).mono ?_); rintro e w' ⟨rfl, rfl⟩)
    go_ret2
    unfold ParR
    rw [HP.out]
    exact ⟨rfl, Below.refl _ _⟩
set_option maxRecDepth 100000 in
set_option maxHeartbeats 2000000 in
theorem rparse_yes (f : Int) (l : List UInt8) (hf : 1 ≤ f ∧ f ≤ 6) (hl : l.length ≤ 40) (w : World) : Calls Tryd.prog 19 #[.int .i64 f, .string (bs l)] w (ParR f l w) := by
  have cR : ∀ w', Calls Tryd.prog 13 #[.int .i64 f] w' (fun e w'' => e = .returned (.tuple #[.int .i64 (least f), .int .i64 (most f), .bool true]) ∧ w' = w'') := fun w' => by
    have := rrange_any f w'
    unfold RRngR rrngV at this
    rw [decide_eq_true (show Nu9.kindOk f from ⟨hf.1, by omega⟩)] at this
    exact this
  have b7 : (f == 7) = false := neB (by omega)
  generalize least f = a at cR
  generalize most f = b at cR
  by_cases hne : l = []
  · have HP := Lib.hid (show prs f l = (0, 11) by rw [hne]; exact prs_empty hf)
    have hie : (bs l).toList.isEmpty = true := by rw [bs_toList, hne]; rfl
    clear hne hf
    go_enter Tryd.func19, Tryd.ntmps19
    go_wp2_with (go_at_call 13; (with_reducible refine (cR _).mono ?_); rintro e w' ⟨rfl, rfl⟩)
    go_ret2
    unfold ParR
    rw [HP.out]
    exact ⟨rfl, Below.refl _ _⟩
  · have hie : (bs l).toList.isEmpty = false := by rw [bs_toList]; simpa using hne
    have HNE := Lib.hid hne
    have HF := Lib.hid hf
    clear hne hf
    go_enter Tryd.func19, Tryd.ntmps19
    go_wp2_with (go_at_call 13; (with_reducible refine (cR _).mono ?_); rintro e w' ⟨rfl, rfl⟩)
    refine (val_any f HF.out l hl _).mono ?_
    rintro e w2 ⟨z, rfl, hz, rfl⟩
    have HZ := Lib.hid (prs_read (f := f) (l := l) (z := z) HF.out HNE.out hz)
    clear hz cR
    go_wp2_with fail
    refine (rformat_any f z _).mono ?_
    rintro e w3 ⟨rfl, hb3⟩
    generalize fmtE f z = E at HZ ⊢
    generalize fmtS f z = S at HZ ⊢
    have HB := Lib.hid hb3
    by_cases hE : E = 0
    · subst hE
      by_cases hS : S = l
      · have HP := Lib.hid (HZ.out.trans (if_pos ⟨rfl, hS⟩))
        have q : ((bs S).toList == (bs l).toList) = true := by rw [hS]; simp
        have q' : ((bs S).toList != (bs l).toList) = false := by rw [hS]; simp
        clear HZ hS hb3
        go_wp2
        go_ret2
        unfold ParR
        rw [HP.out]
        exact ⟨rfl, HB.out⟩
      · have HP := Lib.hid (HZ.out.trans (if_neg (fun q => hS q.2)))
        have q : ((bs S).toList == (bs l).toList) = false := by rw [bs_toList, bs_toList]; simpa using hS
        have q' : ((bs S).toList != (bs l).toList) = true := by rw [bs_toList, bs_toList]; simpa using hS
        clear HZ hS hb3
        go_wp2
        go_ret2
        unfold ParR
        rw [HP.out]
        exact ⟨rfl, HB.out⟩
    · have HP := Lib.hid (HZ.out.trans (if_neg (fun q => hE q.1)))
      have q : (E == 0) = false := by simpa using hE
      have q' : (E != 0) = true := by simpa using hE
      clear HZ hE hb3
      go_wp2
      go_ret2
      unfold ParR
      rw [HP.out]
      exact ⟨rfl, HB.out⟩
theorem rparse_any (f : Int) (l : List UInt8) (hl : l.length ≤ 40) (w : World) : Calls Tryd.prog 19 #[.int .i64 f, .string (bs l)] w (ParR f l w) := by
  by_cases h : 1 ≤ f ∧ f ≤ 6
  · exact rparse_yes f l h hl w
  · exact rparse_no f l h w
end Go.Proofs.YteahingapnijcaaDoor
