import Derived.Test.YtblabbeaaajlkaaL1
import Derived.OpenShut
namespace Go.Proofs.Ytblabbeaaajlkaa
open Go.RowKit
open U

theorem off_in (P : List Nat) (u : Int) (h : 0 ≤ u ∧ u ≤ P.length) {s : ByteArray} (hS : Str s P []) (hu : u ≤ 9223372036854775807) (w : World) : Calls Try.prog 27 #[.string s, .int .i64 u] w fun e w' => e = .returned (.tuple #[.int .i64 (off P u.toNat : Nat), .int .i64 0]) ∧ w = w' := by
  refine (offset_ok hS u hu w).mono ?_
  rintro e w' ⟨⟨_, _, h1⟩ | ⟨h1, _⟩, h2⟩
  · exact ⟨h1, h2⟩
  · exact absurd h h1
theorem off_out (P : List Nat) (u : Int) (h : ¬ (0 ≤ u ∧ u ≤ P.length)) {s : ByteArray} (hS : Str s P []) (hu : u ≤ 9223372036854775807) (w : World) : Calls Try.prog 27 #[.string s, .int .i64 u] w fun e w' => e = .returned (.tuple #[.int .i64 0, .int .i64 2]) ∧ w = w' := by
  refine (offset_ok hS u hu w).mono ?_
  rintro e w' ⟨⟨h3, h4, _⟩ | ⟨_, h1⟩, h2⟩
  · exact absurd ⟨h3, h4⟩ h
  · exact ⟨h1, h2⟩
theorem off_inj (P : List Nat) (j k : Nat) (hj : j ≤ P.length) (hk : k ≤ P.length) (h : off P j = off P k) : j = k := by
  rcases Nat.lt_trichotomy j k with q | q | q
  · have := off_lt P j k q hk; omega
  · exact q
  · have := off_lt P k j q hj; omega
theorem unit_hit {s : ByteArray} {P : List Nat} (hS : Str s P []) (k : Nat) (hk : k ≤ P.length) (w : World) : Calls Try.prog 28 #[.string s, .int .i64 (off P k : Nat)] w fun e w' => e = .returned (.tuple #[.int .i64 (k : Nat), .int .i64 0]) ∧ w = w' := by
  refine (unit_ok hS _ w).mono ?_
  rintro e w' ⟨⟨j, hj, he, h1⟩ | ⟨h1, _⟩, h2⟩
  · have : j = k := off_inj P j k hj hk (by omega)
    subst this
    exact ⟨h1, h2⟩
  · exact absurd rfl (h1 k hk)
theorem unit_miss {s : ByteArray} {P : List Nat} (hS : Str s P []) (o : Int) (h : ∀ k : Nat, k ≤ P.length → o ≠ (off P k : Nat)) (w : World) : Calls Try.prog 28 #[.string s, .int .i64 o] w fun e w' => e = .returned (.tuple #[.int .i64 0, .int .i64 2]) ∧ w = w' := by
  refine (unit_ok hS _ w).mono ?_
  rintro e w' ⟨⟨j, hj, he, h1⟩ | ⟨_, h1⟩, h2⟩
  · exact absurd he (h j hj)
  · exact ⟨h1, h2⟩

theorem IntsCap.pre {w : World} {v : Value} {P : List Nat} (h : IntsCap w v P) : ∃ A cap, v = .slice A P.length cap ∧ P.length ≤ cap ∧ cap ≤ 9223372036854775807 ∧ ∀ x, Below w.heap.size w x → ∀ i, i ≤ P.length → SliceAt x (.slice A i cap) (asInts (P.take i)) := by
  rcases h with ⟨rfl, hv⟩ | ⟨g, cap, hv, h1, h2, hg, hc⟩
  · exact ⟨none, 0, hv, Nat.le_refl _, by decide, fun x _ i hi => by
      obtain rfl : i = 0 := by simpa using hi
      exact .inl ⟨rfl, _, _, rfl⟩⟩
  · exact ⟨_, cap, hv, h1, h2, fun x hx i hi => prefix_at (Nat.lt_of_lt_of_le hg hx.size) (fun j h => (hx.cell (p := ⟨g, j, none⟩) hg).trans (hc j h)) i hi⟩
set_option maxRecDepth 100000 in
set_option maxHeartbeats 4000000 in
theorem offsets_no (s : ByteArray) (u o : Int) (hs : s.size ≤ maxLen) (P : List Nat) (bad : List UInt8) (hS : Str (cutS s) P bad) (hb : bad ≠ []) (w : World) :
    Calls Try.prog 7 #[.string s, .int .i64 u, .int .i64 o] w (TrueRet w) := by
  have HC := Lib.hid (fun w => cut_any s hs w)
  clear hs
  generalize cutS s = c at *
  have hf : fstI P bad = ((U.bytes P).length : Nat) := if_neg hb
  have HF := Lib.hid (fun w => refFirst_any hS w)
  rw [hf] at HF
  clear hf
  go_enter Try.func7, Try.ntmps7
  go_wp2_with (first | (go_at_call 12; refine (HC.out _).mono ?_; rintro e w' ⟨rfl, rfl⟩) | (go_at_call 13; refine (known_any _).mono ?_; rintro e w1 ⟨rfl, hb1⟩) | (go_at_call 27; refine (offset_no hS hb u _).mono ?_; rintro e w' ⟨rfl, rfl⟩) | (go_at_call 28; refine (unit_no hS hb o _).mono ?_; rintro e w' ⟨rfl, rfl⟩) | (go_at_call 17; refine (HF.out _).mono ?_; rintro e w2 ⟨rfl, hb2⟩))
  go_ret
  exact ⟨rfl, chain hb1 hb2⟩

set_option maxRecDepth 100000 in
set_option maxHeartbeats 8000000 in
theorem offsets_ih (s : ByteArray) (u o : Int) (hu : u ≤ 9223372036854775807) (hs : s.size ≤ maxLen) (P : List Nat) (hS : Str (cutS s) P []) (n : Nat) (hn : n ≤ P.length) (hun : u = (n : Int)) (m : Nat) (hm : m ≤ P.length) (hom : o = (off P m : Nat)) (w : World) :
    Calls Try.prog 7 #[.string s, .int .i64 u, .int .i64 o] w (TrueRet w) := by
  have hz := cutS_size s
  have HC := Lib.hid (fun w => cut_any s hs w)
  clear hs
  generalize cutS s = c at *
  have hPl : P.length ≤ 300 := by have := hS.size; have := (bytes_len P).1; omega
  have hf : fstI P [] = -1 := rfl
  have HF := Lib.hid (fun w => refFirst_any hS w)
  rw [hf] at HF
  clear hf
  subst hun
  have HO := Lib.hid (fun w => off_in P (n : Int) ⟨by omega, by omega⟩ hS hu w)
  rw [show ((n : Int)).toNat = n by omega] at HO
  have HU := Lib.hid (fun w => unit_hit hS n hn w)
  have hon : off P n ≤ 1000000 := by have := off_le P n; have := hS.size; have := hS.small; omega
  subst hom
  have HV := Lib.hid (fun w => unit_hit hS m hm w)
  go_enter Try.func7, Try.ntmps7
  go_wp2_with fail
  refine (HC.out _).mono ?_
  rintro e w' ⟨rfl, rfl⟩
  go_wp2_with fail
  refine (HO.out _).mono ?_
  rintro e w' ⟨rfl, rfl⟩
  go_wp2_with fail
  refine (HV.out _).mono ?_
  rintro e w' ⟨rfl, rfl⟩
  go_wp2_with fail
  refine (known_any _).mono ?_
  rintro e w1 ⟨rfl, hb1⟩
  go_wp2_with fail
  refine (HF.out _).mono ?_
  rintro e w2 ⟨rfl, hb2⟩
  go_wp2_with fail
  refine (refPoints_cap hS _).mono ?_
  rintro e w3 ⟨v3, rfl, hI3, hb3⟩
  have hb := chain (chain hb1 hb2) hb3
  clear hb1 hb2 hb3
  obtain ⟨A, cap, rfl, hlc, hcap, hpre⟩ := hI3.pre
  have HPRE := Lib.hid hpre
  clear hpre hI3
  obtain ⟨X, hX, hXc⟩ := make_prefix hS.pts (by omega) n
  have HX := Lib.hid hX
  have e1 : ((off P n : Nat) : Int) = ((X.size : Nat) : Int) := by rw [hX]
  have E1 := Lib.hid e1
  clear hX e1
  go_wp2_with fail
  refine (HU.out _).mono ?_
  rintro e w' ⟨rfl, rfl⟩
  rw [E1.out]
  go_wp2_with fail
  refine (hXc _ _ (HPRE.out _ (Below.refl _ _) n hn)).mono ?_
  rintro e w4 ⟨rfl, hb4⟩
  have HW := Lib.hid (chain hb hb4)
  have HP4 := Lib.hid (fun x (hx : Below w4.heap.size w4 x) => HPRE.out x (chain hb4 hx))
  clear hb hb4
  go_wp2_with fail
  go_loopw [6, 14] (fun _ i wr => ∃ k : Nat, k ≤ m ∧ i = .int .i64 (k : Nat) ∧ Below w4.heap.size w4 wr) (fun _ i _ => P.length + 1 - (intOf i).toNat)
  case atStart => exact ⟨0, Nat.zero_le _, rfl, Below.refl _ _⟩
  case round =>
    obtain ⟨k, hk, rfl, hbw⟩ := hrel
    obtain ⟨Y, hY, hYc⟩ := make_prefix hS.pts (by omega) k
    have HY := Lib.hid hY
    have hwr := hbw.size
    have hkP : k ≤ P.length := by omega
    by_cases hkm : k = m
    · have e2 : (((Y.size : Nat) : Int) == ((off P m : Nat) : Int)) = true := by rw [beq_iff_eq, hY, hkm]
      have e3 : ((m : Int) == (k : Int)) = true := by rw [beq_iff_eq, hkm]
      have e4 : (k : Int) = (m : Int) := by rw [hkm]
      have HK := Lib.hid e4
      clear e4
      clear hkm hY
      go_wp2_with fail
      refine (hYc _ _ (HP4.out _ hbw k hkP)).mono ?_
      rintro e w5 ⟨rfl, hb5⟩
      go_wp2
      go_ret
      exact ⟨ret_bool (by first | rfl | simp), chain HW.out (chain hbw hb5)⟩
    · have e2 : (((Y.size : Nat) : Int) == ((off P m : Nat) : Int)) = false := by
        rw [beq_eq_false_iff_ne]
        intro q
        exact hkm (off_inj P k m hkP hm (by omega))
      clear hY
      go_wp2_with fail
      refine (hYc _ _ (HP4.out _ hbw k hkP)).mono ?_
      rintro e w5 ⟨rfl, hb5⟩
      go_wp2
      go_roundw
      case rel => exact ⟨k + 1, by omega, by go_num, chain hbw hb5⟩
      case measure => simp [intOf]; omega

set_option maxRecDepth 100000 in
set_option maxHeartbeats 8000000 in
theorem offsets_im (s : ByteArray) (u o : Int) (hu : u ≤ 9223372036854775807) (hs : s.size ≤ maxLen) (P : List Nat) (hS : Str (cutS s) P []) (n : Nat) (hn : n ≤ P.length) (hun : u = (n : Int)) (hom : ∀ k : Nat, k ≤ P.length → o ≠ (off P k : Nat)) (w : World) :
    Calls Try.prog 7 #[.string s, .int .i64 u, .int .i64 o] w (TrueRet w) := by
  have hz := cutS_size s
  have HC := Lib.hid (fun w => cut_any s hs w)
  clear hs
  generalize cutS s = c at *
  have hPl : P.length ≤ 300 := by have := hS.size; have := (bytes_len P).1; omega
  have hf : fstI P [] = -1 := rfl
  have HF := Lib.hid (fun w => refFirst_any hS w)
  rw [hf] at HF
  clear hf
  subst hun
  have HO := Lib.hid (fun w => off_in P (n : Int) ⟨by omega, by omega⟩ hS hu w)
  rw [show ((n : Int)).toNat = n by omega] at HO
  have HU := Lib.hid (fun w => unit_hit hS n hn w)
  have hon : off P n ≤ 1000000 := by have := off_le P n; have := hS.size; have := hS.small; omega
  have HV := Lib.hid (fun w => unit_miss hS o hom w)
  have HOM := Lib.hid hom
  clear hom
  go_enter Try.func7, Try.ntmps7
  go_wp2_with fail
  refine (HC.out _).mono ?_
  rintro e w' ⟨rfl, rfl⟩
  go_wp2_with fail
  refine (HO.out _).mono ?_
  rintro e w' ⟨rfl, rfl⟩
  go_wp2_with fail
  refine (HV.out _).mono ?_
  rintro e w' ⟨rfl, rfl⟩
  go_wp2_with fail
  refine (known_any _).mono ?_
  rintro e w1 ⟨rfl, hb1⟩
  go_wp2_with fail
  refine (HF.out _).mono ?_
  rintro e w2 ⟨rfl, hb2⟩
  go_wp2_with fail
  refine (refPoints_cap hS _).mono ?_
  rintro e w3 ⟨v3, rfl, hI3, hb3⟩
  have hb := chain (chain hb1 hb2) hb3
  clear hb1 hb2 hb3
  obtain ⟨A, cap, rfl, hlc, hcap, hpre⟩ := hI3.pre
  have HPRE := Lib.hid hpre
  clear hpre hI3
  obtain ⟨X, hX, hXc⟩ := make_prefix hS.pts (by omega) n
  have HX := Lib.hid hX
  have e1 : ((off P n : Nat) : Int) = ((X.size : Nat) : Int) := by rw [hX]
  have E1 := Lib.hid e1
  clear hX e1
  go_wp2_with fail
  refine (HU.out _).mono ?_
  rintro e w' ⟨rfl, rfl⟩
  rw [E1.out]
  go_wp2_with fail
  refine (hXc _ _ (HPRE.out _ (Below.refl _ _) n hn)).mono ?_
  rintro e w4 ⟨rfl, hb4⟩
  have HW := Lib.hid (chain hb hb4)
  have HP4 := Lib.hid (fun x (hx : Below w4.heap.size w4 x) => HPRE.out x (chain hb4 hx))
  clear hb hb4
  go_wp2_with fail
  go_loopw [6, 14] (fun _ i wr => ∃ k : Nat, k ≤ P.length + 1 ∧ i = .int .i64 (k : Nat) ∧ Below w4.heap.size w4 wr) (fun _ i _ => P.length + 1 - (intOf i).toNat)
  case atStart => exact ⟨0, Nat.zero_le _, rfl, Below.refl _ _⟩
  case round =>
    obtain ⟨k, hk, rfl, hbw⟩ := hrel
    by_cases hkP : k ≤ P.length
    · obtain ⟨Y, hY, hYc⟩ := make_prefix hS.pts (by omega) k
      have hwr := hbw.size
      have e2 : (((Y.size : Nat) : Int) == o) = false := by
        rw [beq_eq_false_iff_ne]
        intro q
        exact HOM.out k hkP (by rw [← q, hY])
      clear hY
      go_wp2_with fail
      refine (hYc _ _ (HP4.out _ hbw k hkP)).mono ?_
      rintro e w5 ⟨rfl, hb5⟩
      go_wp2
      go_roundw
      case rel => exact ⟨k + 1, by omega, by go_num, chain hbw hb5⟩
      case measure => simp [intOf]; omega
    · go_wp2
      go_ret
      exact ⟨rfl, chain HW.out hbw⟩

set_option maxRecDepth 100000 in
set_option maxHeartbeats 8000000 in
theorem offsets_oh (s : ByteArray) (u o : Int) (hu : u ≤ 9223372036854775807) (hs : s.size ≤ maxLen) (P : List Nat) (hS : Str (cutS s) P []) (hun : ¬ (0 ≤ u ∧ u ≤ (P.length : Int))) (m : Nat) (hm : m ≤ P.length) (hom : o = (off P m : Nat)) (w : World) :
    Calls Try.prog 7 #[.string s, .int .i64 u, .int .i64 o] w (TrueRet w) := by
  have hz := cutS_size s
  have HC := Lib.hid (fun w => cut_any s hs w)
  clear hs
  generalize cutS s = c at *
  have hPl : P.length ≤ 300 := by have := hS.size; have := (bytes_len P).1; omega
  have hf : fstI P [] = -1 := rfl
  have HF := Lib.hid (fun w => refFirst_any hS w)
  rw [hf] at HF
  clear hf
  have HO := Lib.hid (fun w => off_out P u hun hS hu w)
  have hun' : u < 0 ∨ (P.length : Int) < u := by omega
  clear hun
  subst hom
  have HV := Lib.hid (fun w => unit_hit hS m hm w)
  go_enter Try.func7, Try.ntmps7
  go_wp2_with fail
  refine (HC.out _).mono ?_
  rintro e w' ⟨rfl, rfl⟩
  go_wp2_with fail
  refine (HO.out _).mono ?_
  rintro e w' ⟨rfl, rfl⟩
  go_wp2_with fail
  refine (HV.out _).mono ?_
  rintro e w' ⟨rfl, rfl⟩
  go_wp2_with fail
  refine (known_any _).mono ?_
  rintro e w1 ⟨rfl, hb1⟩
  go_wp2_with fail
  refine (HF.out _).mono ?_
  rintro e w2 ⟨rfl, hb2⟩
  go_wp2_with fail
  refine (refPoints_cap hS _).mono ?_
  rintro e w3 ⟨v3, rfl, hI3, hb3⟩
  have hb := chain (chain hb1 hb2) hb3
  clear hb1 hb2 hb3
  obtain ⟨A, cap, rfl, hlc, hcap, hpre⟩ := hI3.pre
  have HPRE := Lib.hid hpre
  clear hpre hI3
  have HW := Lib.hid hb
  have HP4 := HPRE
  clear hb
  rcases hun' with hun' | hun'
  all_goals
    go_wp2_with fail
    go_loopw [6, 14] (fun _ i wr => ∃ k : Nat, k ≤ m ∧ i = .int .i64 (k : Nat) ∧ Below w3.heap.size w3 wr) (fun _ i _ => P.length + 1 - (intOf i).toNat)
    case atStart => exact ⟨0, Nat.zero_le _, rfl, Below.refl _ _⟩
    case round =>
      obtain ⟨k, hk, rfl, hbw⟩ := hrel
      obtain ⟨Y, hY, hYc⟩ := make_prefix hS.pts (by omega) k
      have HY := Lib.hid hY
      have hwr := hbw.size
      have hkP : k ≤ P.length := by omega
      by_cases hkm : k = m
      · have e2 : (((Y.size : Nat) : Int) == ((off P m : Nat) : Int)) = true := by rw [beq_iff_eq, hY, hkm]
        have e3 : ((m : Int) == (k : Int)) = true := by rw [beq_iff_eq, hkm]
        have e4 : (k : Int) = (m : Int) := by rw [hkm]
        have HK := Lib.hid e4
        clear e4
        clear hkm hY
        go_wp2_with fail
        refine (hYc _ _ (HP4.out _ hbw k hkP)).mono ?_
        rintro e w5 ⟨rfl, hb5⟩
        go_wp2
        go_ret
        exact ⟨ret_bool (by first | rfl | simp), chain HW.out (chain hbw hb5)⟩
      · have e2 : (((Y.size : Nat) : Int) == ((off P m : Nat) : Int)) = false := by
          rw [beq_eq_false_iff_ne]
          intro q
          exact hkm (off_inj P k m hkP hm (by omega))
        clear hY
        go_wp2_with fail
        refine (hYc _ _ (HP4.out _ hbw k hkP)).mono ?_
        rintro e w5 ⟨rfl, hb5⟩
        go_wp2
        go_roundw
        case rel => exact ⟨k + 1, by omega, by go_num, chain hbw hb5⟩
        case measure => simp [intOf]; omega

set_option maxRecDepth 100000 in
set_option maxHeartbeats 8000000 in
theorem offsets_om (s : ByteArray) (u o : Int) (hu : u ≤ 9223372036854775807) (hs : s.size ≤ maxLen) (P : List Nat) (hS : Str (cutS s) P []) (hun : ¬ (0 ≤ u ∧ u ≤ (P.length : Int))) (hom : ∀ k : Nat, k ≤ P.length → o ≠ (off P k : Nat)) (w : World) :
    Calls Try.prog 7 #[.string s, .int .i64 u, .int .i64 o] w (TrueRet w) := by
  have hz := cutS_size s
  have HC := Lib.hid (fun w => cut_any s hs w)
  clear hs
  generalize cutS s = c at *
  have hPl : P.length ≤ 300 := by have := hS.size; have := (bytes_len P).1; omega
  have hf : fstI P [] = -1 := rfl
  have HF := Lib.hid (fun w => refFirst_any hS w)
  rw [hf] at HF
  clear hf
  have HO := Lib.hid (fun w => off_out P u hun hS hu w)
  have hun' : u < 0 ∨ (P.length : Int) < u := by omega
  clear hun
  have HV := Lib.hid (fun w => unit_miss hS o hom w)
  have HOM := Lib.hid hom
  clear hom
  go_enter Try.func7, Try.ntmps7
  go_wp2_with fail
  refine (HC.out _).mono ?_
  rintro e w' ⟨rfl, rfl⟩
  go_wp2_with fail
  refine (HO.out _).mono ?_
  rintro e w' ⟨rfl, rfl⟩
  go_wp2_with fail
  refine (HV.out _).mono ?_
  rintro e w' ⟨rfl, rfl⟩
  go_wp2_with fail
  refine (known_any _).mono ?_
  rintro e w1 ⟨rfl, hb1⟩
  go_wp2_with fail
  refine (HF.out _).mono ?_
  rintro e w2 ⟨rfl, hb2⟩
  go_wp2_with fail
  refine (refPoints_cap hS _).mono ?_
  rintro e w3 ⟨v3, rfl, hI3, hb3⟩
  have hb := chain (chain hb1 hb2) hb3
  clear hb1 hb2 hb3
  obtain ⟨A, cap, rfl, hlc, hcap, hpre⟩ := hI3.pre
  have HPRE := Lib.hid hpre
  clear hpre hI3
  have HW := Lib.hid hb
  have HP4 := HPRE
  clear hb
  rcases hun' with hun' | hun'
  all_goals
    go_wp2_with fail
    go_loopw [6, 14] (fun _ i wr => ∃ k : Nat, k ≤ P.length + 1 ∧ i = .int .i64 (k : Nat) ∧ Below w3.heap.size w3 wr) (fun _ i _ => P.length + 1 - (intOf i).toNat)
    case atStart => exact ⟨0, Nat.zero_le _, rfl, Below.refl _ _⟩
    case round =>
      obtain ⟨k, hk, rfl, hbw⟩ := hrel
      by_cases hkP : k ≤ P.length
      · obtain ⟨Y, hY, hYc⟩ := make_prefix hS.pts (by omega) k
        have hwr := hbw.size
        have e2 : (((Y.size : Nat) : Int) == o) = false := by
          rw [beq_eq_false_iff_ne]
          intro q
          exact HOM.out k hkP (by rw [← q, hY])
        clear hY
        go_wp2_with fail
        refine (hYc _ _ (HP4.out _ hbw k hkP)).mono ?_
        rintro e w5 ⟨rfl, hb5⟩
        go_wp2
        go_roundw
        case rel => exact ⟨k + 1, by omega, by go_num, chain hbw hb5⟩
        case measure => simp [intOf]; omega
      · go_wp2
        go_ret
        exact ⟨rfl, chain HW.out hbw⟩

theorem law_offsets (s : ByteArray) (u o : Int) (hs : s.size ≤ maxLen) (hu : (Lit.int .i64 u).wf = true) (w : World) :
    Calls Try.prog 7 #[.string s, .int .i64 u, .int .i64 o] w (TrueRet w) := by
  have hub := (bounds_i64 hu).2
  obtain ⟨P, bad, hS⟩ := Str.ex (cutS s) (cutS_small s)
  by_cases hb : bad = []
  · subst hb
    by_cases h1 : 0 ≤ u ∧ u ≤ (P.length : Int)
    · by_cases h2 : ∃ k : Nat, k ≤ P.length ∧ o = (off P k : Nat)
      · obtain ⟨m, hm, hom⟩ := h2
        exact offsets_ih s u o hub hs P hS u.toNat (by omega) (by omega) m hm hom w
      · exact offsets_im s u o hub hs P hS u.toNat (by omega) (by omega) (fun k hk e => h2 ⟨k, hk, e⟩) w
    · by_cases h2 : ∃ k : Nat, k ≤ P.length ∧ o = (off P k : Nat)
      · obtain ⟨m, hm, hom⟩ := h2
        exact offsets_oh s u o hub hs P hS h1 m hm hom w
      · exact offsets_om s u o hub hs P hS h1 (fun k hk e => h2 ⟨k, hk, e⟩) w
  · exact offsets_no s u o hs P bad hS hb w
end Go.Proofs.Ytblabbeaaajlkaa
