import Derived.Test.YtblabbeaaajlkaaE1
import Derived.Test.YtblabbeaaajlkaaC2
namespace Go.Proofs.Ytblabbeaaajlkaa
open Go.RowKit
open U

theorem encode_str (p : Nat) (h : p ≤ 1114111) (w : World) : Calls Try.prog 40 #[.int .i64 p] w fun e w' => e = .returned (.string ⟨(enc p).toArray⟩) ∧ Below w.heap.size w w' := encode_any p h w
theorem encode_obj (p : Nat) (h : p ≤ 1114111) : ∃ E : ByteArray, E.data.toList = enc p ∧ 1 ≤ E.size ∧ E.size ≤ 4 ∧ ∀ w, Calls Try.prog 40 #[.int .i64 p] w fun e w' => e = .returned (.string E) ∧ Below w.heap.size w w' := by
  refine ⟨⟨(enc p).toArray⟩, rfl, ?_, ?_, fun w => encode_any p h w⟩
  · exact (enc_pos p).1
  · exact (enc_pos p).2
theorem beginning_at (s : ByteArray) (hs : s.size ≤ 1000000) (k : Nat) (w : World) :
    Calls Try.prog 44 #[.string (s.extract k s.size)] w fun e w' => e = .returned (.int .i64 (beg (s.data.toList.drop k) : Nat)) ∧ Below w.heap.size w w' := by
  have h := beginning_any (s.extract k s.size) (by rw [ByteArray.size_extract]; omega) w
  rw [Go.Lib.extract_data, List.take_of_length_le (by rw [List.length_drop]; simp)] at h
  exact h
theorem mk_list (l : List UInt8) : (⟨l.toArray⟩ : ByteArray).data.toList = l := rfl
theorem mk_of (O : ByteArray) (l : List UInt8) (h : O.data.toList = l) : O = ⟨l.toArray⟩ := by subst h; rfl

theorem repAt_size {s X : ByteArray} {k : Nat} (h : RepAt s.data.toList k X.data.toList) (hs : s.size ≤ 1000000) : X.size ≤ 4000000 := by
  have h1 := h.len
  have h2 : X.data.toList.length = X.size := by simp
  have h3 : s.data.toList.length = s.size := by simp
  omega
set_option maxRecDepth 100000 in
set_option maxHeartbeats 2000000 in
theorem refRepair_any (s : ByteArray) (hs : s.size ≤ 1000000) (w : World) :
    Calls Try.prog 32 #[.string s] w (StrRet (U.bytes (repAll s.data.toList)) w) := by
  have HL := Lib.hid (show s.data.toList.length = s.size by simp)
  go_enter Try.func32, Try.ntmps32
  go_wp2
  go_loopw [3, 4] (fun o i wr => ∃ (k : Nat) (O : ByteArray), k ≤ s.size + 3 ∧ O.size ≤ 4000000 ∧ o = .string O ∧ i = .int .i64 (k : Nat) ∧ Below w.heap.size w wr ∧ RepAt s.data.toList k O.data.toList) (fun _ i _ => s.size - (intOf i).toNat)
  case atStart => exact ⟨0, ⟨#[]⟩, Nat.zero_le _, by decide, rfl, rfl, Below.refl _ _, rfl⟩
  case round =>
    obtain ⟨k, O, hk, hO, rfl, rfl, hbw, hacc⟩ := hrel
    have HA := Lib.hid hacc
    clear hacc
    by_cases hlt : k < s.size
    · have hne : s.data.toList.drop k ≠ [] := by rw [scan_head s k hlt]; exact List.cons_ne_nil _ _
      by_cases hd : (dec (s.data.toList.drop k)).2 = 0
      · have hb3 : beg (s.data.toList.drop k) ≤ 3 := by
          obtain ⟨q, z, _, e2, e3, _⟩ := scan_none _ hne hd
          omega
        have HB := Lib.hid (fun w => beginning_at s hs k w)
        have HR := Lib.hid (repAll_bad _ hne hd)
        have HD := Lib.hid (fun w => decode_is s hs k 0 0 (dec_zero _ hd) w)
        clear hne hd
        generalize beg (s.data.toList.drop k) = z at *
        obtain ⟨E, hE, hE1, hE4, hEc⟩ := encode_obj 65533 (by decide)
        have HEc := Lib.hid hEc
        have HE := Lib.hid hE
        clear hE hEc
        go_wp2_with fail
        refine (HD.out _).mono ?_
        rintro e w1 ⟨rfl, hb1⟩
        go_wp2_with fail
        refine (HB.out _).mono ?_
        rintro e w2 ⟨rfl, hb2⟩
        go_wp2_with (go_at_call 40; refine (HEc.out _).mono ?_; rintro e w3 ⟨rfl, hb3⟩)
        go_roundw
        case rel =>
          have hnext : RepAt s.data.toList (k + max 1 z) (O ++ E).data.toList := by
            have := HA.out
            unfold RepAt at this ⊢
            rw [← this, HR.out, append_list, HE.out, bytes_cons, List.append_assoc, List.drop_drop]
          exact ⟨k + max 1 z, O ++ E, by omega, repAt_size hnext hs, rfl, by congr 1; omega, chain (chain (chain hbw hb1) hb2) hb3, hnext⟩
        case measure => simp [intOf]; omega
      · have hrep := repAll_ok _ hne hd
        obtain ⟨p1, p2, p3⟩ := dec_some _ (dec (s.data.toList.drop k)).1 (dec (s.data.toList.drop k)).2 rfl hd
        have hp4 := enc_pos (dec (s.data.toList.drop k)).1
        have hle : (dec (s.data.toList.drop k)).2 ≤ (s.data.toList.drop k).length := by
          have := congrArg List.length p2
          rw [List.length_append] at this; omega
        rw [List.length_drop, HL.out] at hle
        generalize hdr : dec (s.data.toList.drop k) = r at *
        obtain ⟨p, n⟩ := r
        simp only at hrep p1 p2 p3 hp4 hle hd
        have HD := Lib.hid (fun w => decode_is s hs k p n hdr w)
        have HR := Lib.hid hrep
        obtain ⟨E, hE, hE1, hE4, hEc⟩ := encode_obj p p1.1
        have HEc := Lib.hid hEc
        have HE := Lib.hid hE
        have hn1 : 1 ≤ n := by omega
        have hn4 : n ≤ 4 := by omega
        have k0 : ((n : Int) == 0) = false := by rw [beq_eq_false_iff_ne]; omega
        clear hE hEc hne hd hrep p1 p2 p3 hp4 hdr
        go_wp2_with fail
        refine (HD.out _).mono ?_
        rintro e w1 ⟨rfl, hb1⟩
        go_wp2_with (go_at_call 40; refine (HEc.out _).mono ?_; rintro e w3 ⟨rfl, hb3⟩)
        go_roundw
        case rel =>
          have hnext : RepAt s.data.toList (k + n) (O ++ E).data.toList := by
            have := HA.out
            unfold RepAt at this ⊢
            rw [← this, HR.out, append_list, HE.out, bytes_cons, List.append_assoc, List.drop_drop]
          exact ⟨k + n, O ++ E, by omega, repAt_size hnext hs, rfl, by congr 1, chain (chain hbw hb1) hb3, hnext⟩
        case measure => simp [intOf]; omega
    · have hfin : O = ⟨(U.bytes (repAll s.data.toList)).toArray⟩ := by
        refine mk_of _ _ ?_
        have := HA.out
        unfold RepAt at this
        rw [List.drop_eq_nil_of_le (by rw [HL.out]; omega), repAll_nil, bytes_nil, List.append_nil] at this
        exact this
      have HF := Lib.hid hfin
      clear hfin
      go_wp2
      go_ret
      exact ⟨by rw [← HF.out]; rfl, hbw⟩

/-- Where a string is cut, bytewise. -/
theorem rep_first {s : ByteArray} {P : List Nat} {bad : List UInt8} (h : Str s P bad) : (U.bytes (repAll s.data.toList)).take (off P P.length) = s.data.toList.take (off P P.length) ∧ off P P.length ≤ (U.bytes (repAll s.data.toList)).length := by
  have e : U.bytes (repAll s.data.toList) = U.bytes P ++ U.bytes (repAll bad) := by rw [h.eq, repAll_bytes P bad h.pts, bytes_append]
  have e2 := off_end P
  refine ⟨?_, ?_⟩
  · rw [e, h.eq, e2, List.take_left, List.take_left]
  · rw [e, e2, List.length_append]; omega
theorem rep_str (s : ByteArray) (hs : s.size ≤ 300) : Str ⟨(U.bytes (repAll s.data.toList)).toArray⟩ (repAll s.data.toList) [] := by
  have h := repAll_pts s.data.toList.length s.data.toList (Nat.le_refl _)
  have h2 := (bytes_len (repAll s.data.toList)).2
  have h3 : s.data.toList.length = s.size := by simp
  refine ⟨by simp, h.1, rfl, ?_⟩
  show (U.bytes (repAll s.data.toList)).toArray.size ≤ _
  simp; omega

theorem repair_obj (s : ByteArray) (hs : s.size ≤ 300) : ∃ X : ByteArray, X.data.toList = U.bytes (repAll s.data.toList) ∧ X.size ≤ 4000000 ∧ (∀ w, Calls Try.prog 31 #[.string s] w fun e w' => e = .returned (.string X) ∧ Below w.heap.size w w') ∧ (∀ w, Calls Try.prog 32 #[.string s] w fun e w' => e = .returned (.string X) ∧ Below w.heap.size w w') ∧ Str X (repAll s.data.toList) [] := by
  refine ⟨⟨(U.bytes (repAll s.data.toList)).toArray⟩, rfl, ?_, fun w => repair_any s (by omega) w, fun w => refRepair_any s (by omega) w, rep_str s hs⟩
  have := (rep_str s hs).small
  omega
theorem list_size (s : ByteArray) : s.data.toList.length = s.size := by simp
theorem bytes_eq {a b : ByteArray} (h : a.data.toList = b.data.toList) : a = b := (mk_of a _ h).trans (mk_of b _ rfl).symm

set_option maxRecDepth 100000 in
set_option maxHeartbeats 2000000 in
theorem law_repairs (s : ByteArray) (hs : s.size ≤ maxLen) (w : World) :
    Calls Try.prog 9 #[.string s] w (TrueRet w) := by
  have hz := cutS_size s
  have hsm := cutS_small s
  have HC := Lib.hid (fun w => cut_any s hs w)
  clear hs
  generalize cutS s = c at *
  obtain ⟨P, bad, hS⟩ := Str.ex c hsm
  obtain ⟨X, hX, hXs, h31, h32, hXv⟩ := repair_obj c hz
  have H31 := Lib.hid h31
  have H32 := Lib.hid h32
  by_cases hb : bad = []
  · subst hb
    have hXc : X = c := by
      refine bytes_eq ?_
      rw [hX, hS.eq, repAll_bytes P [] hS.pts, repAll_nil, List.append_nil, List.append_nil]
    subst hXc
    have hf : fstI P [] = -1 := rfl
    have HF := Lib.hid (fun w => refFirst_any hS w)
    rw [hf] at HF
    clear hX h31 h32 hf
    go_enter Try.func9, Try.ntmps9
    go_wp2_with (first | (go_at_call 12; refine (HC.out _).mono ?_; rintro e w' ⟨rfl, rfl⟩) | (go_at_call 13; refine (known_any _).mono ?_; rintro e w1 ⟨rfl, hb1⟩) | (go_at_call 31; refine (H31.out _).mono ?_; rintro e w2 ⟨rfl, hb2⟩) | (go_at_call 32; refine (H32.out _).mono ?_; rintro e w3 ⟨rfl, hb3⟩) | (go_at_call 18; refine (valid_ok hXv _).mono ?_; rintro e w' ⟨rfl, rfl⟩) | (go_at_call 17; refine (HF.out _).mono ?_; rintro e w4 ⟨rfl, hb4⟩))
    go_ret
    exact ⟨ret_bool (by first | rfl | simp), chain (chain (chain hb2 hb1) hb3) hb4⟩
  · have hf : fstI P bad = (off P P.length : Nat) := by rw [off_end]; exact if_neg hb
    have HF := Lib.hid (fun w => refFirst_any hS w)
    rw [hf] at HF
    obtain ⟨r1, r2⟩ := rep_first hS
    rw [← hX, list_size] at r2
    rw [← hX] at r1
    have r3 : off P P.length ≤ c.size := by have := hS.size; have := off_end P; omega
    generalize off P P.length = n at *
    have heq : (X.extract 0 n).toList = (c.extract 0 n).toList := by rw [extract_take, extract_take]; exact r1
    have HE := Lib.hid heq
    clear hX h31 h32 hf r1 heq
    go_enter Try.func9, Try.ntmps9
    go_wp2_with (first | (go_at_call 12; refine (HC.out _).mono ?_; rintro e w' ⟨rfl, rfl⟩) | (go_at_call 13; refine (known_any _).mono ?_; rintro e w1 ⟨rfl, hb1⟩) | (go_at_call 31; refine (H31.out _).mono ?_; rintro e w2 ⟨rfl, hb2⟩) | (go_at_call 32; refine (H32.out _).mono ?_; rintro e w3 ⟨rfl, hb3⟩) | (go_at_call 18; refine (valid_ok hXv _).mono ?_; rintro e w' ⟨rfl, rfl⟩) | (go_at_call 17; refine (HF.out _).mono ?_; rintro e w4 ⟨rfl, hb4⟩))
    go_quiet (fail)
    go_wp2
    go_ret
    exact ⟨ret_bool (by rw [HE.out]; simp), below_drewN (chain (chain (chain hb2 hb1) hb3) hb4) _⟩
end Go.Proofs.Ytblabbeaaajlkaa
