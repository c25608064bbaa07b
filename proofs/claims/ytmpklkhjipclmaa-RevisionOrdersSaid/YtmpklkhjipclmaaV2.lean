/- Layer 22: Valid by a plain name; CheckRev (14) and the reference's checkRev (15). -/
import Derived.Test.YtmpklkhjipclmaaV1
import Derived.Test.YtmpklkhjipclmaaMK
import Derived.Lib.Hide
namespace Go.Proofs.Ytmpklkhjipclmaa
open Go.RowKit Go.Lib
set_option linter.unusedVariables false

theorem parts_unique : ∀ (P Q : List Nat) (bad : List UInt8), U.Pts P → U.Pts Q → (U.dec bad).2 = 0 → U.bytes P = U.bytes Q ++ bad → bad = []
  | [], Q, bad, _, _, _, h => by
    have := congrArg List.length h
    rw [List.length_append] at this
    exact List.eq_nil_of_length_eq_zero (by have h0 : (U.bytes []).length = 0 := rfl; omega)
  | p :: P, [], bad, hP, _, hd, h => by
    rw [U.bytes_cons] at h
    have e : U.dec bad = (p, (U.enc p).length) := by
      have h' : bad = U.enc p ++ U.bytes P := by rw [h]; rfl
      rw [h']; exact U.dec_enc p (hP p (by simp)) _
    have := (U.enc_pos p).1
    rw [e] at hd
    simp only at hd
    omega
  | p :: P, q :: Q, bad, hP, hQ, hd, h => by
    rw [U.bytes_cons, U.bytes_cons, List.append_assoc] at h
    have e1 := U.dec_enc p (hP p (by simp)) (U.bytes P)
    have e2 := U.dec_enc q (hQ q (by simp)) (U.bytes Q ++ bad)
    rw [h, e2] at e1
    have hpq : q = p := congrArg Prod.fst e1
    subst hpq
    exact parts_unique P Q bad (fun x hx => hP x (by simp [hx])) (fun x hx => hQ x (by simp [hx])) hd (List.append_cancel_left h)
open Classical in
/-- Whether a string is valid. -/
noncomputable def vld (s : ByteArray) : Bool := decide (∃ P, U.Pts P ∧ s.data.toList = U.bytes P)
open Classical in
theorem vld_ok {s : ByteArray} (P : List Nat) (hP : U.Pts P) (h : s.data.toList = U.bytes P) : vld s = true := decide_eq_true ⟨P, hP, h⟩
open Classical in
theorem valid38 (s : ByteArray) (hs : s.size ≤ 1000000) (w : World) : Calls Try.prog 38 #[.string s] w fun e w' => e = .returned (.bool (vld s)) ∧ w' = w := by
  obtain ⟨P, bad, h⟩ := Cp.Str.ex s hs
  by_cases hb : bad = []
  · subst hb
    have hv : vld s = true := vld_ok P h.pts (by rw [h.eq, List.append_nil])
    rw [hv]
    exact (Cp.valid_ok h w).mono fun e w' ⟨h1, h2⟩ => ⟨h1, h2.symm⟩
  · have hv : vld s = false := decide_eq_false fun ⟨Q, hQ, hq⟩ => hb (parts_unique Q P bad hQ h.pts h.rest (by rw [← hq, h.eq]))
    rw [hv]
    exact (Cp.valid_no h hb w).mono fun e w' ⟨h1, h2⟩ => ⟨h1, h2.symm⟩
theorem beq_str_nil (s : ByteArray) : (s.size = 0) ↔ s.toList.isEmpty = true := by
  rw [ByteArray.toList_eq]
  obtain ⟨⟨l⟩⟩ := s
  show l.length = 0 ↔ l.isEmpty = true
  cases l <;> simp

set_option maxRecDepth 100000 in
set_option maxHeartbeats 8000000 in
theorem checkrev_any (x : Rv) (hx : x.author.size ≤ 1000000) (w : World) : Calls Try.prog 14 #[rvV x] w fun e w' => e = .returned (.int .i64 (chkR vld x)) ∧ Below w.heap.size w w' := by
  obtain ⟨a, s, t⟩ := x
  have cV := valid38 s hx (w.alloc (.cells #[.int .i64 a, .string s, .int .i64 t] 23))
  have hb := Lib.hid ((Below.refl w.heap.size w).alloc (Nat.le_refl _) (.cells #[.int .i64 a, .string s, .int .i64 t] 23))
  unfold chkR
  dsimp only [rvV] at hx cV ⊢
  by_cases h1 : a < 1
  · have g1 : (if a < 1 ∨ 1073741824 < a then (18 : Int) else if s.size = 0 then 11 else if 40 < s.size then 10 else if vld s = false then 12 else if t < 0 ∨ 1099511627776 < t then 40 else 0) = 18 := if_pos (.inl h1)
    rw [g1]
    clear g1 cV
    go_enter Try.func14, Try.ntmps14
    go_wp2
    go_ret
    exact ⟨rfl, hb.out⟩
  by_cases h2 : 1073741824 < a
  · have g1 : (if a < 1 ∨ 1073741824 < a then (18 : Int) else if s.size = 0 then 11 else if 40 < s.size then 10 else if vld s = false then 12 else if t < 0 ∨ 1099511627776 < t then 40 else 0) = 18 := if_pos (.inr h2)
    rw [g1]
    clear g1 cV
    go_enter Try.func14, Try.ntmps14
    go_wp2
    go_ret
    exact ⟨rfl, hb.out⟩
  rw [if_neg (by omega)]
  by_cases h3 : s.size = 0
  · have e3 := (beq_str_nil s).1 h3
    rw [if_pos h3]
    clear cV hx h3
    go_enter Try.func14, Try.ntmps14
    go_wp2
    go_ret
    exact ⟨rfl, hb.out⟩
  rw [if_neg h3]
  have e3 : s.toList.isEmpty = false := by
    cases h : s.toList.isEmpty with
    | true => exact absurd ((beq_str_nil s).2 h) h3
    | false => rfl
  clear h3
  by_cases h4 : 40 < s.size
  · have e4 : (40 : Int) < (s.size : Int) := by omega
    rw [if_pos h4]
    clear cV hx h4
    go_enter Try.func14, Try.ntmps14
    go_wp2
    go_ret
    exact ⟨rfl, hb.out⟩
  rw [if_neg h4]
  have e4 : ¬ (40 : Int) < (s.size : Int) := by omega
  clear h4 hx
  cases hv : vld s with
  | false =>
    rw [if_pos rfl]
    rw [hv] at cV
    go_enter Try.func14, Try.ntmps14
    go_wp2_with fail
    (with_reducible refine cV.mono ?_)
    rintro e w' ⟨rfl, rfl⟩
    go_wp2
    go_ret
    exact ⟨rfl, hb.out⟩
  | true =>
    rw [hv] at cV
    rw [if_neg (by decide)]
    by_cases h5 : t < 0
    · have g1 : (if t < 0 ∨ 1099511627776 < t then (40 : Int) else 0) = 40 := if_pos (.inl h5)
      rw [g1]
      clear g1
      go_enter Try.func14, Try.ntmps14
      go_wp2_with fail
      (with_reducible refine cV.mono ?_)
      rintro e w' ⟨rfl, rfl⟩
      go_wp2
      go_ret
      exact ⟨rfl, hb.out⟩
    by_cases h6 : 1099511627776 < t
    · have g1 : (if t < 0 ∨ 1099511627776 < t then (40 : Int) else 0) = 40 := if_pos (.inr h6)
      rw [g1]
      clear g1
      go_enter Try.func14, Try.ntmps14
      go_wp2_with fail
      (with_reducible refine cV.mono ?_)
      rintro e w' ⟨rfl, rfl⟩
      go_wp2
      go_ret
      exact ⟨rfl, hb.out⟩
    · have g1 : (if t < 0 ∨ 1099511627776 < t then (40 : Int) else 0) = 0 := if_neg (by omega)
      rw [g1]
      clear g1
      go_enter Try.func14, Try.ntmps14
      go_wp2_with fail
      (with_reducible refine cV.mono ?_)
      rintro e w' ⟨rfl, rfl⟩
      go_wp2
      go_ret
      exact ⟨rfl, hb.out⟩

set_option maxRecDepth 100000 in
set_option maxHeartbeats 8000000 in
theorem rcheckrev_any (x : Rv) (hx : x.author.size ≤ 1000000) (w : World) : Calls Try.prog 15 #[rvV x] w fun e w' => e = .returned (.int .i64 (chkR vld x)) ∧ Below w.heap.size w w' := by
  obtain ⟨a, s, t⟩ := x
  have cV := valid38 s hx (w.alloc (.cells #[.int .i64 a, .string s, .int .i64 t] 23))
  have hb := Lib.hid ((Below.refl w.heap.size w).alloc (Nat.le_refl _) (.cells #[.int .i64 a, .string s, .int .i64 t] 23))
  unfold chkR
  dsimp only [rvV] at hx cV ⊢
  by_cases h1 : a < 1
  · have g1 : (if a < 1 ∨ 1073741824 < a then (18 : Int) else if s.size = 0 then 11 else if 40 < s.size then 10 else if vld s = false then 12 else if t < 0 ∨ 1099511627776 < t then 40 else 0) = 18 := if_pos (.inl h1)
    rw [g1]
    clear g1 cV
    go_enter Try.func15, Try.ntmps15
    go_wp2
    go_ret
    exact ⟨rfl, hb.out⟩
  by_cases h2 : 1073741824 < a
  · have g1 : (if a < 1 ∨ 1073741824 < a then (18 : Int) else if s.size = 0 then 11 else if 40 < s.size then 10 else if vld s = false then 12 else if t < 0 ∨ 1099511627776 < t then 40 else 0) = 18 := if_pos (.inr h2)
    rw [g1]
    clear g1 cV
    go_enter Try.func15, Try.ntmps15
    go_wp2
    go_ret
    exact ⟨rfl, hb.out⟩
  rw [if_neg (by omega)]
  by_cases h3 : s.size = 0
  · have e3 := (beq_str_nil s).1 h3
    rw [if_pos h3]
    clear cV hx h3
    go_enter Try.func15, Try.ntmps15
    go_wp2
    go_ret
    exact ⟨rfl, hb.out⟩
  rw [if_neg h3]
  have e3 : s.toList.isEmpty = false := by
    cases h : s.toList.isEmpty with
    | true => exact absurd ((beq_str_nil s).2 h) h3
    | false => rfl
  clear h3
  by_cases h4 : 40 < s.size
  · have e4 : (40 : Int) < (s.size : Int) := by omega
    rw [if_pos h4]
    clear cV hx h4
    go_enter Try.func15, Try.ntmps15
    go_wp2
    go_ret
    exact ⟨rfl, hb.out⟩
  rw [if_neg h4]
  have e4 : ¬ (40 : Int) < (s.size : Int) := by omega
  clear h4 hx
  cases hv : vld s with
  | false =>
    rw [if_pos rfl]
    rw [hv] at cV
    go_enter Try.func15, Try.ntmps15
    go_wp2_with fail
    (with_reducible refine cV.mono ?_)
    rintro e w' ⟨rfl, rfl⟩
    go_wp2
    go_ret
    exact ⟨rfl, hb.out⟩
  | true =>
    rw [hv] at cV
    rw [if_neg (by decide)]
    by_cases h5 : t < 0
    · have g1 : (if t < 0 ∨ 1099511627776 < t then (40 : Int) else 0) = 40 := if_pos (.inl h5)
      rw [g1]
      clear g1
      go_enter Try.func15, Try.ntmps15
      go_wp2_with fail
      (with_reducible refine cV.mono ?_)
      rintro e w' ⟨rfl, rfl⟩
      go_wp2
      go_ret
      exact ⟨rfl, hb.out⟩
    by_cases h6 : 1099511627776 < t
    · have g1 : (if t < 0 ∨ 1099511627776 < t then (40 : Int) else 0) = 40 := if_pos (.inr h6)
      rw [g1]
      clear g1
      go_enter Try.func15, Try.ntmps15
      go_wp2_with fail
      (with_reducible refine cV.mono ?_)
      rintro e w' ⟨rfl, rfl⟩
      go_wp2
      go_ret
      exact ⟨rfl, hb.out⟩
    · have g1 : (if t < 0 ∨ 1099511627776 < t then (40 : Int) else 0) = 0 := if_neg (by omega)
      rw [g1]
      clear g1
      go_enter Try.func15, Try.ntmps15
      go_wp2_with fail
      (with_reducible refine cV.mono ?_)
      rintro e w' ⟨rfl, rfl⟩
      go_wp2
      go_ret
      exact ⟨rfl, hb.out⟩
end Go.Proofs.Ytmpklkhjipclmaa
