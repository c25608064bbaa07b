import GoSem.Op.String
import Derived.Lib.DecodeN
import Derived.Lib.ValidU
import Derived.Lib.RuneCount

namespace Go.Proofs.Ytmpklkhjipclmaa.U

/-! ### the definition -/
def isPt (p : Nat) : Prop := p ≤ 1114111 ∧ (p < 55296 ∨ 57343 < p)
instance (p : Nat) : Decidable (isPt p) := by unfold isPt; infer_instance
def encN (p : Nat) : List Nat :=
  if p < 128 then [p]
  else if p < 2048 then [192 + p / 64, 128 + p % 64]
  else if p < 65536 then [224 + p / 4096, 128 + p / 64 % 64, 128 + p % 64]
  else [240 + p / 262144, 128 + p / 4096 % 64, 128 + p / 64 % 64, 128 + p % 64]
def enc (p : Nat) : List UInt8 := (encN p).map Nat.toUInt8
def bytes (ps : List Nat) : List UInt8 := ps.flatMap enc

def lo2 (b : Nat) : Nat := if b = 224 then 160 else if b = 240 then 144 else 128
def hi2 (b : Nat) : Nat := if b = 237 then 159 else if b = 244 then 143 else 191
def wid (b : Nat) : Nat :=
  if b < 128 then 1 else if b < 194 then 0 else if b < 224 then 2 else if b < 240 then 3 else if b < 245 then 4 else 0

/-- What begins a list of bytes: a point and its size, or a size of 0. -/
def dec : List UInt8 → Nat × Nat
  | [] => (0, 0)
  | a :: t =>
    if a.toNat < 128 then (a.toNat, 1)
    else if a.toNat < 194 then (0, 0)
    else if a.toNat < 224 then
      match t with
      | b :: _ => if 128 ≤ b.toNat ∧ b.toNat ≤ 191 then ((a.toNat - 192) * 64 + (b.toNat - 128), 2) else (0, 0)
      | [] => (0, 0)
    else if a.toNat < 240 then
      match t with
      | b :: c :: _ => if lo2 a.toNat ≤ b.toNat ∧ b.toNat ≤ hi2 a.toNat ∧ 128 ≤ c.toNat ∧ c.toNat ≤ 191 then ((a.toNat - 224) * 4096 + (b.toNat - 128) * 64 + (c.toNat - 128), 3) else (0, 0)
      | _ => (0, 0)
    else if a.toNat < 245 then
      match t with
      | b :: c :: d :: _ => if lo2 a.toNat ≤ b.toNat ∧ b.toNat ≤ hi2 a.toNat ∧ 128 ≤ c.toNat ∧ c.toNat ≤ 191 ∧ 128 ≤ d.toNat ∧ d.toNat ≤ 191 then ((a.toNat - 240) * 262144 + (b.toNat - 128) * 4096 + (c.toNat - 128) * 64 + (d.toNat - 128), 4) else (0, 0)
      | _ => (0, 0)
    else (0, 0)

theorem u8_toNat (n : Nat) (h : n < 256) : (Nat.toUInt8 n).toNat = n := by
  simp; omega
theorem u8_of (c : UInt8) (n : Nat) (h : c.toNat = n) : c = Nat.toUInt8 n := by
  apply UInt8.toNat_inj.1
  have := c.toNat_lt
  rw [u8_toNat n (by omega), h]

/-- A point's encoding is decoded, whatever follows. -/
theorem dec_enc (p : Nat) (h : isPt p) (t : List UInt8) : dec (enc p ++ t) = (p, (enc p).length) := by
  obtain ⟨h1, h2⟩ := h
  unfold enc encN
  split
  · rename_i h3
    simp only [List.map_cons, List.map_nil, List.cons_append, List.nil_append, dec, u8_toNat p (by omega), if_pos h3]; rfl
  · split
    · rename_i h3 h4
      simp only [List.map_cons, List.map_nil, List.cons_append, List.nil_append, dec, u8_toNat (192 + p / 64) (by omega), u8_toNat (128 + p % 64) (by omega)]
      rw [if_neg (by omega), if_neg (by omega), if_pos (by omega), if_pos (by omega)]
      simp; omega
    · split
      · rename_i h3 h4 h5
        simp only [List.map_cons, List.map_nil, List.cons_append, List.nil_append, dec, u8_toNat (224 + p / 4096) (by omega), u8_toNat (128 + p % 64) (by omega), u8_toNat (128 + p / 64 % 64) (by omega)]
        rw [if_neg (by omega), if_neg (by omega), if_neg (by omega), if_pos (by omega), if_pos (by unfold lo2 hi2; refine ⟨?_, ?_, by omega, by omega⟩ <;> (repeat' split) <;> omega)]
        simp; omega
      · rename_i h3 h4 h5
        simp only [List.map_cons, List.map_nil, List.cons_append, List.nil_append, dec, u8_toNat (240 + p / 262144) (by omega), u8_toNat (128 + p % 64) (by omega), u8_toNat (128 + p / 64 % 64) (by omega), u8_toNat (128 + p / 4096 % 64) (by omega)]
        rw [if_neg (by omega), if_neg (by omega), if_neg (by omega), if_neg (by omega), if_pos (by omega), if_pos (by unfold lo2 hi2; refine ⟨?_, ?_, by omega, by omega, by omega, by omega⟩ <;> (repeat' split) <;> omega)]
        simp; omega

theorem lohi (a b : Nat) (h1 : lo2 a ≤ b) (h2 : b ≤ hi2 a) : 128 ≤ b ∧ b ≤ 191 ∧ (a = 224 → 160 ≤ b) ∧ (a = 240 → 144 ≤ b) ∧ (a = 237 → b ≤ 159) ∧ (a = 244 → b ≤ 143) := by
  unfold lo2 at h1
  unfold hi2 at h2
  refine ⟨?_, ?_, ?_, ?_, ?_, ?_⟩ <;> (repeat' split at h1) <;> (repeat' split at h2) <;> omega

/-- What is decoded is a point, and the bytes are its encoding. -/
theorem dec_some (l : List UInt8) (p n : Nat) (h : dec l = (p, n)) (hn : n ≠ 0) : isPt p ∧ l = enc p ++ l.drop n ∧ (enc p).length = n := by
  match l, h with
  | [], h => simp [dec] at h; omega
  | a :: t, h =>
    have ha := a.toNat_lt
    simp only [dec] at h
    by_cases h1 : a.toNat < 128
    · rw [if_pos h1] at h
      cases h
      simp only [enc, encN, if_pos h1, isPt]
      refine ⟨by omega, ?_, rfl⟩
      simp only [List.map_cons, List.map_nil, List.cons_append, List.nil_append, List.drop_succ_cons, List.drop_zero]
      rw [← u8_of a _ rfl]
    rw [if_neg h1] at h
    by_cases h2 : a.toNat < 194
    · rw [if_pos h2] at h; cases h; exact absurd rfl hn
    rw [if_neg h2] at h
    by_cases h3 : a.toNat < 224
    · rw [if_pos h3] at h
      match t, h with
      | [], h => cases h; exact absurd rfl hn
      | b :: t, h =>
        have hb := b.toNat_lt
        simp only [] at h
        split at h
        · rename_i h4
          simp only [Prod.mk.injEq] at h
          obtain ⟨rfl, rfl⟩ := h
          simp only [enc, encN, isPt]
          rw [if_neg (by omega), if_pos (by omega)]
          refine ⟨by omega, ?_, rfl⟩
          simp only [List.map_cons, List.map_nil, List.cons_append, List.nil_append, List.drop_succ_cons, List.drop_zero]
          rw [← u8_of a _ (by omega), ← u8_of b _ (by omega)]
        · cases h; exact absurd rfl hn
    rw [if_neg h3] at h
    by_cases h4 : a.toNat < 240
    · rw [if_pos h4] at h
      match t, h with
      | [], h => cases h; exact absurd rfl hn
      | [_], h => cases h; exact absurd rfl hn
      | b :: c :: t, h =>
        have hb := b.toNat_lt
        simp only [] at h
        split at h
        · rename_i h5
          simp only [Prod.mk.injEq] at h
          obtain ⟨rfl, rfl⟩ := h
          have q := lohi _ _ h5.1 h5.2.1
          simp only [enc, encN, isPt]
          rw [if_neg (by omega), if_neg (by omega), if_pos (by omega)]
          refine ⟨by omega, ?_, rfl⟩
          simp only [List.map_cons, List.map_nil, List.cons_append, List.nil_append, List.drop_succ_cons, List.drop_zero]
          rw [← u8_of a _ (by omega), ← u8_of b _ (by omega), ← u8_of c _ (by omega)]
        · cases h; exact absurd rfl hn
    rw [if_neg h4] at h
    by_cases h4' : a.toNat < 245
    · rw [if_pos h4'] at h
      match t, h with
      | [], h => cases h; exact absurd rfl hn
      | [_], h => cases h; exact absurd rfl hn
      | [_, _], h => cases h; exact absurd rfl hn
      | b :: c :: d :: t, h =>
        have hb := b.toNat_lt
        simp only [] at h
        split at h
        · rename_i h5
          simp only [Prod.mk.injEq] at h
          obtain ⟨rfl, rfl⟩ := h
          have q := lohi _ _ h5.1 h5.2.1
          simp only [enc, encN, isPt]
          rw [if_neg (by omega), if_neg (by omega), if_neg (by omega)]
          refine ⟨by omega, ?_, rfl⟩
          simp only [List.map_cons, List.map_nil, List.cons_append, List.nil_append, List.drop_succ_cons, List.drop_zero]
          rw [← u8_of a _ (by omega), ← u8_of b _ (by omega), ← u8_of c _ (by omega), ← u8_of d _ (by omega)]
        · cases h; exact absurd rfl hn
    rw [if_neg h4'] at h
    cases h; exact absurd rfl hn

/-! ### the code's scan -/
def scanGo (n : Nat) : List UInt8 → Nat → Nat → Nat → Nat → Nat × Nat × Bool
  | [], size, p, _, _ => if size < n then (0, size, false) else (p, size, true)
  | c :: t, size, p, lo, hi => if size < n then (if c.toNat < lo ∨ hi < c.toNat then (0, size, false) else scanGo n t (size + 1) (p * 64 + c.toNat % 64) 128 191) else (p, size, true)
def scan : List UInt8 → Nat × Nat × Bool
  | [] => (0, 0, false)
  | a :: t => if wid a.toNat < 2 then (a.toNat, wid a.toNat, wid a.toNat == 1) else scanGo (wid a.toNat) t 1 (a.toNat % 2 ^ (7 - wid a.toNat)) (lo2 a.toNat) (hi2 a.toNat)
theorem scanGo_lt (n : Nat) (c : UInt8) (t : List UInt8) (size p lo hi : Nat) (h : size < n) : scanGo n (c :: t) size p lo hi = if c.toNat < lo ∨ hi < c.toNat then (0, size, false) else scanGo n t (size + 1) (p * 64 + c.toNat % 64) 128 191 := by
  rw [scanGo, if_pos h]
theorem scanGo_ge (n : Nat) (t : List UInt8) (size p lo hi : Nat) (h : ¬ size < n) : scanGo n t size p lo hi = (p, size, true) := by
  cases t <;> rw [scanGo, if_neg h]
theorem scanGo_nil (n : Nat) (size p lo hi : Nat) (h : size < n) : scanGo n [] size p lo hi = (0, size, false) := by
  rw [scanGo, if_pos h]

theorem scan_some (l : List UInt8) (p n : Nat) (h : dec l = (p, n)) (hn : n ≠ 0) : scan l = (p, n, true) := by
  obtain ⟨h1, h2, h3⟩ := dec_some l p n h hn
  rw [h2]
  generalize l.drop n = t
  subst h3
  obtain ⟨g1, g2⟩ := h1
  clear h2 h hn
  unfold enc encN
  by_cases c1 : p < 128
  · simp only [if_pos c1, List.map_cons, List.map_nil, List.cons_append, List.nil_append, scan, u8_toNat p (by omega)]
    have : wid p = 1 := by unfold wid; rw [if_pos c1]
    rw [this]; rfl
  rw [if_neg c1]
  by_cases c2 : p < 2048
  · simp only [if_pos c2, List.map_cons, List.map_nil, List.cons_append, List.nil_append, scan, u8_toNat (192 + p / 64) (by omega)]
    have : wid (192 + p / 64) = 2 := by unfold wid; rw [if_neg (by omega), if_neg (by omega), if_pos (by omega)]
    rw [this, if_neg (by omega), scanGo_lt _ _ _ _ _ _ _ (by omega), u8_toNat _ (by omega), if_neg (by unfold lo2 hi2; rw [if_neg (by omega), if_neg (by omega), if_neg (by omega), if_neg (by omega)]; omega), scanGo_ge _ _ _ _ _ _ (by omega)]
    simp; omega
  rw [if_neg c2]
  by_cases c3 : p < 65536
  · simp only [if_pos c3, List.map_cons, List.map_nil, List.cons_append, List.nil_append, scan, u8_toNat (224 + p / 4096) (by omega)]
    have : wid (224 + p / 4096) = 3 := by unfold wid; rw [if_neg (by omega), if_neg (by omega), if_neg (by omega), if_pos (by omega)]
    rw [this, if_neg (by omega), scanGo_lt _ _ _ _ _ _ _ (by omega), u8_toNat _ (by omega), if_neg (by unfold lo2 hi2; (repeat' split) <;> omega), scanGo_lt _ _ _ _ _ _ _ (by omega), u8_toNat _ (by omega), if_neg (by omega), scanGo_ge _ _ _ _ _ _ (by omega)]
    simp; omega
  rw [if_neg c3]
  · simp only [List.map_cons, List.map_nil, List.cons_append, List.nil_append, scan, u8_toNat (240 + p / 262144) (by omega)]
    have : wid (240 + p / 262144) = 4 := by unfold wid; rw [if_neg (by omega), if_neg (by omega), if_neg (by omega), if_neg (by omega), if_pos (by omega)]
    rw [this, if_neg (by omega), scanGo_lt _ _ _ _ _ _ _ (by omega), u8_toNat _ (by omega), if_neg (by unfold lo2 hi2; (repeat' split) <;> omega), scanGo_lt _ _ _ _ _ _ _ (by omega), u8_toNat _ (by omega), if_neg (by omega), scanGo_lt _ _ _ _ _ _ _ (by omega), u8_toNat _ (by omega), if_neg (by omega), scanGo_ge _ _ _ _ _ _ (by omega)]
    simp; omega

/-! ### lengths -/
theorem enc_len (p : Nat) : (enc p).length = if p < 128 then 1 else if p < 2048 then 2 else if p < 65536 then 3 else 4 := by
  unfold enc encN; split
  · rfl
  · split
    · rfl
    · split <;> rfl
theorem enc_pos (p : Nat) : 1 ≤ (enc p).length ∧ (enc p).length ≤ 4 := by
  rw [enc_len]; (repeat' split) <;> omega
theorem bytes_nil : bytes [] = [] := rfl
theorem bytes_cons (p : Nat) (ps : List Nat) : bytes (p :: ps) = enc p ++ bytes ps := rfl
theorem bytes_append (a b : List Nat) : bytes (a ++ b) = bytes a ++ bytes b := by simp [bytes]
theorem bytes_snoc (a : List Nat) (p : Nat) : bytes (a ++ [p]) = bytes a ++ enc p := by rw [bytes_append, bytes_cons, bytes_nil, List.append_nil]
theorem bytes_len (ps : List Nat) : ps.length ≤ (bytes ps).length ∧ (bytes ps).length ≤ 4 * ps.length := by
  induction ps with
  | nil => simp [bytes_nil]
  | cons p ps ih => rw [bytes_cons, List.length_append, List.length_cons]; have := enc_pos p; omega

/-- The byte offset of a unit. -/
def off (P : List Nat) (k : Nat) : Nat := (bytes (P.take k)).length
theorem off_zero (P : List Nat) : off P 0 = 0 := rfl
theorem off_end (P : List Nat) : off P P.length = (bytes P).length := by rw [off, List.take_length]
theorem off_succ (P : List Nat) (k : Nat) (h : k < P.length) : off P (k + 1) = off P k + (enc P[k]).length := by
  rw [off, off, List.take_succ_eq_append_getElem h, bytes_snoc, List.length_append]
theorem off_le (P : List Nat) (k : Nat) : off P k ≤ (bytes P).length := by
  have : bytes P = bytes (P.take k) ++ bytes (P.drop k) := by rw [← bytes_append, List.take_append_drop]
  rw [this, List.length_append, off]; omega
theorem off_mono (P : List Nat) (j k : Nat) (h : j ≤ k) : off P j ≤ off P k := by
  have : P.take k = P.take j ++ (P.take k).drop j := by
    conv => lhs; rw [← List.take_append_drop j (P.take k)]
    rw [List.take_take, Nat.min_eq_left h]
  rw [off, off, this, bytes_append, List.length_append]; omega
theorem off_ge (P : List Nat) (k : Nat) (h : k ≤ P.length) : k ≤ off P k := by
  have := (bytes_len (P.take k)).1
  rw [List.length_take, Nat.min_eq_left h] at this; exact this
theorem off_lt (P : List Nat) (j k : Nat) (h : j < k) (hk : k ≤ P.length) : off P j < off P k := by
  have h1 := off_succ P j (by omega)
  have h2 := off_mono P (j + 1) k h
  have h3 := enc_pos P[j]
  omega
theorem drop_off (P : List Nat) (bad : List UInt8) (k : Nat) : (bytes P ++ bad).drop (off P k) = bytes (P.drop k) ++ bad := by
  have : bytes P = bytes (P.take k) ++ bytes (P.drop k) := by rw [← bytes_append, List.take_append_drop]
  rw [this, List.append_assoc, off, List.drop_left]
theorem take_off (P : List Nat) (bad : List UInt8) (k : Nat) : (bytes P ++ bad).take (off P k) = bytes (P.take k) := by
  have : bytes P = bytes (P.take k) ++ bytes (P.drop k) := by rw [← bytes_append, List.take_append_drop]
  rw [this, List.append_assoc, off, List.take_left]
theorem drop_cons (P : List Nat) (k : Nat) (h : k < P.length) : bytes (P.drop k) = enc P[k] ++ bytes (P.drop (k + 1)) := by
  rw [List.drop_eq_getElem_cons h, bytes_cons]

def Pts (P : List Nat) : Prop := ∀ p ∈ P, isPt p
theorem Pts.get {P : List Nat} (h : Pts P) (k : Nat) (hk : k < P.length) : isPt P[k] := h _ (List.getElem_mem hk)
theorem dec_at {P : List Nat} (h : Pts P) (bad : List UInt8) (k : Nat) (hk : k < P.length) : dec (bytes (P.drop k) ++ bad) = (P[k], (enc P[k]).length) := by
  rw [drop_cons P k hk, List.append_assoc, dec_enc _ (h.get k hk)]

/-- Each list of bytes is a list of encodings, and a rest with which none begins. -/
theorem parts (l : List UInt8) : ∃ P bad, l = bytes P ++ bad ∧ Pts P ∧ (dec bad).2 = 0 := by
  generalize hn : l.length = n
  induction n using Nat.strongRecOn generalizing l with
  | _ n ih =>
    by_cases h : (dec l).2 = 0
    · exact ⟨[], l, rfl, (fun _ h => by cases h), h⟩
    · obtain ⟨h1, h2, h3⟩ := dec_some l (dec l).1 (dec l).2 rfl h
      have hp := enc_pos (dec l).1
      have hl : (l.drop (dec l).2).length < n := by
        have : l.length = (enc (dec l).1).length + (l.drop (dec l).2).length := by
          conv => lhs; rw [h2]
          rw [List.length_append]
        omega
      obtain ⟨P, bad, e1, e2, e3⟩ := ih _ hl _ rfl
      refine ⟨(dec l).1 :: P, bad, ?_, ?_, e3⟩
      · rw [bytes_cons, List.append_assoc, ← e1, ← h2]
      · intro p hp
        rcases List.mem_cons.1 hp with rfl | hp
        · exact h1
        · exact e2 p hp
/-- The list of points is determined. -/
theorem bytes_inj : ∀ (P Q : List Nat), Pts P → Pts Q → bytes P = bytes Q → P = Q
  | [], [], _, _, _ => rfl
  | [], q :: Q, _, _, h => by have := congrArg List.length h; rw [bytes_cons, bytes_nil, List.length_append, List.length_nil] at this; have := enc_pos q; omega
  | p :: P, [], _, _, h => by have := congrArg List.length h; rw [bytes_cons, bytes_nil, List.length_append, List.length_nil] at this; have := enc_pos p; omega
  | p :: P, q :: Q, hp, hq, h => by
    rw [bytes_cons, bytes_cons] at h
    have h1 := dec_enc p (hp p (by simp)) (bytes P)
    rw [h, dec_enc q (hq q (by simp))] at h1
    simp only [Prod.mk.injEq] at h1
    obtain ⟨rfl, _⟩ := h1
    rw [bytes_inj P Q (fun x hx => hp x (by simp [hx])) (fun x hx => hq x (by simp [hx])) (List.append_cancel_left h)]

/-! ### the reference's decoder -/
def rn (b : Nat) : Nat := if b < 192 then 0 else if b < 224 then 2 else if b < 240 then 3 else if b < 248 then 4 else 0
def rp (b : Nat) : Nat := if b < 224 then b - 192 else if b < 240 then b - 224 else b - 240
def cgo : List UInt8 → Nat → Option Nat
  | [], p => some p
  | c :: t, p => if c.toNat < 128 ∨ 191 < c.toNat then none else cgo t (p * 64 + c.toNat - 128)
def rdec (l : List UInt8) : Nat × Nat :=
  match l with
  | [] => (0, 0)
  | a :: _ =>
    if a.toNat < 128 then (a.toNat, 1)
    else if rn a.toNat = 0 ∨ l.length < rn a.toNat then (0, 0)
    else match cgo ((l.take (rn a.toNat)).drop 1) (rp a.toNat) with
      | none => (0, 0)
      | some q => if isPt q ∧ enc q = l.take (rn a.toNat) then (q, rn a.toNat) else (0, 0)
theorem rdec_enc (p : Nat) (h : isPt p) (t : List UInt8) : rdec (enc p ++ t) = (p, (enc p).length) := by
  obtain ⟨g1, g2⟩ := h
  have hE : ∃ x, enc p = x := ⟨_, rfl⟩
  obtain ⟨x, hx⟩ := hE
  have hx' := hx
  unfold enc encN at hx
  by_cases c1 : p < 128
  · rw [if_pos c1] at hx
    rw [hx', ← hx]
    simp only [List.map_cons, List.map_nil, List.cons_append, List.nil_append, rdec, u8_toNat p (by omega), if_pos c1]; rfl
  rw [if_neg c1] at hx
  by_cases c2 : p < 2048
  · rw [if_pos c2] at hx
    rw [hx', ← hx]
    simp only [List.map_cons, List.map_nil, List.cons_append, List.nil_append, rdec, u8_toNat (192 + p / 64) (by omega)]
    have e1 : rn (192 + p / 64) = 2 := by unfold rn; rw [if_neg (by omega), if_pos (by omega)]
    have e2 : rp (192 + p / 64) = p / 64 := by unfold rp; rw [if_pos (by omega)]; omega
    rw [e1, e2, if_neg (by omega), if_neg (by simp)]
    have e3 : cgo ((Nat.toUInt8 (192 + p / 64) :: Nat.toUInt8 (128 + p % 64) :: t).take 2 |>.drop 1) (p / 64) = some p := by
      simp only [List.take_succ_cons, List.take_zero, List.drop_succ_cons, List.drop_zero, cgo, u8_toNat (128 + p % 64) (by omega)]
      rw [if_neg (by omega)]; exact congrArg some (by omega)
    rw [e3]
    exact (if_pos ⟨⟨g1, g2⟩, by rw [hx', ← hx]; rfl⟩).trans rfl
  rw [if_neg c2] at hx
  by_cases c3 : p < 65536
  · rw [if_pos c3] at hx
    rw [hx', ← hx]
    simp only [List.map_cons, List.map_nil, List.cons_append, List.nil_append, rdec, u8_toNat (224 + p / 4096) (by omega)]
    have e1 : rn (224 + p / 4096) = 3 := by unfold rn; rw [if_neg (by omega), if_neg (by omega), if_pos (by omega)]
    have e2 : rp (224 + p / 4096) = p / 4096 := by unfold rp; rw [if_neg (by omega), if_pos (by omega)]; omega
    rw [e1, e2, if_neg (by omega), if_neg (by simp)]
    have e3 : cgo ((Nat.toUInt8 (224 + p / 4096) :: Nat.toUInt8 (128 + p / 64 % 64) :: Nat.toUInt8 (128 + p % 64) :: t).take 3 |>.drop 1) (p / 4096) = some p := by
      simp only [List.take_succ_cons, List.take_zero, List.drop_succ_cons, List.drop_zero, cgo, u8_toNat (128 + p % 64) (by omega), u8_toNat (128 + p / 64 % 64) (by omega)]
      rw [if_neg (by omega), if_neg (by omega)]; exact congrArg some (by omega)
    rw [e3]
    exact (if_pos ⟨⟨g1, g2⟩, by rw [hx', ← hx]; rfl⟩).trans rfl
  · rw [if_neg c3] at hx
    rw [hx', ← hx]
    simp only [List.map_cons, List.map_nil, List.cons_append, List.nil_append, rdec, u8_toNat (240 + p / 262144) (by omega)]
    have e1 : rn (240 + p / 262144) = 4 := by unfold rn; rw [if_neg (by omega), if_neg (by omega), if_neg (by omega), if_pos (by omega)]
    have e2 : rp (240 + p / 262144) = p / 262144 := by unfold rp; rw [if_neg (by omega), if_neg (by omega)]; omega
    rw [e1, e2, if_neg (by omega), if_neg (by simp)]
    have e3 : cgo ((Nat.toUInt8 (240 + p / 262144) :: Nat.toUInt8 (128 + p / 4096 % 64) :: Nat.toUInt8 (128 + p / 64 % 64) :: Nat.toUInt8 (128 + p % 64) :: t).take 4 |>.drop 1) (p / 262144) = some p := by
      simp only [List.take_succ_cons, List.take_zero, List.drop_succ_cons, List.drop_zero, cgo, u8_toNat (128 + p % 64) (by omega), u8_toNat (128 + p / 64 % 64) (by omega), u8_toNat (128 + p / 4096 % 64) (by omega)]
      rw [if_neg (by omega), if_neg (by omega), if_neg (by omega)]; exact congrArg some (by omega)
    rw [e3]
    exact (if_pos ⟨⟨g1, g2⟩, by rw [hx', ← hx]; rfl⟩).trans rfl

theorem dec_zero (l : List UInt8) : (dec l).2 = 0 → dec l = (0, 0) := by
  match l with
  | [] => exact fun _ => rfl
  | a :: t =>
    simp only [dec]
    (repeat' split) <;> first | exact fun h => absurd h (Nat.succ_ne_zero _) | exact fun _ => rfl
theorem dec_cases (l : List UInt8) : dec l = (0, 0) ∨ ∃ q t, isPt q ∧ l = enc q ++ t := by
  by_cases h : (dec l).2 = 0
  · exact .inl (dec_zero l h)
  · obtain ⟨h1, h2, h3⟩ := dec_some l (dec l).1 (dec l).2 rfl h
    exact .inr ⟨_, _, h1, h2⟩
theorem rdec_cases (l : List UInt8) : rdec l = (0, 0) ∨ ∃ q t, isPt q ∧ l = enc q ++ t := by
  match l with
  | [] => exact .inl rfl
  | a :: t =>
    unfold rdec
    simp only []
    by_cases h1 : a.toNat < 128
    · refine .inr ⟨a.toNat, t, ⟨by omega, by omega⟩, ?_⟩
      unfold enc encN
      rw [if_pos h1, List.map_cons, List.map_nil, ← u8_of a _ rfl]; rfl
    rw [if_neg h1]
    split
    · exact .inl rfl
    · split
      · exact .inl rfl
      · rename_i q _
        by_cases h2 : isPt q ∧ enc q = (a :: t).take (rn a.toNat)
        · refine .inr ⟨q, (a :: t).drop (rn a.toNat), h2.1, ?_⟩
          rw [h2.2, List.take_append_drop]
        · exact .inl (if_neg h2)
theorem rdec_eq (l : List UInt8) : rdec l = dec l := by
  rcases rdec_cases l with h | ⟨q, t, hq, rfl⟩
  · rcases dec_cases l with h' | ⟨q, t, hq, rfl⟩
    · rw [h, h']
    · rw [rdec_enc _ hq, dec_enc _ hq]
  · rw [rdec_enc _ hq, dec_enc _ hq]

/-! ### what the code's scan says where nothing is decoded; the beginnings -/
theorem wid1 {a : Nat} (h : a < 128) : wid a = 1 := by unfold wid; rw [if_pos h]
theorem wid0 {a : Nat} (h : ¬ a < 128) (h2 : a < 194) : wid a = 0 := by unfold wid; rw [if_neg h, if_pos h2]
theorem wid2 {a : Nat} (h : ¬ a < 194) (h2 : a < 224) : wid a = 2 := by unfold wid; rw [if_neg (by omega), if_neg h, if_pos h2]
theorem wid3 {a : Nat} (h : ¬ a < 224) (h2 : a < 240) : wid a = 3 := by unfold wid; rw [if_neg (by omega), if_neg (by omega), if_neg h, if_pos h2]
theorem wid4 {a : Nat} (h : ¬ a < 240) (h2 : a < 245) : wid a = 4 := by unfold wid; rw [if_neg (by omega), if_neg (by omega), if_neg (by omega), if_neg h, if_pos h2]
theorem wid5 {a : Nat} (h : ¬ a < 245) : wid a = 0 := by unfold wid; rw [if_neg (by omega), if_neg (by omega), if_neg (by omega), if_neg (by omega), if_neg h]

theorem dec1 {a : UInt8} (t : List UInt8) (h : a.toNat < 128) : dec (a :: t) = (a.toNat, 1) := by simp only [dec]; rw [if_pos h]
theorem dec0 {a : UInt8} (t : List UInt8) (h : ¬ a.toNat < 128) (h2 : a.toNat < 194) : dec (a :: t) = (0, 0) := by simp only [dec]; rw [if_neg h, if_pos h2]
theorem dec2n {a : UInt8} (h : ¬ a.toNat < 194) (h2 : a.toNat < 224) : dec [a] = (0, 0) := by simp only [dec]; rw [if_neg (by omega), if_neg h, if_pos h2]
theorem dec2 {a : UInt8} (b : UInt8) (t : List UInt8) (h : ¬ a.toNat < 194) (h2 : a.toNat < 224) : dec (a :: b :: t) = if 128 ≤ b.toNat ∧ b.toNat ≤ 191 then ((a.toNat - 192) * 64 + (b.toNat - 128), 2) else (0, 0) := by
  simp only [dec]; rw [if_neg (by omega), if_neg h, if_pos h2]
theorem dec3 {a : UInt8} (b c : UInt8) (t : List UInt8) (h : ¬ a.toNat < 224) (h2 : a.toNat < 240) : dec (a :: b :: c :: t) = if lo2 a.toNat ≤ b.toNat ∧ b.toNat ≤ hi2 a.toNat ∧ 128 ≤ c.toNat ∧ c.toNat ≤ 191 then ((a.toNat - 224) * 4096 + (b.toNat - 128) * 64 + (c.toNat - 128), 3) else (0, 0) := by
  simp only [dec]; rw [if_neg (by omega), if_neg (by omega), if_neg h, if_pos h2]
theorem dec4 {a : UInt8} (b c d : UInt8) (t : List UInt8) (h : ¬ a.toNat < 240) (h2 : a.toNat < 245) : dec (a :: b :: c :: d :: t) = if lo2 a.toNat ≤ b.toNat ∧ b.toNat ≤ hi2 a.toNat ∧ 128 ≤ c.toNat ∧ c.toNat ≤ 191 ∧ 128 ≤ d.toNat ∧ d.toNat ≤ 191 then ((a.toNat - 240) * 262144 + (b.toNat - 128) * 4096 + (c.toNat - 128) * 64 + (d.toNat - 128), 4) else (0, 0) := by
  simp only [dec]; rw [if_neg (by omega), if_neg (by omega), if_neg (by omega), if_neg h, if_pos h2]
theorem dec5 {a : UInt8} (t : List UInt8) (h : ¬ a.toNat < 245) : dec (a :: t) = (0, 0) := by
  simp only [dec]; rw [if_neg (by omega), if_neg (by omega), if_neg (by omega), if_neg (by omega), if_neg h]

def beginsB (s : List UInt8) : Bool :=
  match s with
  | [] => false
  | a :: _ => decide (s.length < rn a.toNat) && (decide ((dec (s ++ List.replicate (rn a.toNat - s.length) 128)).2 ≠ 0) || decide ((dec (s ++ List.replicate (rn a.toNat - s.length) 191)).2 ≠ 0))
def begGo (l : List UInt8) : Nat → Nat
  | 0 => 0
  | n + 1 => if beginsB (l.take (n + 1)) = true then n + 1 else begGo l n
def beg (l : List UInt8) : Nat := begGo l (min 3 l.length)

theorem rn_0 {a : Nat} (h : a < 192 ∨ 248 ≤ a) : rn a = 0 := by unfold rn; (repeat' split) <;> omega
theorem rn_2 {a : Nat} (h : ¬ a < 192) (h2 : a < 224) : rn a = 2 := by unfold rn; (repeat' split) <;> omega
theorem rn_3 {a : Nat} (h : ¬ a < 224) (h2 : a < 240) : rn a = 3 := by unfold rn; (repeat' split) <;> omega
theorem rn_4 {a : Nat} (h : ¬ a < 240) (h2 : a < 248) : rn a = 4 := by unfold rn; (repeat' split) <;> omega

/-- Beginnings of less than two bytes count as one. -/
theorem begGo_small (l : List UInt8) (n : Nat) (h : ∀ k, 2 ≤ k → k ≤ n → beginsB (l.take k) = false) : max 1 (begGo l n) = 1 := by
  induction n with
  | zero => rfl
  | succ n ih =>
    unfold begGo
    by_cases hn : n = 0
    · subst hn; split <;> rfl
    · rw [if_neg (by rw [h (n + 1) (by omega) (Nat.le_refl _)]; decide)]
      exact ih fun k h1 h2 => h k h1 (by omega)
theorem beginsB_long (a : UInt8) (t : List UInt8) (h : rn a.toNat ≤ (a :: t).length) : beginsB (a :: t) = false := by
  unfold beginsB; simp only []; rw [decide_eq_false (by omega)]; rfl
theorem beginsB_dec (a : UInt8) (t : List UInt8) (h1 : (dec (a :: t ++ List.replicate (rn a.toNat - (a :: t).length) 128)).2 = 0) (h2 : (dec (a :: t ++ List.replicate (rn a.toNat - (a :: t).length) 191)).2 = 0) : beginsB (a :: t) = false := by
  unfold beginsB; simp only []; rw [h1, h2]; simp
theorem beginsB_yes (a : UInt8) (t : List UInt8) (h : (a :: t).length < rn a.toNat) (h1 : (dec (a :: t ++ List.replicate (rn a.toNat - (a :: t).length) 128)).2 ≠ 0) : beginsB (a :: t) = true := by
  unfold beginsB; simp only []; rw [decide_eq_true h, decide_eq_true h1]; rfl

theorem t128 : (128 : UInt8).toNat = 128 := rfl
theorem t191 : (191 : UInt8).toNat = 191 := rfl
/-- Three bytes' first two. -/
theorem begins32 (a b : UInt8) (h : ¬ a.toNat < 224) (h2 : a.toNat < 240) : beginsB [a, b] = decide (lo2 a.toNat ≤ b.toNat ∧ b.toNat ≤ hi2 a.toNat) := by
  have e := rn_3 h h2
  by_cases c : lo2 a.toNat ≤ b.toNat ∧ b.toNat ≤ hi2 a.toNat
  · rw [decide_eq_true c]
    refine beginsB_yes a [b] (by rw [e]; exact Nat.lt_of_sub_eq_succ rfl) ?_
    rw [e]
    show (dec (a :: b :: 128 :: [])).2 ≠ 0
    rw [dec3 _ _ _ h h2, if_pos ⟨c.1, c.2, by decide, by decide⟩]
    exact Nat.succ_ne_zero _
  · rw [decide_eq_false c]
    refine beginsB_dec a [b] ?_ ?_
    · rw [e]
      show (dec (a :: b :: 128 :: [])).2 = 0
      rw [dec3 _ _ _ h h2, if_neg fun q => c ⟨q.1, q.2.1⟩]
    · rw [e]
      show (dec (a :: b :: 191 :: [])).2 = 0
      rw [dec3 _ _ _ h h2, if_neg fun q => c ⟨q.1, q.2.1⟩]
theorem begins42 (a b : UInt8) (h : ¬ a.toNat < 240) (h2 : a.toNat < 245) : beginsB [a, b] = decide (lo2 a.toNat ≤ b.toNat ∧ b.toNat ≤ hi2 a.toNat) := by
  have e := rn_4 h (by omega)
  by_cases c : lo2 a.toNat ≤ b.toNat ∧ b.toNat ≤ hi2 a.toNat
  · rw [decide_eq_true c]
    refine beginsB_yes a [b] (by rw [e]; exact Nat.lt_of_sub_eq_succ rfl) ?_
    rw [e]
    show (dec (a :: b :: 128 :: 128 :: [])).2 ≠ 0
    rw [dec4 _ _ _ _ h h2, if_pos ⟨c.1, c.2, by decide, by decide, by decide, by decide⟩]
    exact Nat.succ_ne_zero _
  · rw [decide_eq_false c]
    refine beginsB_dec a [b] ?_ ?_
    · rw [e]
      show (dec (a :: b :: 128 :: 128 :: [])).2 = 0
      rw [dec4 _ _ _ _ h h2, if_neg fun q => c ⟨q.1, q.2.1⟩]
    · rw [e]
      show (dec (a :: b :: 191 :: 191 :: [])).2 = 0
      rw [dec4 _ _ _ _ h h2, if_neg fun q => c ⟨q.1, q.2.1⟩]
theorem begins43 (a b c : UInt8) (h : ¬ a.toNat < 240) (h2 : a.toNat < 245) : beginsB [a, b, c] = decide (lo2 a.toNat ≤ b.toNat ∧ b.toNat ≤ hi2 a.toNat ∧ 128 ≤ c.toNat ∧ c.toNat ≤ 191) := by
  have e := rn_4 h (by omega)
  by_cases k : lo2 a.toNat ≤ b.toNat ∧ b.toNat ≤ hi2 a.toNat ∧ 128 ≤ c.toNat ∧ c.toNat ≤ 191
  · rw [decide_eq_true k]
    refine beginsB_yes a [b, c] (by rw [e]; exact Nat.lt_of_sub_eq_succ rfl) ?_
    rw [e]
    show (dec (a :: b :: c :: 128 :: [])).2 ≠ 0
    rw [dec4 _ _ _ _ h h2, if_pos ⟨k.1, k.2.1, k.2.2.1, k.2.2.2, by decide, by decide⟩]
    exact Nat.succ_ne_zero _
  · rw [decide_eq_false k]
    refine beginsB_dec a [b, c] ?_ ?_
    · rw [e]
      show (dec (a :: b :: c :: 128 :: [])).2 = 0
      rw [dec4 _ _ _ _ h h2, if_neg fun q => k ⟨q.1, q.2.1, q.2.2.1, q.2.2.2.1⟩]
    · rw [e]
      show (dec (a :: b :: c :: 191 :: [])).2 = 0
      rw [dec4 _ _ _ _ h h2, if_neg fun q => k ⟨q.1, q.2.1, q.2.2.1, q.2.2.2.1⟩]

theorem begGo_hit (l : List UInt8) (n : Nat) (h : beginsB (l.take (n + 1)) = true) : begGo l (n + 1) = n + 1 := by rw [begGo, if_pos h]
theorem begGo_miss (l : List UInt8) (n : Nat) (h : beginsB (l.take (n + 1)) = false) : begGo l (n + 1) = begGo l n := by rw [begGo, if_neg (by rw [h]; decide)]
theorem begGo_one (l : List UInt8) : max 1 (begGo l 1) = 1 := begGo_small l 1 fun k h1 h2 => by omega

theorem scan_bad3 (a : UInt8) (t : List UInt8) (h1 : ¬ a.toNat < 224) (h2 : a.toNat < 240) (h : (dec (a :: t)).2 = 0) :
    ∃ k, scan (a :: t) = (0, k, false) ∧ 1 ≤ k ∧ k ≤ 3 ∧ k = max 1 (beg (a :: t)) := by
  have hs : scan (a :: t) = scanGo 3 t 1 (a.toNat % 16) (lo2 a.toNat) (hi2 a.toNat) := by
    simp only [scan]; rw [wid3 h1 h2, if_neg (by omega)]
  rw [hs]
  match t, h with
  | [], _ => exact ⟨1, scanGo_nil _ _ _ _ _ (by omega), by omega, by omega, (begGo_one [a]).symm⟩
  | [b], _ =>
    rw [scanGo_lt _ _ _ _ _ _ _ (by omega)]
    by_cases c : lo2 a.toNat ≤ b.toNat ∧ b.toNat ≤ hi2 a.toNat
    · rw [if_neg (by omega)]
      refine ⟨2, scanGo_nil _ _ _ _ _ (by omega), by omega, by omega, ?_⟩
      show 2 = max 1 (begGo [a, b] (1 + 1))
      rw [begGo_hit [a, b] 1 ((begins32 a b h1 h2).trans (decide_eq_true c))]; rfl
    · rw [if_pos (by omega)]
      refine ⟨1, rfl, by omega, by omega, ?_⟩
      show 1 = max 1 (begGo [a, b] (1 + 1))
      rw [begGo_miss [a, b] 1 ((begins32 a b h1 h2).trans (decide_eq_false c)), begGo_one]
  | b :: c :: t, h =>
    have e3 : beg (a :: b :: c :: t) = begGo (a :: b :: c :: t) (1 + 1) := by
      have : min 3 (a :: b :: c :: t).length = 2 + 1 := by simp
      rw [beg, this]
      exact begGo_miss _ _ (beginsB_long a [b, c] (by rw [rn_3 h1 h2]; exact Nat.le_refl 3))
    rw [e3, scanGo_lt _ _ _ _ _ _ _ (by omega)]
    rw [dec3 _ _ _ h1 h2] at h
    by_cases k : lo2 a.toNat ≤ b.toNat ∧ b.toNat ≤ hi2 a.toNat
    · have k2 : ¬ (128 ≤ c.toNat ∧ c.toNat ≤ 191) := fun q => by rw [if_pos ⟨k.1, k.2, q⟩] at h; exact absurd h (Nat.succ_ne_zero _)
      rw [if_neg (by omega), scanGo_lt _ _ _ _ _ _ _ (by omega), if_pos (by omega)]
      refine ⟨2, rfl, by omega, by omega, ?_⟩
      rw [begGo_hit (a :: b :: c :: t) 1 ((begins32 a b h1 h2).trans (decide_eq_true k))]; rfl
    · rw [if_pos (by omega)]
      refine ⟨1, rfl, by omega, by omega, ?_⟩
      rw [begGo_miss (a :: b :: c :: t) 1 ((begins32 a b h1 h2).trans (decide_eq_false k)), begGo_one]
theorem scan_bad4 (a : UInt8) (t : List UInt8) (h1 : ¬ a.toNat < 240) (h2 : a.toNat < 245) (h : (dec (a :: t)).2 = 0) :
    ∃ k, scan (a :: t) = (0, k, false) ∧ 1 ≤ k ∧ k ≤ 3 ∧ k = max 1 (beg (a :: t)) := by
  have hs : scan (a :: t) = scanGo 4 t 1 (a.toNat % 8) (lo2 a.toNat) (hi2 a.toNat) := by
    simp only [scan]; rw [wid4 h1 h2, if_neg (by omega)]
  rw [hs]
  match t, h with
  | [], _ => exact ⟨1, scanGo_nil _ _ _ _ _ (by omega), by omega, by omega, (begGo_one [a]).symm⟩
  | [b], _ =>
    rw [scanGo_lt _ _ _ _ _ _ _ (by omega)]
    by_cases c : lo2 a.toNat ≤ b.toNat ∧ b.toNat ≤ hi2 a.toNat
    · rw [if_neg (by omega)]
      refine ⟨2, scanGo_nil _ _ _ _ _ (by omega), by omega, by omega, ?_⟩
      show 2 = max 1 (begGo [a, b] (1 + 1))
      rw [begGo_hit [a, b] 1 ((begins42 a b h1 h2).trans (decide_eq_true c))]; rfl
    · rw [if_pos (by omega)]
      refine ⟨1, rfl, by omega, by omega, ?_⟩
      show 1 = max 1 (begGo [a, b] (1 + 1))
      rw [begGo_miss [a, b] 1 ((begins42 a b h1 h2).trans (decide_eq_false c)), begGo_one]
  | b :: c :: t, h =>
    have e3 : beg (a :: b :: c :: t) = begGo (a :: b :: c :: t) (2 + 1) := by
      have : min 3 (a :: b :: c :: t).length = 2 + 1 := by simp
      rw [beg, this]
    rw [e3, scanGo_lt _ _ _ _ _ _ _ (by omega)]
    by_cases k : lo2 a.toNat ≤ b.toNat ∧ b.toNat ≤ hi2 a.toNat
    · rw [if_neg (by omega), scanGo_lt _ _ _ _ _ _ _ (by omega)]
      by_cases k2 : 128 ≤ c.toNat ∧ c.toNat ≤ 191
      · rw [if_neg (by omega)]
        have e4 : max 1 (begGo (a :: b :: c :: t) (2 + 1)) = 3 := by
          rw [begGo_hit (a :: b :: c :: t) 2 ((begins43 a b c h1 h2).trans (decide_eq_true ⟨k.1, k.2, k2⟩))]; rfl
        refine ⟨3, ?_, by omega, by omega, e4.symm⟩
        match t, h with
        | [], _ => exact scanGo_nil _ _ _ _ _ (by omega)
        | d :: t, h =>
          rw [dec4 _ _ _ _ h1 h2] at h
          have k3 : ¬ (128 ≤ d.toNat ∧ d.toNat ≤ 191) := fun q => by rw [if_pos ⟨k.1, k.2, k2.1, k2.2, q⟩] at h; exact absurd h (Nat.succ_ne_zero _)
          rw [scanGo_lt _ _ _ _ _ _ _ (by omega), if_pos (by omega)]
      · rw [if_pos (by omega)]
        refine ⟨2, rfl, by omega, by omega, ?_⟩
        rw [begGo_miss (a :: b :: c :: t) 2 ((begins43 a b c h1 h2).trans (decide_eq_false fun q => k2 q.2.2)), begGo_hit (a :: b :: c :: t) 1 ((begins42 a b h1 h2).trans (decide_eq_true k))]; rfl
    · rw [if_pos (by omega)]
      refine ⟨1, rfl, by omega, by omega, ?_⟩
      rw [begGo_miss (a :: b :: c :: t) 2 ((begins43 a b c h1 h2).trans (decide_eq_false fun q => k ⟨q.1, q.2.1⟩)), begGo_miss (a :: b :: c :: t) 1 ((begins42 a b h1 h2).trans (decide_eq_false k)), begGo_one]

/-- Where nothing is decoded, the scan says so, and its size is the beginning's. -/
theorem scan_none (l : List UInt8) (hl : l ≠ []) (h : (dec l).2 = 0) : ∃ q k, scan l = (q, k, false) ∧ max k 1 = max 1 (beg l) ∧ k ≤ 3 ∧ q ≤ 255 := by
  match l, hl with
  | a :: t, _ =>
    have ha := a.toNat_lt
    by_cases h1 : a.toNat < 128
    · rw [dec1 _ h1] at h; exact absurd h (Nat.succ_ne_zero _)
    by_cases h2 : a.toNat < 194
    · refine ⟨a.toNat, 0, ?_, ?_, by omega, by omega⟩
      · simp only [scan]; rw [wid0 h1 h2]; rfl
      · refine (begGo_small _ _ fun k k1 k2 => ?_).symm
        obtain ⟨k, rfl⟩ : ∃ k', k = k' + 1 := ⟨k - 1, by omega⟩
        rw [List.take_succ_cons]
        refine beginsB_dec a _ ?_ ?_ <;> (rw [List.cons_append, dec0 _ h1 h2])
    by_cases h3 : a.toNat < 224
    · refine ⟨0, 1, ?_, ?_, by omega, by omega⟩
      · simp only [scan]
        rw [wid2 h2 h3, if_neg (by omega)]
        match t, h with
        | [], h => exact scanGo_nil _ _ _ _ _ (by omega)
        | b :: t, h =>
          rw [dec2 _ _ h2 h3] at h
          have : ¬ (128 ≤ b.toNat ∧ b.toNat ≤ 191) := fun c => by rw [if_pos c] at h; exact absurd h (Nat.succ_ne_zero _)
          rw [scanGo_lt _ _ _ _ _ _ _ (by omega), if_pos]
          unfold lo2 hi2
          rw [if_neg (by omega), if_neg (by omega), if_neg (by omega), if_neg (by omega)]
          omega
      · refine (begGo_small _ _ fun k k1 k2 => ?_).symm
        obtain ⟨k, rfl⟩ : ∃ k', k = k' + 1 := ⟨k - 1, by omega⟩
        rw [List.take_succ_cons]
        refine beginsB_long a _ ?_
        rw [rn_2 (by omega) h3, List.length_cons, List.length_take]
        rw [List.length_cons] at k2
        omega
    by_cases h4 : a.toNat < 240
    · obtain ⟨k, e1, e2, e3, e4⟩ := scan_bad3 a t h3 h4 h
      exact ⟨0, k, e1, by omega, e3, by omega⟩
    by_cases h5 : a.toNat < 245
    · obtain ⟨k, e1, e2, e3, e4⟩ := scan_bad4 a t h4 h5 h
      exact ⟨0, k, e1, by omega, e3, by omega⟩
    · refine ⟨a.toNat, 0, ?_, ?_, by omega, by omega⟩
      · simp only [scan]; rw [wid5 h5]; rfl
      · refine (begGo_small _ _ fun k k1 k2 => ?_).symm
        obtain ⟨k, rfl⟩ : ∃ k', k = k' + 1 := ⟨k - 1, by omega⟩
        rw [List.take_succ_cons]
        refine beginsB_dec a _ ?_ ?_ <;> (rw [List.cons_append, dec5 _ h5])

/-! ### the repaired string -/
/-- The points of the repaired string. -/
def rep : Nat → List UInt8 → List Nat
  | 0, _ => []
  | f + 1, l => if l = [] then [] else if (dec l).2 = 0 then 65533 :: rep f (l.drop (max 1 (beg l))) else (dec l).1 :: rep f (l.drop (dec l).2)
def repAll (l : List UInt8) : List Nat := rep l.length l
theorem rep_fuel (n : Nat) : ∀ (f g : Nat) (l : List UInt8), l.length ≤ n → l.length ≤ f → l.length ≤ g → rep f l = rep g l := by
  induction n with
  | zero =>
    intro f g l h _ _
    have : l = [] := List.eq_nil_of_length_eq_zero (by omega)
    subst this
    cases f <;> cases g <;> simp [rep]
  | succ n ih =>
    intro f g l h hf hg
    by_cases hl : l = []
    · subst hl; cases f <;> cases g <;> simp [rep]
    have hp : 0 < l.length := List.length_pos_iff.2 hl
    obtain ⟨f, rfl⟩ : ∃ f', f = f' + 1 := ⟨f - 1, by omega⟩
    obtain ⟨g, rfl⟩ : ∃ g', g = g' + 1 := ⟨g - 1, by omega⟩
    rw [rep, rep, if_neg hl, if_neg hl]
    split
    · rw [ih f g _ (by rw [List.length_drop]; omega) (by rw [List.length_drop]; omega) (by rw [List.length_drop]; omega)]
    · rename_i hn
      rw [ih f g _ (by rw [List.length_drop]; omega) (by rw [List.length_drop]; omega) (by rw [List.length_drop]; omega)]
theorem repAll_nil : repAll [] = [] := rfl
theorem repAll_bad (l : List UInt8) (hl : l ≠ []) (h : (dec l).2 = 0) : repAll l = 65533 :: repAll (l.drop (max 1 (beg l))) := by
  have hp : 0 < l.length := List.length_pos_iff.2 hl
  obtain ⟨f, hf⟩ : ∃ f', l.length = f' + 1 := ⟨l.length - 1, by omega⟩
  rw [repAll, hf, rep, if_neg hl, if_pos h, repAll]
  rw [rep_fuel f f (l.drop (max 1 (beg l))).length _ (by rw [List.length_drop]; omega) (by rw [List.length_drop]; omega) (Nat.le_refl _)]
theorem repAll_ok (l : List UInt8) (hl : l ≠ []) (h : (dec l).2 ≠ 0) : repAll l = (dec l).1 :: repAll (l.drop (dec l).2) := by
  have hp : 0 < l.length := List.length_pos_iff.2 hl
  obtain ⟨f, hf⟩ : ∃ f', l.length = f' + 1 := ⟨l.length - 1, by omega⟩
  rw [repAll, hf, rep, if_neg hl, if_neg h, repAll]
  rw [rep_fuel f f (l.drop (dec l).2).length _ (by rw [List.length_drop]; omega) (by rw [List.length_drop]; omega) (Nat.le_refl _)]
theorem repAll_pts (n : Nat) : ∀ (l : List UInt8), l.length ≤ n → Pts (repAll l) ∧ (repAll l).length ≤ l.length := by
  induction n with
  | zero =>
    intro l h
    have : l = [] := List.eq_nil_of_length_eq_zero (by omega)
    subst this
    exact ⟨fun _ h => (by cases h), Nat.le_refl _⟩
  | succ n ih =>
    intro l h
    by_cases hl : l = []
    · subst hl; exact ⟨fun _ h => (by cases h), Nat.le_refl _⟩
    have hp : 0 < l.length := List.length_pos_iff.2 hl
    by_cases hd : (dec l).2 = 0
    · rw [repAll_bad l hl hd]
      obtain ⟨q1, q2⟩ := ih (l.drop (max 1 (beg l))) (by rw [List.length_drop]; omega)
      refine ⟨fun p hp => ?_, ?_⟩
      · rcases List.mem_cons.1 hp with rfl | hp
        · decide
        · exact q1 p hp
      · rw [List.length_drop] at q2; rw [List.length_cons]; omega
    · rw [repAll_ok l hl hd]
      obtain ⟨q1, q2⟩ := ih (l.drop (dec l).2) (by rw [List.length_drop]; omega)
      obtain ⟨h1, h2, h3⟩ := dec_some l (dec l).1 (dec l).2 rfl hd
      refine ⟨fun p hp => ?_, ?_⟩
      · rcases List.mem_cons.1 hp with rfl | hp
        · exact h1
        · exact q1 p hp
      · rw [List.length_drop] at q2; rw [List.length_cons]; omega
/-- A string's valid beginning is left as it is. -/
theorem repAll_bytes : ∀ (P : List Nat) (bad : List UInt8), Pts P → repAll (bytes P ++ bad) = P ++ repAll bad
  | [], _, _ => rfl
  | p :: P, bad, h => by
    have hp := enc_pos p
    have hd := dec_enc p (h p (by simp)) (bytes P ++ bad)
    rw [bytes_cons, List.append_assoc]
    rw [repAll_ok _ (by intro e; have := congrArg List.length e; rw [List.length_append, List.length_nil] at this; omega) (by rw [hd]; simp only; omega), hd]
    simp only []
    rw [List.drop_left, repAll_bytes P bad (fun x hx => h x (by simp [hx]))]; rfl

/-! ### the order of the bytes is that of the points -/
open Go.Op (bytesLess)
def Less (a b : List UInt8) : Prop := ∀ s t : List UInt8, bytesLess (a ++ s) (b ++ t) = true ∧ bytesLess (b ++ t) (a ++ s) = false
theorem less_head {x y : UInt8} (h : x.toNat < y.toNat) (a b : List UInt8) : Less (x :: a) (y :: b) := by
  intro s t
  have h1 : x < y := UInt8.lt_iff_toNat_lt.2 h
  have h2 : ¬ y < x := fun q => by have := UInt8.lt_iff_toNat_lt.1 q; omega
  have h3 : (y == x) = false := by rw [beq_eq_false_iff_ne]; intro q; subst q; omega
  simp [bytesLess, h1, h2, h3]
theorem less_cons {a b : List UInt8} (x : UInt8) (h : Less a b) : Less (x :: a) (x :: b) := by
  intro s t
  have h2 : ¬ x < x := fun q => by have := UInt8.lt_iff_toNat_lt.1 q; omega
  simp [bytesLess, h2, h s t]
theorem bytesLess_append : ∀ (c a b : List UInt8), bytesLess (c ++ a) (c ++ b) = bytesLess a b
  | [], _, _ => rfl
  | x :: c, a, b => by
    have h2 : ¬ x < x := fun q => by have := UInt8.lt_iff_toNat_lt.1 q; omega
    simp [bytesLess, h2, bytesLess_append c a b]
theorem lt8 {m n : Nat} (h : m < n) (hn : n < 256) : (Nat.toUInt8 m).toNat < (Nat.toUInt8 n).toNat := by
  rw [u8_toNat m (by omega), u8_toNat n hn]; exact h
theorem enc_less (p q : Nat) (hq : q ≤ 1114111) (h : p < q) : Less (enc p) (enc q) := by
  unfold enc encN
  by_cases p1 : p < 128
  · rw [if_pos p1]
    by_cases q1 : q < 128
    · rw [if_pos q1]; exact less_head (lt8 h (by omega)) _ _
    rw [if_neg q1]
    by_cases q2 : q < 2048
    · rw [if_pos q2]; exact less_head (lt8 (by omega) (by omega)) _ _
    rw [if_neg q2]
    by_cases q3 : q < 65536
    · rw [if_pos q3]; exact less_head (lt8 (by omega) (by omega)) _ _
    rw [if_neg q3]; exact less_head (lt8 (by omega) (by omega)) _ _
  rw [if_neg p1, if_neg (show ¬ q < 128 by omega)]
  by_cases p2 : p < 2048
  · rw [if_pos p2]
    by_cases q2 : q < 2048
    · rw [if_pos q2]
      by_cases e : p / 64 = q / 64
      · rw [e]; exact less_cons _ (less_head (lt8 (by omega) (by omega)) _ _)
      · exact less_head (lt8 (by omega) (by omega)) _ _
    rw [if_neg q2]
    by_cases q3 : q < 65536
    · rw [if_pos q3]; exact less_head (lt8 (by omega) (by omega)) _ _
    rw [if_neg q3]; exact less_head (lt8 (by omega) (by omega)) _ _
  rw [if_neg p2, if_neg (show ¬ q < 2048 by omega)]
  by_cases p3 : p < 65536
  · rw [if_pos p3]
    by_cases q3 : q < 65536
    · rw [if_pos q3]
      by_cases e : p / 4096 = q / 4096
      · rw [e]
        refine less_cons _ ?_
        by_cases e2 : p / 64 % 64 = q / 64 % 64
        · rw [e2]; exact less_cons _ (less_head (lt8 (by omega) (by omega)) _ _)
        · exact less_head (lt8 (by omega) (by omega)) _ _
      · exact less_head (lt8 (by omega) (by omega)) _ _
    rw [if_neg q3]; exact less_head (lt8 (by omega) (by omega)) _ _
  rw [if_neg p3, if_neg (show ¬ q < 65536 by omega)]
  by_cases e : p / 262144 = q / 262144
  · rw [e]
    refine less_cons _ ?_
    by_cases e2 : p / 4096 % 64 = q / 4096 % 64
    · rw [e2]
      refine less_cons _ ?_
      by_cases e3 : p / 64 % 64 = q / 64 % 64
      · rw [e3]; exact less_cons _ (less_head (lt8 (by omega) (by omega)) _ _)
      · exact less_head (lt8 (by omega) (by omega)) _ _
    · exact less_head (lt8 (by omega) (by omega)) _ _
  · exact less_head (lt8 (by omega) (by omega)) _ _

/-- The bytewise order, read at the first place at which the points differ. -/
theorem order_at (P Q : List Nat) (hP : Pts P) (hQ : Pts Q) (i : Nat) (hp : i < P.length) (hq : i < Q.length) (heq : P.take i = Q.take i) (hne : P[i] ≠ Q[i]) : bytesLess (bytes P) (bytes Q) = decide (P[i] < Q[i]) := by
  have e1 : bytes P = bytes (P.take i) ++ (enc P[i] ++ bytes (P.drop (i + 1))) := by
    rw [← drop_cons P i hp, ← bytes_append, List.take_append_drop]
  have e2 : bytes Q = bytes (P.take i) ++ (enc Q[i] ++ bytes (Q.drop (i + 1))) := by
    rw [heq, ← drop_cons Q i hq, ← bytes_append, List.take_append_drop]
  rw [e1, e2, bytesLess_append]
  by_cases h : P[i] < Q[i]
  · rw [decide_eq_true h]; exact (enc_less _ _ (hQ.get i hq).1 h _ _).1
  · rw [decide_eq_false h]; exact (enc_less _ _ (hP.get i hp).1 (by omega) _ _).2
theorem order_prefix (P Q : List Nat) (h : P.take (min P.length Q.length) = Q.take (min P.length Q.length)) : bytesLess (bytes P) (bytes Q) = decide (P.length < Q.length) := by
  by_cases hl : P.length < Q.length
  · rw [decide_eq_true hl]
    have e : min P.length Q.length = P.length := by omega
    rw [e, List.take_length] at h
    have e2 : bytes Q = bytes P ++ bytes (Q.drop P.length) := by
      conv => rhs; rw [h]
      rw [← bytes_append]
      have : (List.take P.length Q).length = P.length := by rw [List.length_take]; omega
      rw [this, List.take_append_drop]
    rw [e2]
    have := bytesLess_append (bytes P) [] (bytes (Q.drop P.length))
    rw [List.append_nil] at this
    rw [this, List.drop_eq_getElem_cons hl, bytes_cons]
    have hp := enc_pos Q[P.length]
    match hx : enc Q[P.length], hp with
    | x :: r, _ => rfl
  · rw [decide_eq_false hl]
    have e : min P.length Q.length = Q.length := by omega
    rw [e, List.take_length] at h
    have e2 : bytes P = bytes Q ++ bytes (P.drop Q.length) := by
      conv => rhs; rw [← h]
      rw [← bytes_append]
      have : (List.take Q.length P).length = Q.length := by rw [List.length_take]; omega
      rw [this, List.take_append_drop]
    rw [e2]
    have := bytesLess_append (bytes Q) (bytes (P.drop Q.length)) []
    rw [List.append_nil] at this
    rw [this]
    cases bytes (P.drop Q.length) <;> rfl
end Go.Proofs.Ytmpklkhjipclmaa.U

/- The model's decoder, valid strings, plainly: of no seat's numbers. -/
namespace Go.Proofs.Ytmpklkhjipclmaa.U
open Go.Lib

/-- The model's decoder over a list of bytes. -/
def decN (r : List UInt8) : Nat × Nat := decodeN r.length (r.getD 0 0).toNat (r.getD 1 0).toNat (r.getD 2 0).toNat (r.getD 3 0).toNat

set_option maxRecDepth 100000 in
set_option maxHeartbeats 4000000 in
theorem decN_enc (p : Nat) (h : isPt p) (t : List UInt8) : decN (enc p ++ t) = (p, (enc p).length) := by
  obtain ⟨h1, h2⟩ := h
  unfold enc encN decN
  split
  · rename_i h3
    simp only [List.map_cons, List.map_nil, List.cons_append, List.nil_append, List.getD_cons_zero, u8_toNat p (by omega)]
    unfold decodeN
    rw [if_pos h3]; rfl
  · split
    · rename_i h3 h4
      simp only [List.map_cons, List.map_nil, List.cons_append, List.nil_append, List.getD_cons_zero, List.getD_cons_succ, u8_toNat (192 + p / 64) (by omega), u8_toNat (128 + p % 64) (by omega), List.length_cons, List.length_nil]
      have e : (192 + p / 64) % 32 * 64 + (128 + p % 64) % 64 = p := by omega
      unfold decodeN
      rw [if_neg (by omega), if_pos (by omega), if_pos (by rw [e]; omega), e]
    · split
      · rename_i h3 h4 h5
        simp only [List.map_cons, List.map_nil, List.cons_append, List.nil_append, List.getD_cons_zero, List.getD_cons_succ, u8_toNat (224 + p / 4096) (by omega), u8_toNat (128 + p / 64 % 64) (by omega), u8_toNat (128 + p % 64) (by omega), List.length_cons, List.length_nil]
        have e : (224 + p / 4096) % 16 * 4096 + (128 + p / 64 % 64) % 64 * 64 + (128 + p % 64) % 64 = p := by omega
        unfold decodeN
        rw [if_neg (by omega), if_neg (by omega), if_pos (by omega), if_pos (by rw [e]; omega), e]
      · rename_i h3 h4 h5
        simp only [List.map_cons, List.map_nil, List.cons_append, List.nil_append, List.getD_cons_zero, List.getD_cons_succ, u8_toNat (240 + p / 262144) (by omega), u8_toNat (128 + p / 4096 % 64) (by omega), u8_toNat (128 + p / 64 % 64) (by omega), u8_toNat (128 + p % 64) (by omega), List.length_cons, List.length_nil]
        have e : (240 + p / 262144) % 8 * 262144 + (128 + p / 4096 % 64) % 64 * 4096 + (128 + p / 64 % 64) % 64 * 64 + (128 + p % 64) % 64 = p := by omega
        unfold decodeN
        rw [if_neg (by omega), if_neg (by omega), if_neg (by omega), if_pos (by omega), if_pos (by rw [e]; omega), e]

theorem enc1 {a : UInt8} (h : a.toNat < 128) : enc a.toNat = [a] := by
  unfold enc encN; rw [if_pos h, List.map_cons, List.map_nil, ← u8_of a _ rfl]
theorem enc2 {a b : UInt8} {p : Nat} (h1 : 128 ≤ p) (h2 : p < 2048) (ha : a.toNat = 192 + p / 64) (hb : b.toNat = 128 + p % 64) : enc p = [a, b] := by
  unfold enc encN; rw [if_neg (by omega), if_pos h2, List.map_cons, List.map_cons, List.map_nil, ← u8_of a _ ha, ← u8_of b _ hb]
theorem enc3 {a b c : UInt8} {p : Nat} (h1 : 2048 ≤ p) (h2 : p < 65536) (ha : a.toNat = 224 + p / 4096) (hb : b.toNat = 128 + p / 64 % 64) (hc : c.toNat = 128 + p % 64) : enc p = [a, b, c] := by
  unfold enc encN; rw [if_neg (by omega), if_neg (by omega), if_pos h2, List.map_cons, List.map_cons, List.map_cons, List.map_nil, ← u8_of a _ ha, ← u8_of b _ hb, ← u8_of c _ hc]
theorem enc4 {a b c d : UInt8} {p : Nat} (h1 : 65536 ≤ p) (ha : a.toNat = 240 + p / 262144) (hb : b.toNat = 128 + p / 4096 % 64) (hc : c.toNat = 128 + p / 64 % 64) (hd : d.toNat = 128 + p % 64) : enc p = [a, b, c, d] := by
  unfold enc encN; rw [if_neg (by omega), if_neg (by omega), if_neg (by omega), List.map_cons, List.map_cons, List.map_cons, List.map_cons, List.map_nil, ← u8_of a _ ha, ← u8_of b _ hb, ← u8_of c _ hc, ← u8_of d _ hd]

set_option maxRecDepth 100000 in
set_option maxHeartbeats 4000000 in
theorem decN_cases (r : List UInt8) (h : r ≠ []) : decN r = (65533, 1) ∨ ∃ q t, isPt q ∧ r = enc q ++ t := by
  match r, h with
  | a :: t, _ =>
    have ha := a.toNat_lt
    by_cases h1 : a.toNat < 128
    · exact .inr ⟨a.toNat, t, ⟨by omega, by omega⟩, by rw [enc1 h1]; rfl⟩
    unfold decN decodeN
    simp only [List.getD_cons_zero]
    rw [if_neg h1]
    split
    · rename_i h2
      obtain ⟨h2, h3, h4⟩ := h2
      match t with
      | [] => simp at h3
      | b :: t =>
        have hb := b.toNat_lt
        simp only [List.getD_cons_succ, List.getD_cons_zero] at h4 ⊢
        split
        · exact .inr ⟨a.toNat % 32 * 64 + b.toNat % 64, t, ⟨by omega, by omega⟩, by rw [enc2 (a := a) (b := b) (by omega) (by omega) (by omega) (by omega)]; rfl⟩
        · exact .inl rfl
    · split
      · rename_i h2
        obtain ⟨h2, ⟨h3, h4⟩, ⟨h5, h6⟩⟩ := h2
        match t with
        | [] => simp at h3
        | [b] => simp at h5
        | b :: c :: t =>
          have hb := b.toNat_lt
          have hc := c.toNat_lt
          simp only [List.getD_cons_succ, List.getD_cons_zero] at h4 h6 ⊢
          split
          · rename_i h7
            exact .inr ⟨a.toNat % 16 * 4096 + b.toNat % 64 * 64 + c.toNat % 64, t, ⟨by omega, by omega⟩, by rw [enc3 (a := a) (b := b) (c := c) (by omega) (by omega) (by omega) (by omega) (by omega)]; rfl⟩
          · exact .inl rfl
      · split
        · rename_i h2
          obtain ⟨h2, ⟨h3, h4⟩, ⟨h5, h6⟩, ⟨h8, h9⟩⟩ := h2
          match t with
          | [] => simp at h3
          | [b] => simp at h5
          | [b, c] => simp at h8
          | b :: c :: d :: t =>
            have hb := b.toNat_lt
            have hc := c.toNat_lt
            have hd := d.toNat_lt
            simp only [List.getD_cons_succ, List.getD_cons_zero] at h4 h6 h9 ⊢
            split
            · rename_i h7
              exact .inr ⟨a.toNat % 8 * 262144 + b.toNat % 64 * 4096 + c.toNat % 64 * 64 + d.toNat % 64, t, ⟨by omega, by omega⟩, by rw [enc4 (a := a) (b := b) (c := c) (d := d) (by omega) (by omega) (by omega) (by omega) (by omega)]; rfl⟩
            · exact .inl rfl
        · exact .inl rfl

theorem decN_dec (r : List UInt8) (h : r ≠ []) : decN r = if (dec r).2 = 0 then (65533, 1) else dec r := by
  rcases dec_cases r with hd | ⟨q, t, hq, rfl⟩
  · rw [if_pos (by rw [hd])]
    rcases decN_cases r h with h1 | ⟨q, t, hq, rfl⟩
    · exact h1
    · have := enc_pos q
      rw [dec_enc q hq] at hd
      simp only [Prod.mk.injEq] at hd
      omega
  · have := enc_pos q
    rw [decN_enc q hq, dec_enc q hq, if_neg (by simp only []; omega)]

theorem getD_get! (s : ByteArray) (k : Nat) : (s.data.toList.getD k 0) = s.get! k := by
  by_cases h : k < s.size
  · rw [List.getD_eq_getElem?_getD, List.getElem?_eq_getElem (by simpa using h)]
    show _ = s.data[k]!
    rw [getElem!_pos s.data k (by simpa using h)]
    rfl
  · have h1 : s.data.toList.getD k 0 = 0 := by
      rw [List.getD_eq_getElem?_getD, List.getElem?_eq_none (by simpa using h)]; rfl
    rw [h1]
    show _ = s.data[k]!
    rw [getElem!_neg]
    · rfl
    · simpa using h

/-- The model's decoder at a place: what stands from there on. -/
theorem decode_drop (s : ByteArray) (i : Nat) : Utf8.decode s i = decN (s.data.toList.drop i) := by
  rw [decode_at]
  unfold decN
  simp only [List.getD_eq_getElem?_getD, List.getElem?_drop, List.length_drop]
  simp only [← List.getD_eq_getElem?_getD, getD_get!, Nat.add_zero]
  rfl

theorem decodeL_decN (l : List UInt8) : decodeL l = decN l := by
  unfold decodeL
  rw [decode_drop]; rfl

/-- Valid: nothing is left behind the encodings. -/
theorem validGo_bytes (P : List Nat) (bad : List UInt8) (hP : Pts P) (hb : (dec bad).2 = 0) (f : Nat) (hf : (bytes P ++ bad).length ≤ f) : validGoD f (bytes P ++ bad) = decide (bad = []) := by
  induction P generalizing f with
  | nil =>
    rw [bytes_nil, List.nil_append] at hf ⊢
    cases bad with
    | nil => cases f <;> simp [validGoD]
    | cons a t =>
      obtain _ | f := f
      · simp at hf
      have e := decN_dec (a :: t) (by simp)
      rw [if_pos hb] at e
      unfold validGoD
      rw [if_neg (by simp), decodeL_decN, e]
      simp
  | cons p P ih =>
    have hp := enc_pos p
    have hpt : isPt p := hP p (by simp)
    rw [bytes_cons, List.append_assoc] at hf ⊢
    have hne : enc p ++ (bytes P ++ bad) ≠ [] := by
      intro h; have := congrArg List.length h; rw [List.length_append, List.length_nil] at this; omega
    obtain _ | f := f
    · rw [List.length_append] at hf; omega
    unfold validGoD
    rw [if_neg hne, decodeL_decN, decN_enc p hpt, if_neg, List.drop_left' rfl]
    · exact ih (fun x hx => hP x (by simp [hx])) f (by rw [List.length_append] at hf; omega)
    · rintro ⟨h1, h2⟩
      simp only at h1 h2
      subst h1
      exact absurd h2 (by decide)

theorem validD_bytes (P : List Nat) (bad : List UInt8) (hP : Pts P) (hb : (dec bad).2 = 0) : validD (bytes P ++ bad) = decide (bad = []) :=
  validGo_bytes P bad hP hb _ (Nat.le_refl _)

/-- Counted: at a valid string, its points. -/
theorem runeCountFrom_bytes (s : ByteArray) (P : List Nat) (hP : Pts P) (hs : s.data.toList = bytes P) (k : Nat) (f : Nat) (hk : k ≤ P.length) (hf : s.size ≤ off P k + f) : runeCountFrom s f (off P k) = P.length - k := by
  have hsz : s.size = (bytes P).length := by rw [← hs]; simp
  induction f generalizing k with
  | zero =>
    have : k = P.length := by
      by_cases h : k = P.length
      · exact h
      · have := off_lt P k P.length (by omega) (Nat.le_refl _)
        rw [off_end] at this; omega
    rw [this, Nat.sub_self]; rfl
  | succ f ih =>
    unfold runeCountFrom
    by_cases hlt : k < P.length
    · have h1 := off_lt P k P.length hlt (Nat.le_refl _)
      rw [off_end] at h1
      have h2 := off_succ P k hlt
      have h3 := enc_pos P[k]
      rw [if_pos (by omega), decode_drop, hs]
      have h4 := drop_off P [] k
      rw [List.append_nil, List.append_nil] at h4
      rw [h4, drop_cons P k hlt, decN_enc _ (hP.get k hlt)]
      simp only
      rw [← h2, ih (k + 1) (by omega) (by omega)]
      omega
    · have : k = P.length := by omega
      subst this
      rw [off_end, if_neg (by omega), Nat.sub_self]

theorem runeCount_bytes (s : ByteArray) (P : List Nat) (hP : Pts P) (hs : s.data.toList = bytes P) : runeCount s = P.length := by
  have h := runeCountFrom_bytes s P hP hs 0 s.size (Nat.zero_le _) (by omega)
  rw [off_zero] at h
  exact h
end Go.Proofs.Ytmpklkhjipclmaa.U
