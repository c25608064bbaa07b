/- The model's decoder, valid strings, plainly: of no seat's numbers. -/
import Derived.Test.YtigbmhddkcgjfaaDoorUtf
import Derived.Lib.DecodeN
import Derived.Lib.ValidU
import Derived.Lib.RuneCount
namespace Go.Proofs.YtigbmhddkcgjfaaDoor.U
open Go.Lib

/-- The model's decoder over a list of bytes. -/
def decN (r : List UInt8) : Nat × Nat := decodeN r.length (r.getD 0 0).toNat (r.getD 1 0).toNat (r.getD 2 0).toNat (r.getD 3 0).toNat

set_option maxRecDepth 100000 in
set_option maxHeartbeats 4000000 in
theorem decN_enc (p : Nat) (h : isPt p) (t : List UInt8) : decN (enc p ++ t) = (p, (enc p).length) := by
  obtain ⟨h1, h2⟩ := h
  unfold enc encN decN
  split
  · rename_i h3
    simp only [List.map_cons, List.map_nil, List.cons_append, List.nil_append, List.getD_cons_zero, u8_toNat p (by omega)]
    unfold decodeN
    rw [if_pos h3]; rfl
  · split
    · rename_i h3 h4
      simp only [List.map_cons, List.map_nil, List.cons_append, List.nil_append, List.getD_cons_zero, List.getD_cons_succ, u8_toNat (192 + p / 64) (by omega), u8_toNat (128 + p % 64) (by omega), List.length_cons, List.length_nil]
      have e : (192 + p / 64) % 32 * 64 + (128 + p % 64) % 64 = p := by omega
      unfold decodeN
      rw [if_neg (by omega), if_pos (by omega), if_pos (by rw [e]; omega), e]
    · split
      · rename_i h3 h4 h5
        simp only [List.map_cons, List.map_nil, List.cons_append, List.nil_append, List.getD_cons_zero, List.getD_cons_succ, u8_toNat (224 + p / 4096) (by omega), u8_toNat (128 + p / 64 % 64) (by omega), u8_toNat (128 + p % 64) (by omega), List.length_cons, List.length_nil]
        have e : (224 + p / 4096) % 16 * 4096 + (128 + p / 64 % 64) % 64 * 64 + (128 + p % 64) % 64 = p := by omega
        unfold decodeN
        rw [if_neg (by omega), if_neg (by omega), if_pos (by omega), if_pos (by rw [e]; omega), e]
      · rename_i h3 h4 h5
        simp only [List.map_cons, List.map_nil, List.cons_append, List.nil_append, List.getD_cons_zero, List.getD_cons_succ, u8_toNat (240 + p / 262144) (by omega), u8_toNat (128 + p / 4096 % 64) (by omega), u8_toNat (128 + p / 64 % 64) (by omega), u8_toNat (128 + p % 64) (by omega), List.length_cons, List.length_nil]
        have e : (240 + p / 262144) % 8 * 262144 + (128 + p / 4096 % 64) % 64 * 4096 + (128 + p / 64 % 64) % 64 * 64 + (128 + p % 64) % 64 = p := by omega
        unfold decodeN
        rw [if_neg (by omega), if_neg (by omega), if_neg (by omega), if_pos (by omega), if_pos (by rw [e]; omega), e]

theorem enc1 {a : UInt8} (h : a.toNat < 128) : enc a.toNat = [a] := by
  unfold enc encN; rw [if_pos h, List.map_cons, List.map_nil, ← u8_of a _ rfl]
theorem enc2 {a b : UInt8} {p : Nat} (h1 : 128 ≤ p) (h2 : p < 2048) (ha : a.toNat = 192 + p / 64) (hb : b.toNat = 128 + p % 64) : enc p = [a, b] := by
  unfold enc encN; rw [if_neg (by omega), if_pos h2, List.map_cons, List.map_cons, List.map_nil, ← u8_of a _ ha, ← u8_of b _ hb]
theorem enc3 {a b c : UInt8} {p : Nat} (h1 : 2048 ≤ p) (h2 : p < 65536) (ha : a.toNat = 224 + p / 4096) (hb : b.toNat = 128 + p / 64 % 64) (hc : c.toNat = 128 + p % 64) : enc p = [a, b, c] := by
  unfold enc encN; rw [if_neg (by omega), if_neg (by omega), if_pos h2, List.map_cons, List.map_cons, List.map_cons, List.map_nil, ← u8_of a _ ha, ← u8_of b _ hb, ← u8_of c _ hc]
theorem enc4 {a b c d : UInt8} {p : Nat} (h1 : 65536 ≤ p) (ha : a.toNat = 240 + p / 262144) (hb : b.toNat = 128 + p / 4096 % 64) (hc : c.toNat = 128 + p / 64 % 64) (hd : d.toNat = 128 + p % 64) : enc p = [a, b, c, d] := by
  unfold enc encN; rw [if_neg (by omega), if_neg (by omega), if_neg (by omega), List.map_cons, List.map_cons, List.map_cons, List.map_cons, List.map_nil, ← u8_of a _ ha, ← u8_of b _ hb, ← u8_of c _ hc, ← u8_of d _ hd]

set_option maxRecDepth 100000 in
set_option maxHeartbeats 4000000 in
theorem decN_cases (r : List UInt8) (h : r ≠ []) : decN r = (65533, 1) ∨ ∃ q t, isPt q ∧ r = enc q ++ t := by
  match r, h with
  | a :: t, _ =>
    have ha := a.toNat_lt
    by_cases h1 : a.toNat < 128
    · exact .inr ⟨a.toNat, t, ⟨by omega, by omega⟩, by rw [enc1 h1]; rfl⟩
    unfold decN decodeN
    simp only [List.getD_cons_zero]
    rw [if_neg h1]
    split
    · rename_i h2
      obtain ⟨h2, h3, h4⟩ := h2
      match t with
      | [] => simp at h3
      | b :: t =>
        have hb := b.toNat_lt
        simp only [List.getD_cons_succ, List.getD_cons_zero] at h4 ⊢
        split
        · exact .inr ⟨a.toNat % 32 * 64 + b.toNat % 64, t, ⟨by omega, by omega⟩, by rw [enc2 (a := a) (b := b) (by omega) (by omega) (by omega) (by omega)]; rfl⟩
        · exact .inl rfl
    · split
      · rename_i h2
        obtain ⟨h2, ⟨h3, h4⟩, ⟨h5, h6⟩⟩ := h2
        match t with
        | [] => simp at h3
        | [b] => simp at h5
        | b :: c :: t =>
          have hb := b.toNat_lt
          have hc := c.toNat_lt
          simp only [List.getD_cons_succ, List.getD_cons_zero] at h4 h6 ⊢
          split
          · rename_i h7
            exact .inr ⟨a.toNat % 16 * 4096 + b.toNat % 64 * 64 + c.toNat % 64, t, ⟨by omega, by omega⟩, by rw [enc3 (a := a) (b := b) (c := c) (by omega) (by omega) (by omega) (by omega) (by omega)]; rfl⟩
          · exact .inl rfl
      · split
        · rename_i h2
          obtain ⟨h2, ⟨h3, h4⟩, ⟨h5, h6⟩, ⟨h8, h9⟩⟩ := h2
          match t with
          | [] => simp at h3
          | [b] => simp at h5
          | [b, c] => simp at h8
          | b :: c :: d :: t =>
            have hb := b.toNat_lt
            have hc := c.toNat_lt
            have hd := d.toNat_lt
            simp only [List.getD_cons_succ, List.getD_cons_zero] at h4 h6 h9 ⊢
            split
            · rename_i h7
              exact .inr ⟨a.toNat % 8 * 262144 + b.toNat % 64 * 4096 + c.toNat % 64 * 64 + d.toNat % 64, t, ⟨by omega, by omega⟩, by rw [enc4 (a := a) (b := b) (c := c) (d := d) (by omega) (by omega) (by omega) (by omega) (by omega)]; rfl⟩
            · exact .inl rfl
        · exact .inl rfl

theorem decN_dec (r : List UInt8) (h : r ≠ []) : decN r = if (dec r).2 = 0 then (65533, 1) else dec r := by
  rcases dec_cases r with hd | ⟨q, t, hq, rfl⟩
  · rw [if_pos (by rw [hd])]
    rcases decN_cases r h with h1 | ⟨q, t, hq, rfl⟩
    · exact h1
    · have := enc_pos q
      rw [dec_enc q hq] at hd
      simp only [Prod.mk.injEq] at hd
      omega
  · have := enc_pos q
    rw [decN_enc q hq, dec_enc q hq, if_neg (by simp only []; omega)]

theorem getD_get! (s : ByteArray) (k : Nat) : (s.data.toList.getD k 0) = s.get! k := by
  by_cases h : k < s.size
  · rw [List.getD_eq_getElem?_getD, List.getElem?_eq_getElem (by simpa using h)]
    show _ = s.data[k]!
    rw [getElem!_pos s.data k (by simpa using h)]
    rfl
  · have h1 : s.data.toList.getD k 0 = 0 := by
      rw [List.getD_eq_getElem?_getD, List.getElem?_eq_none (by simpa using h)]; rfl
    rw [h1]
    show _ = s.data[k]!
    rw [getElem!_neg]
    · rfl
    · simpa using h

/-- The model's decoder at a place: what stands from there on. -/
theorem decode_drop (s : ByteArray) (i : Nat) : Utf8.decode s i = decN (s.data.toList.drop i) := by
  rw [decode_at]
  unfold decN
  simp only [List.getD_eq_getElem?_getD, List.getElem?_drop, List.length_drop]
  simp only [← List.getD_eq_getElem?_getD, getD_get!, Nat.add_zero]
  rfl

theorem decodeL_decN (l : List UInt8) : decodeL l = decN l := by
  unfold decodeL
  rw [decode_drop]; rfl

/-- Valid: nothing is left behind the encodings. -/
theorem validGo_bytes (P : List Nat) (bad : List UInt8) (hP : Pts P) (hb : (dec bad).2 = 0) (f : Nat) (hf : (bytes P ++ bad).length ≤ f) : validGoD f (bytes P ++ bad) = decide (bad = []) := by
  induction P generalizing f with
  | nil =>
    rw [bytes_nil, List.nil_append] at hf ⊢
    cases bad with
    | nil => cases f <;> simp [validGoD]
    | cons a t =>
      obtain _ | f := f
      · simp at hf
      have e := decN_dec (a :: t) (by simp)
      rw [if_pos hb] at e
      unfold validGoD
      rw [if_neg (by simp), decodeL_decN, e]
      simp
  | cons p P ih =>
    have hp := enc_pos p
    have hpt : isPt p := hP p (by simp)
    rw [bytes_cons, List.append_assoc] at hf ⊢
    have hne : enc p ++ (bytes P ++ bad) ≠ [] := by
      intro h; have := congrArg List.length h; rw [List.length_append, List.length_nil] at this; omega
    obtain _ | f := f
    · rw [List.length_append] at hf; omega
    unfold validGoD
    rw [if_neg hne, decodeL_decN, decN_enc p hpt, if_neg, List.drop_left' rfl]
    · exact ih (fun x hx => hP x (by simp [hx])) f (by rw [List.length_append] at hf; omega)
    · rintro ⟨h1, h2⟩
      simp only at h1 h2
      subst h1
      exact absurd h2 (by decide)

theorem validD_bytes (P : List Nat) (bad : List UInt8) (hP : Pts P) (hb : (dec bad).2 = 0) : validD (bytes P ++ bad) = decide (bad = []) :=
  validGo_bytes P bad hP hb _ (Nat.le_refl _)

/-- Counted: at a valid string, its points. -/
theorem runeCountFrom_bytes (s : ByteArray) (P : List Nat) (hP : Pts P) (hs : s.data.toList = bytes P) (k : Nat) (f : Nat) (hk : k ≤ P.length) (hf : s.size ≤ off P k + f) : runeCountFrom s f (off P k) = P.length - k := by
  have hsz : s.size = (bytes P).length := by rw [← hs]; simp
  induction f generalizing k with
  | zero =>
    have : k = P.length := by
      by_cases h : k = P.length
      · exact h
      · have := off_lt P k P.length (by omega) (Nat.le_refl _)
        rw [off_end] at this; omega
    rw [this, Nat.sub_self]; rfl
  | succ f ih =>
    unfold runeCountFrom
    by_cases hlt : k < P.length
    · have h1 := off_lt P k P.length hlt (Nat.le_refl _)
      rw [off_end] at h1
      have h2 := off_succ P k hlt
      have h3 := enc_pos P[k]
      rw [if_pos (by omega), decode_drop, hs]
      have h4 := drop_off P [] k
      rw [List.append_nil, List.append_nil] at h4
      rw [h4, drop_cons P k hlt, decN_enc _ (hP.get k hlt)]
      simp only
      rw [← h2, ih (k + 1) (by omega) (by omega)]
      omega
    · have : k = P.length := by omega
      subst this
      rw [off_end, if_neg (by omega), Nat.sub_self]

theorem runeCount_bytes (s : ByteArray) (P : List Nat) (hP : Pts P) (hs : s.data.toList = bytes P) : runeCount s = P.length := by
  have h := runeCountFrom_bytes s P hP hs 0 s.size (Nat.zero_le _) (by omega)
  rw [off_zero] at h
  exact h
end Go.Proofs.YtigbmhddkcgjfaaDoor.U
