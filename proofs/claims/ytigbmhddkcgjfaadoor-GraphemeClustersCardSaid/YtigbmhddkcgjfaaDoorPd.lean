/- The reference's decoder of layer 2, plainly. -/
import Derived.Test.YtigbmhddkcgjfaaDoorUd
namespace Go.Proofs.YtigbmhddkcgjfaaDoor.U

def sh (c : Nat) : Nat × Nat :=
  if c < 128 then (1, c) else if 194 ≤ c ∧ c ≤ 223 then (2, c - 192) else if 224 ≤ c ∧ c ≤ 239 then (3, c - 224) else if 240 ≤ c ∧ c ≤ 244 then (4, c - 240) else (0, 0)
def least (n : Nat) : Nat := if n = 2 then 128 else if n = 3 then 2048 else if n = 4 then 65536 else 0
def wrong (n q : Nat) : Prop := q < least n ∨ 1114111 < q ∨ (55296 ≤ q ∧ q ≤ 57343)
instance (n q : Nat) : Decidable (wrong n q) := by unfold wrong; infer_instance
def pd (r : List UInt8) : Nat × Nat :=
  match r with
  | [] => (0, 0)
  | a :: _ =>
    if (sh a.toNat).1 = 0 ∨ r.length < (sh a.toNat).1 then (0, 0)
    else match cgo ((r.take (sh a.toNat).1).drop 1) (sh a.toNat).2 with
      | none => (0, 0)
      | some q => if wrong (sh a.toNat).1 q then (0, 0) else (q, (sh a.toNat).1)

theorem sh1 {c : Nat} (h : c < 128) : sh c = (1, c) := by unfold sh; rw [if_pos h]
theorem sh2 {c : Nat} (h : 194 ≤ c) (h' : c ≤ 223) : sh c = (2, c - 192) := by unfold sh; rw [if_neg (by omega), if_pos ⟨h, h'⟩]
theorem sh3 {c : Nat} (h : 224 ≤ c) (h' : c ≤ 239) : sh c = (3, c - 224) := by unfold sh; rw [if_neg (by omega), if_neg (by omega), if_pos ⟨h, h'⟩]
theorem sh4 {c : Nat} (h : 240 ≤ c) (h' : c ≤ 244) : sh c = (4, c - 240) := by unfold sh; rw [if_neg (by omega), if_neg (by omega), if_neg (by omega), if_pos ⟨h, h'⟩]
theorem sh0 {c : Nat} (h : ¬ c < 128) (h1 : ¬ (194 ≤ c ∧ c ≤ 223)) (h2 : ¬ (224 ≤ c ∧ c ≤ 239)) (h3 : ¬ (240 ≤ c ∧ c ≤ 244)) : sh c = (0, 0) := by
  unfold sh; rw [if_neg h, if_neg h1, if_neg h2, if_neg h3]
theorem cgo_ok {c : UInt8} {t : List UInt8} {p : Nat} (h1 : 128 ≤ c.toNat) (h2 : c.toNat ≤ 191) : cgo (c :: t) p = cgo t (p * 64 + c.toNat - 128) := by
  show (if c.toNat < 128 ∨ 191 < c.toNat then none else cgo t (p * 64 + c.toNat - 128)) = _
  rw [if_neg (by omega)]
theorem cgo_bad {c : UInt8} {t : List UInt8} {p : Nat} (h : c.toNat < 128 ∨ 191 < c.toNat) : cgo (c :: t) p = none := by
  show (if c.toNat < 128 ∨ 191 < c.toNat then none else cgo t (p * 64 + c.toNat - 128)) = _
  rw [if_pos h]

set_option maxHeartbeats 1000000 in
theorem pd_enc (p : Nat) (h : isPt p) (t : List UInt8) : pd (enc p ++ t) = (p, (enc p).length) := by
  obtain ⟨h1, h2⟩ := h
  unfold enc encN
  split
  · rename_i h3
    simp only [List.map_cons, List.map_nil, List.cons_append, List.nil_append, pd, u8_toNat p (by omega), sh1 h3]
    rw [if_neg (by simp)]
    simp only [List.take_succ_cons, List.take_zero, List.drop_succ_cons, List.drop_zero, cgo, List.length_cons, List.length_nil]
    rw [if_neg (by unfold wrong least; simp; omega)]
  · split
    · rename_i h3 h4
      simp only [List.map_cons, List.map_nil, List.cons_append, List.nil_append, pd, u8_toNat (192 + p / 64) (by omega), sh2 (show 194 ≤ 192 + p / 64 by omega) (by omega)]
      rw [if_neg (by simp)]
      simp only [List.take_succ_cons, List.take_zero, List.drop_succ_cons, List.drop_zero, List.length_cons, List.length_nil]
      rw [cgo_ok (by rw [u8_toNat _ (by omega)]; omega) (by rw [u8_toNat _ (by omega)]; omega), u8_toNat _ (by omega)]
      have e : (192 + p / 64 - 192) * 64 + (128 + p % 64) - 128 = p := by omega
      rw [e]
      simp only [cgo]
      rw [if_neg (by unfold wrong least; simp; omega)]
    · split
      · rename_i h3 h4 h5
        simp only [List.map_cons, List.map_nil, List.cons_append, List.nil_append, pd, u8_toNat (224 + p / 4096) (by omega), sh3 (show 224 ≤ 224 + p / 4096 by omega) (by omega)]
        rw [if_neg (by simp)]
        simp only [List.take_succ_cons, List.take_zero, List.drop_succ_cons, List.drop_zero, List.length_cons, List.length_nil]
        rw [cgo_ok (by rw [u8_toNat _ (by omega)]; omega) (by rw [u8_toNat _ (by omega)]; omega), cgo_ok (by rw [u8_toNat _ (by omega)]; omega) (by rw [u8_toNat _ (by omega)]; omega), u8_toNat _ (by omega), u8_toNat _ (by omega)]
        have e : ((224 + p / 4096 - 224) * 64 + (128 + p / 64 % 64) - 128) * 64 + (128 + p % 64) - 128 = p := by omega
        rw [e]
        simp only [cgo]
        rw [if_neg (by unfold wrong least; simp; omega)]
      · rename_i h3 h4 h5
        simp only [List.map_cons, List.map_nil, List.cons_append, List.nil_append, pd, u8_toNat (240 + p / 262144) (by omega), sh4 (show 240 ≤ 240 + p / 262144 by omega) (by omega)]
        rw [if_neg (by simp)]
        simp only [List.take_succ_cons, List.take_zero, List.drop_succ_cons, List.drop_zero, List.length_cons, List.length_nil]
        rw [cgo_ok (by rw [u8_toNat _ (by omega)]; omega) (by rw [u8_toNat _ (by omega)]; omega), cgo_ok (by rw [u8_toNat _ (by omega)]; omega) (by rw [u8_toNat _ (by omega)]; omega), cgo_ok (by rw [u8_toNat _ (by omega)]; omega) (by rw [u8_toNat _ (by omega)]; omega), u8_toNat _ (by omega), u8_toNat _ (by omega), u8_toNat _ (by omega)]
        have e : (((240 + p / 262144 - 240) * 64 + (128 + p / 4096 % 64) - 128) * 64 + (128 + p / 64 % 64) - 128) * 64 + (128 + p % 64) - 128 = p := by omega
        rw [e]
        simp only [cgo]
        rw [if_neg (by unfold wrong least; simp; omega)]

theorem cgo_some {c : UInt8} {t : List UInt8} {p q : Nat} (h : cgo (c :: t) p = some q) : 128 ≤ c.toNat ∧ c.toNat ≤ 191 ∧ cgo t (p * 64 + c.toNat - 128) = some q := by
  unfold cgo at h
  split at h
  · cases h
  · exact ⟨by omega, by omega, h⟩

set_option maxHeartbeats 1000000 in
theorem pd_cases (r : List UInt8) : pd r = (0, 0) ∨ ∃ q t, isPt q ∧ r = enc q ++ t := by
  match r with
  | [] => exact .inl rfl
  | a :: t =>
    have ha := a.toNat_lt
    by_cases h1 : a.toNat < 128
    · exact .inr ⟨a.toNat, t, ⟨by omega, by omega⟩, by rw [enc1 h1]; rfl⟩
    by_cases h2 : 194 ≤ a.toNat ∧ a.toNat ≤ 223
    · simp only [pd, sh2 h2.1 h2.2]
      split
      · exact .inl rfl
      · rename_i hl
        match t with
        | [] => simp at hl
        | b :: t =>
          simp only [List.take_succ_cons, List.take_zero, List.drop_succ_cons, List.drop_zero]
          split
          · exact .inl rfl
          · rename_i q hq
            split
            · exact .inl rfl
            · rename_i hw
              obtain ⟨b1, b2, hq⟩ := cgo_some hq
              simp only [cgo, Option.some.injEq] at hq
              unfold wrong least at hw
              simp at hw
              exact .inr ⟨q, t, ⟨by omega, by omega⟩, by rw [enc2 (a := a) (b := b) (by omega) (by omega) (by omega) (by omega)]; rfl⟩
    by_cases h3 : 224 ≤ a.toNat ∧ a.toNat ≤ 239
    · simp only [pd, sh3 h3.1 h3.2]
      split
      · exact .inl rfl
      · rename_i hl
        match t with
        | [] => simp at hl
        | [b] => simp at hl
        | b :: c :: t =>
          simp only [List.take_succ_cons, List.take_zero, List.drop_succ_cons, List.drop_zero]
          split
          · exact .inl rfl
          · rename_i q hq
            split
            · exact .inl rfl
            · rename_i hw
              obtain ⟨b1, b2, hq⟩ := cgo_some hq
              obtain ⟨c1, c2, hq⟩ := cgo_some hq
              simp only [cgo, Option.some.injEq] at hq
              unfold wrong least at hw
              simp at hw
              exact .inr ⟨q, t, ⟨by omega, by omega⟩, by rw [enc3 (a := a) (b := b) (c := c) (by omega) (by omega) (by omega) (by omega) (by omega)]; rfl⟩
    by_cases h4 : 240 ≤ a.toNat ∧ a.toNat ≤ 244
    · simp only [pd, sh4 h4.1 h4.2]
      split
      · exact .inl rfl
      · rename_i hl
        match t with
        | [] => simp at hl
        | [b] => simp at hl
        | [b, c] => simp at hl
        | b :: c :: d :: t =>
          simp only [List.take_succ_cons, List.take_zero, List.drop_succ_cons, List.drop_zero]
          split
          · exact .inl rfl
          · rename_i q hq
            split
            · exact .inl rfl
            · rename_i hw
              obtain ⟨b1, b2, hq⟩ := cgo_some hq
              obtain ⟨c1, c2, hq⟩ := cgo_some hq
              obtain ⟨d1, d2, hq⟩ := cgo_some hq
              simp only [cgo, Option.some.injEq] at hq
              unfold wrong least at hw
              simp at hw
              exact .inr ⟨q, t, ⟨by omega, by omega⟩, by rw [enc4 (a := a) (b := b) (c := c) (d := d) (by omega) (by omega) (by omega) (by omega) (by omega)]; rfl⟩
    · left
      simp only [pd, sh0 h1 h2 h3 h4]
      rw [if_pos (by simp)]
theorem pd_dec (r : List UInt8) : pd r = dec r := by
  rcases pd_cases r with h | ⟨q, t, hq, rfl⟩
  · rcases dec_cases r with h' | ⟨q, t, hq, rfl⟩
    · rw [h, h']
    · rw [pd_enc _ hq, dec_enc _ hq]
  · rw [pd_enc _ hq, dec_enc _ hq]
end Go.Proofs.YtigbmhddkcgjfaaDoor.U
