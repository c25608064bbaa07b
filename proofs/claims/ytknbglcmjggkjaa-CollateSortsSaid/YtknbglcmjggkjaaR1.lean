import Derived.Test.YtknbglcmjggkjaaMA
import Derived.Test.YtknbglcmjggkjaaML
import Derived.Test.YtknbglcmjggkjaaU1
import Derived.Test.YtknbglcmjggkjaaG1
import Derived.Maps.AppendAt

/- The reference's decoder of layer 2, plainly. -/
namespace Go.Proofs.Ytknbglcmjggkjaa.U

def sh (c : Nat) : Nat × Nat :=
  if c < 128 then (1, c) else if 194 ≤ c ∧ c ≤ 223 then (2, c - 192) else if 224 ≤ c ∧ c ≤ 239 then (3, c - 224) else if 240 ≤ c ∧ c ≤ 244 then (4, c - 240) else (0, 0)
def least (n : Nat) : Nat := if n = 2 then 128 else if n = 3 then 2048 else if n = 4 then 65536 else 0
def wrong (n q : Nat) : Prop := q < least n ∨ 1114111 < q ∨ (55296 ≤ q ∧ q ≤ 57343)
instance (n q : Nat) : Decidable (wrong n q) := by unfold wrong; infer_instance
def pd (r : List UInt8) : Nat × Nat :=
  match r with
  | [] => (0, 0)
  | a :: _ =>
    if (sh a.toNat).1 = 0 ∨ r.length < (sh a.toNat).1 then (0, 0)
    else match cgo ((r.take (sh a.toNat).1).drop 1) (sh a.toNat).2 with
      | none => (0, 0)
      | some q => if wrong (sh a.toNat).1 q then (0, 0) else (q, (sh a.toNat).1)

theorem sh1 {c : Nat} (h : c < 128) : sh c = (1, c) := by unfold sh; rw [if_pos h]
theorem sh2 {c : Nat} (h : 194 ≤ c) (h' : c ≤ 223) : sh c = (2, c - 192) := by unfold sh; rw [if_neg (by omega), if_pos ⟨h, h'⟩]
theorem sh3 {c : Nat} (h : 224 ≤ c) (h' : c ≤ 239) : sh c = (3, c - 224) := by unfold sh; rw [if_neg (by omega), if_neg (by omega), if_pos ⟨h, h'⟩]
theorem sh4 {c : Nat} (h : 240 ≤ c) (h' : c ≤ 244) : sh c = (4, c - 240) := by unfold sh; rw [if_neg (by omega), if_neg (by omega), if_neg (by omega), if_pos ⟨h, h'⟩]
theorem sh0 {c : Nat} (h : ¬ c < 128) (h1 : ¬ (194 ≤ c ∧ c ≤ 223)) (h2 : ¬ (224 ≤ c ∧ c ≤ 239)) (h3 : ¬ (240 ≤ c ∧ c ≤ 244)) : sh c = (0, 0) := by
  unfold sh; rw [if_neg h, if_neg h1, if_neg h2, if_neg h3]
theorem cgo_ok {c : UInt8} {t : List UInt8} {p : Nat} (h1 : 128 ≤ c.toNat) (h2 : c.toNat ≤ 191) : cgo (c :: t) p = cgo t (p * 64 + c.toNat - 128) := by
  show (if c.toNat < 128 ∨ 191 < c.toNat then none else cgo t (p * 64 + c.toNat - 128)) = _
  rw [if_neg (by omega)]
theorem cgo_bad {c : UInt8} {t : List UInt8} {p : Nat} (h : c.toNat < 128 ∨ 191 < c.toNat) : cgo (c :: t) p = none := by
  show (if c.toNat < 128 ∨ 191 < c.toNat then none else cgo t (p * 64 + c.toNat - 128)) = _
  rw [if_pos h]

set_option maxHeartbeats 1000000 in
theorem pd_enc (p : Nat) (h : isPt p) (t : List UInt8) : pd (enc p ++ t) = (p, (enc p).length) := by
  obtain ⟨h1, h2⟩ := h
  unfold enc encN
  split
  · rename_i h3
    simp only [List.map_cons, List.map_nil, List.cons_append, List.nil_append, pd, u8_toNat p (by omega), sh1 h3]
    rw [if_neg (by simp)]
    simp only [List.take_succ_cons, List.take_zero, List.drop_succ_cons, List.drop_zero, cgo, List.length_cons, List.length_nil]
    rw [if_neg (by unfold wrong least; simp; omega)]
  · split
    · rename_i h3 h4
      simp only [List.map_cons, List.map_nil, List.cons_append, List.nil_append, pd, u8_toNat (192 + p / 64) (by omega), sh2 (show 194 ≤ 192 + p / 64 by omega) (by omega)]
      rw [if_neg (by simp)]
      simp only [List.take_succ_cons, List.take_zero, List.drop_succ_cons, List.drop_zero, List.length_cons, List.length_nil]
      rw [cgo_ok (by rw [u8_toNat _ (by omega)]; omega) (by rw [u8_toNat _ (by omega)]; omega), u8_toNat _ (by omega)]
      have e : (192 + p / 64 - 192) * 64 + (128 + p % 64) - 128 = p := by omega
      rw [e]
      simp only [cgo]
      rw [if_neg (by unfold wrong least; simp; omega)]
    · split
      · rename_i h3 h4 h5
        simp only [List.map_cons, List.map_nil, List.cons_append, List.nil_append, pd, u8_toNat (224 + p / 4096) (by omega), sh3 (show 224 ≤ 224 + p / 4096 by omega) (by omega)]
        rw [if_neg (by simp)]
        simp only [List.take_succ_cons, List.take_zero, List.drop_succ_cons, List.drop_zero, List.length_cons, List.length_nil]
        rw [cgo_ok (by rw [u8_toNat _ (by omega)]; omega) (by rw [u8_toNat _ (by omega)]; omega), cgo_ok (by rw [u8_toNat _ (by omega)]; omega) (by rw [u8_toNat _ (by omega)]; omega), u8_toNat _ (by omega), u8_toNat _ (by omega)]
        have e : ((224 + p / 4096 - 224) * 64 + (128 + p / 64 % 64) - 128) * 64 + (128 + p % 64) - 128 = p := by omega
        rw [e]
        simp only [cgo]
        rw [if_neg (by unfold wrong least; simp; omega)]
      · rename_i h3 h4 h5
        simp only [List.map_cons, List.map_nil, List.cons_append, List.nil_append, pd, u8_toNat (240 + p / 262144) (by omega), sh4 (show 240 ≤ 240 + p / 262144 by omega) (by omega)]
        rw [if_neg (by simp)]
        simp only [List.take_succ_cons, List.take_zero, List.drop_succ_cons, List.drop_zero, List.length_cons, List.length_nil]
        rw [cgo_ok (by rw [u8_toNat _ (by omega)]; omega) (by rw [u8_toNat _ (by omega)]; omega), cgo_ok (by rw [u8_toNat _ (by omega)]; omega) (by rw [u8_toNat _ (by omega)]; omega), cgo_ok (by rw [u8_toNat _ (by omega)]; omega) (by rw [u8_toNat _ (by omega)]; omega), u8_toNat _ (by omega), u8_toNat _ (by omega), u8_toNat _ (by omega)]
        have e : (((240 + p / 262144 - 240) * 64 + (128 + p / 4096 % 64) - 128) * 64 + (128 + p / 64 % 64) - 128) * 64 + (128 + p % 64) - 128 = p := by omega
        rw [e]
        simp only [cgo]
        rw [if_neg (by unfold wrong least; simp; omega)]

theorem cgo_some {c : UInt8} {t : List UInt8} {p q : Nat} (h : cgo (c :: t) p = some q) : 128 ≤ c.toNat ∧ c.toNat ≤ 191 ∧ cgo t (p * 64 + c.toNat - 128) = some q := by
  unfold cgo at h
  split at h
  · cases h
  · exact ⟨by omega, by omega, h⟩

set_option maxHeartbeats 1000000 in
theorem pd_cases (r : List UInt8) : pd r = (0, 0) ∨ ∃ q t, isPt q ∧ r = enc q ++ t := by
  match r with
  | [] => exact .inl rfl
  | a :: t =>
    have ha := a.toNat_lt
    by_cases h1 : a.toNat < 128
    · exact .inr ⟨a.toNat, t, ⟨by omega, by omega⟩, by rw [enc1 h1]; rfl⟩
    by_cases h2 : 194 ≤ a.toNat ∧ a.toNat ≤ 223
    · simp only [pd, sh2 h2.1 h2.2]
      split
      · exact .inl rfl
      · rename_i hl
        match t with
        | [] => simp at hl
        | b :: t =>
          simp only [List.take_succ_cons, List.take_zero, List.drop_succ_cons, List.drop_zero]
          split
          · exact .inl rfl
          · rename_i q hq
            split
            · exact .inl rfl
            · rename_i hw
              obtain ⟨b1, b2, hq⟩ := cgo_some hq
              simp only [cgo, Option.some.injEq] at hq
              unfold wrong least at hw
              simp at hw
              exact .inr ⟨q, t, ⟨by omega, by omega⟩, by rw [enc2 (a := a) (b := b) (by omega) (by omega) (by omega) (by omega)]; rfl⟩
    by_cases h3 : 224 ≤ a.toNat ∧ a.toNat ≤ 239
    · simp only [pd, sh3 h3.1 h3.2]
      split
      · exact .inl rfl
      · rename_i hl
        match t with
        | [] => simp at hl
        | [b] => simp at hl
        | b :: c :: t =>
          simp only [List.take_succ_cons, List.take_zero, List.drop_succ_cons, List.drop_zero]
          split
          · exact .inl rfl
          · rename_i q hq
            split
            · exact .inl rfl
            · rename_i hw
              obtain ⟨b1, b2, hq⟩ := cgo_some hq
              obtain ⟨c1, c2, hq⟩ := cgo_some hq
              simp only [cgo, Option.some.injEq] at hq
              unfold wrong least at hw
              simp at hw
              exact .inr ⟨q, t, ⟨by omega, by omega⟩, by rw [enc3 (a := a) (b := b) (c := c) (by omega) (by omega) (by omega) (by omega) (by omega)]; rfl⟩
    by_cases h4 : 240 ≤ a.toNat ∧ a.toNat ≤ 244
    · simp only [pd, sh4 h4.1 h4.2]
      split
      · exact .inl rfl
      · rename_i hl
        match t with
        | [] => simp at hl
        | [b] => simp at hl
        | [b, c] => simp at hl
        | b :: c :: d :: t =>
          simp only [List.take_succ_cons, List.take_zero, List.drop_succ_cons, List.drop_zero]
          split
          · exact .inl rfl
          · rename_i q hq
            split
            · exact .inl rfl
            · rename_i hw
              obtain ⟨b1, b2, hq⟩ := cgo_some hq
              obtain ⟨c1, c2, hq⟩ := cgo_some hq
              obtain ⟨d1, d2, hq⟩ := cgo_some hq
              simp only [cgo, Option.some.injEq] at hq
              unfold wrong least at hw
              simp at hw
              exact .inr ⟨q, t, ⟨by omega, by omega⟩, by rw [enc4 (a := a) (b := b) (c := c) (d := d) (by omega) (by omega) (by omega) (by omega) (by omega)]; rfl⟩
    · left
      simp only [pd, sh0 h1 h2 h3 h4]
      rw [if_pos (by simp)]
theorem pd_dec (r : List UInt8) : pd r = dec r := by
  rcases pd_cases r with h | ⟨q, t, hq, rfl⟩
  · rcases dec_cases r with h' | ⟨q, t, hq, rfl⟩
    · rw [h, h']
    · rw [pd_enc _ hq, dec_enc _ hq]
  · rw [pd_enc _ hq, dec_enc _ hq]
end Go.Proofs.Ytknbglcmjggkjaa.U

namespace Go.Proofs.Ytknbglcmjggkjaa
open Go.RowKit Go.Shelf Go.Lib
/-- A string: its points, and what is left. -/
structure Str (s : ByteArray) (P : List Nat) (bad : List UInt8) : Prop where
  pts : U.Pts P
  eq : s.data.toList = U.bytes P ++ bad
  bad : (U.dec bad).2 = 0
  size : s.size ≤ 100000
theorem Str.of {s : ByteArray} {P : List Nat} {bad : List UInt8} (h : Cp.Str s P bad) (hs : s.size ≤ 100000) : Str s P bad := ⟨h.pts, h.eq, h.rest, hs⟩
theorem Str.len {s : ByteArray} {P : List Nat} {bad : List UInt8} (h : Str s P bad) : P.length ≤ 100000 := by
  have h1 := (U.bytes_len P).1
  have h2 : s.size = (U.bytes P ++ bad).length := by rw [← h.eq]; simp
  have := h.size
  rw [List.length_append] at h2
  omega
theorem info3 : (Try.prog.info? 3).map (fun i => (i.zero, i.size, i.bytes)) = some (some (.int .i64 0), 1, 8) := by kernel_rfl
/-- A slice of ints in memory, read. -/
def Ints (w : World) (base : Nat) (v : Value) (l : List Int) : Prop := w.ownsRow base 3 1 v l.length (l.map (Value.int .i64))
theorem row_base {W : World} {base base' : Nat} {e : TypeId} {size : Nat} {v : Value} {k : Nat} {xs : List Value} (hb : base' ≤ base) (h : W.ownsRow base e size v k xs) : W.ownsRow base' e size v k xs := by
  refine ⟨h.1, ?_⟩
  rcases h.2 with h0 | ⟨g, cap, cur, h1, h2, h3⟩
  · exact .inl h0
  · exact .inr ⟨g, cap, cur, h1, Nat.le_trans hb h2, h3⟩
theorem below_append {B : Nat} {A V w1 : World} {e : TypeId} {v : Value} {size k : Nat} {xs : List Value} {tmp : Obj} (hb : Below B A V) (hB : B ≤ V.heap.size) (hrow : V.ownsRow B e size v k xs) (hgrow : (V.alloc tmp).grownBy w1 v.ownBlock) : Below B A w1 :=
  (hb.alloc hB tmp).grown hgrow (by simp; omega) (fun g hg => (row_type hrow g hg).1)
theorem map_take_succ (l : List Int) (k : Nat) (h : k < l.length) : (l.take (k + 1)).map (Value.int .i64) = (l.take k).map (Value.int .i64) ++ [.int .i64 l[k]] := by
  rw [List.take_succ_eq_append_getElem h, List.map_append]; rfl
end Go.Proofs.Ytknbglcmjggkjaa
namespace Go.Proofs.Ytknbglcmjggkjaa
open Go.RowKit Go.Shelf

set_option maxRecDepth 100000 in
set_option maxHeartbeats 2000000 in
theorem shape_any (c : UInt8) (w : World) : Calls Try.prog 42 #[.int .u8 (c.toNat : Nat)] w fun e w' => e = .returned (.tuple #[.int .i64 ((U.sh c.toNat).1 : Nat), .int .i64 ((U.sh c.toNat).2 : Nat)]) ∧ w = w' := by
  have hc := c.toNat_lt
  generalize c.toNat = n at hc ⊢
  have hi : (0 : Int) ≤ (n : Int) := by omega
  have hi2 : (n : Int) < 256 := by omega
  by_cases h1 : n < 128
  · rw [U.sh1 h1]
    have h1z : (n : Int) < 128 := by omega
    go_enter Try.func42, Try.ntmps42
    go_wp2
    go_ret2
    exact ⟨rfl, rfl⟩
  by_cases h2 : 194 ≤ n ∧ n ≤ 223
  · rw [U.sh2 h2.1 h2.2]
    obtain ⟨h2, h3⟩ := h2
    have e : ((n - 192 : Nat) : Int) = (n : Int) - 192 := by omega
    dsimp only
    rw [e]
    clear e
    have g1 : (194 : Int) ≤ (n : Int) := by omega
    have g2 : (n : Int) ≤ 223 := by omega
    have g3 : ¬ (n : Int) < 128 := by omega
    go_enter Try.func42, Try.ntmps42
    go_wp2
    go_ret2
    exact ⟨rfl, rfl⟩
  by_cases h3 : 224 ≤ n ∧ n ≤ 239
  · rw [U.sh3 h3.1 h3.2]
    obtain ⟨h2, h3⟩ := h3
    have e : ((n - 224 : Nat) : Int) = (n : Int) - 224 := by omega
    dsimp only
    rw [e]
    clear e
    have g1 : (224 : Int) ≤ (n : Int) := by omega
    have g2 : (n : Int) ≤ 239 := by omega
    have g3 : ¬ (n : Int) < 128 := by omega
    have g4 : ¬ (n : Int) ≤ 223 := by omega
    go_enter Try.func42, Try.ntmps42
    go_wp2
    go_ret2
    exact ⟨rfl, rfl⟩
  by_cases h4 : 240 ≤ n ∧ n ≤ 244
  · rw [U.sh4 h4.1 h4.2]
    obtain ⟨h2, h3⟩ := h4
    have e : ((n - 240 : Nat) : Int) = (n : Int) - 240 := by omega
    dsimp only
    rw [e]
    clear e
    have g1 : (240 : Int) ≤ (n : Int) := by omega
    have g2 : (n : Int) ≤ 244 := by omega
    have g3 : ¬ (n : Int) < 128 := by omega
    have g4 : ¬ (n : Int) ≤ 223 := by omega
    have g5 : ¬ (n : Int) ≤ 239 := by omega
    go_enter Try.func42, Try.ntmps42
    go_wp2
    go_ret2
    exact ⟨rfl, rfl⟩
  · rw [U.sh0 h1 h2 h3 h4]
    have g3 : ¬ (n : Int) < 128 := by omega
    by_cases k1 : n < 194
    · have g4 : ¬ (194 : Int) ≤ (n : Int) := by omega
      have g5 : ¬ (224 : Int) ≤ (n : Int) := by omega
      have g6 : ¬ (240 : Int) ≤ (n : Int) := by omega
      go_enter Try.func42, Try.ntmps42
      go_wp2
      go_ret2
      exact ⟨rfl, rfl⟩
    · have g0 : (194 : Int) ≤ (n : Int) := by omega
      have g1 : (224 : Int) ≤ (n : Int) := by omega
      have g2 : (240 : Int) ≤ (n : Int) := by omega
      have g4 : ¬ (n : Int) ≤ 223 := by omega
      have g5 : ¬ (n : Int) ≤ 239 := by omega
      have g6 : ¬ (n : Int) ≤ 244 := by omega
      go_enter Try.func42, Try.ntmps42
      go_wp2
      go_ret2
      exact ⟨rfl, rfl⟩
end Go.Proofs.Ytknbglcmjggkjaa

namespace Go.Proofs.Ytknbglcmjggkjaa
open Go.RowKit Go.Shelf

def ptsI (P : List Nat) : List Int := P.map fun p : Nat => (p : Int)
def offs (P : List Nat) : List Int := (List.range P.length).map fun k => (U.off P k : Int)
theorem ptsI_len (P : List Nat) : (ptsI P).length = P.length := by simp [ptsI]
theorem offs_len (P : List Nat) : (offs P).length = P.length := by simp [offs]

def PtsPost (P : List Nat) (bad : List UInt8) (w : World) (e : Ending) (w' : World) : Prop :=
  (bad = [] ∧ ∃ v1 v2, e = .returned (.tuple #[v1, v2, .bool true]) ∧ Ints w' w.heap.size v1 (ptsI P) ∧ Ints w' w.heap.size v2 (offs P) ∧ Below w.heap.size w w') ∨
  (bad ≠ [] ∧ e = .returned (.tuple #[.slice none 0 0, .slice none 0 0, .bool false]) ∧ Below w.heap.size w w')

theorem drop_at {s : ByteArray} {P : List Nat} {bad : List UInt8} (h : Str s P bad) (k : Nat) : s.data.toList.drop (U.off P k) = U.bytes (P.drop k) ++ bad := by
  rw [h.eq]; exact U.drop_off P bad k
theorem pd_fail {s : ByteArray} {P : List Nat} {bad : List UInt8} (h : Str s P bad) (k : Nat) (hk : k ≤ P.length) (hne : s.data.toList.drop (U.off P k) ≠ []) (hp : (U.pd (s.data.toList.drop (U.off P k))).2 = 0) : bad ≠ [] := by
  rintro rfl
  rw [U.pd_dec, drop_at h k] at hp
  by_cases hlt : k < P.length
  · rw [U.dec_at h.pts [] k hlt] at hp
    have := U.enc_pos P[k]
    simp only at hp
    omega
  · rw [drop_at h k, List.drop_of_length_le (by omega)] at hne
    exact hne rfl
theorem pd_good {s : ByteArray} {P : List Nat} {bad : List UInt8} (h : Str s P bad) (k : Nat) (hk : k ≤ P.length) (q n : Nat) (hn : n ≠ 0) (hp : U.pd (s.data.toList.drop (U.off P k)) = (q, n)) : ∃ hlt : k < P.length, P[k] = q ∧ U.off P (k + 1) = U.off P k + n := by
  rw [U.pd_dec, drop_at h k] at hp
  by_cases hlt : k < P.length
  · rw [U.dec_at h.pts bad k hlt] at hp
    simp only [Prod.mk.injEq] at hp
    exact ⟨hlt, hp.1, by rw [U.off_succ P k hlt, hp.2]⟩
  · rw [List.drop_of_length_le (by omega)] at hp
    have h0 := h.bad
    rw [show U.bytes [] ++ bad = bad from rfl] at hp
    rw [hp] at h0
    exact absurd h0 hn
/-- The decoder, opened. -/
theorem pd_open (a : UInt8) (t : List UInt8) : U.pd (a :: t) = if (U.sh a.toNat).1 = 0 ∨ (a :: t).length < (U.sh a.toNat).1 then (0, 0)
    else match U.cgo (((a :: t).take (U.sh a.toNat).1).drop 1) (U.sh a.toNat).2 with
      | none => (0, 0)
      | some q => if U.wrong (U.sh a.toNat).1 q then (0, 0) else (q, (U.sh a.toNat).1) := rfl
theorem sh_le (c : Nat) : (U.sh c).1 ≤ 4 ∧ (U.sh c).2 < 128 := by
  unfold U.sh
  (repeat' split) <;> simp <;> omega
def lim (m : Nat) : Int := if m = 1 then 128 else if m = 2 then 8192 else if m = 3 then 524288 else 33554432

/-- Both rows, not in one block. -/
def Apart (v u : Value) : Prop := ∀ g, v.ownBlock = some g → u.ownBlock ≠ some g
theorem Apart.symm {v u : Value} (h : Apart v u) : Apart u v := fun g h1 h2 => h g h2 h1
theorem apart_step {V w1 : World} {base' e' size' k' : Nat} {v v' u : Value} {ys : List Value} {tmp : Obj} (hu : V.ownsRow base' e' size' u k' ys) (hA : Apart v u)
    (hgrow : (V.alloc tmp).grownBy w1 v.ownBlock) (hloc : v'.ownBlock = v.ownBlock ∨ v'.ownBlock = some (V.alloc tmp).heap.size) : w1.ownsRow base' e' size' u k' ys ∧ Apart v' u := by
  refine ⟨(hu.alloc tmp).kept hgrow ?_, fun g h1 h2 => ?_⟩
  · cases hb : u.ownBlock with
    | none => exact .inl rfl
    | some g => exact .inr (fun e => hA g e.symm hb)
  · rcases hloc with h | h
    · exact hA g (h.symm.trans h1) h2
    · obtain ⟨_, cur, hc⟩ := row_type hu g h2
      have h3 := (Array.getElem?_eq_some_iff.1 hc).1
      rw [h1] at h
      have h4 := Option.some.inj h
      simp at h4
      omega

theorem string_at (s : ByteArray) (i : Nat) (h : i < s.size) : s.data.toList.drop i = s[i] :: s.data.toList.drop (i + 1) := by
  rw [List.drop_eq_getElem_cons (by simpa using h)]; rfl

theorem pts_step (P : List Nat) (k : Nat) (h : k < P.length) : ((ptsI P).take (k + 1)).map (Value.int .i64) = ((ptsI P).take k).map (Value.int .i64) ++ [.int .i64 (P[k] : Nat)] := by
  rw [map_take_succ _ k (by rw [ptsI_len]; exact h)]; simp [ptsI]
theorem offs_step (P : List Nat) (k : Nat) (h : k < P.length) : ((offs P).take (k + 1)).map (Value.int .i64) = ((offs P).take k).map (Value.int .i64) ++ [.int .i64 (U.off P k : Nat)] := by
  rw [map_take_succ _ k (by rw [offs_len]; exact h)]; simp [offs]

def tabV : Array Value := #[.int .i64 0, .int .i64 0, .int .i64 128, .int .i64 2048, .int .i64 65536]
theorem least_cell {W : World} {g : Nat} (h : W.heap[g]? = some (.cells tabV 3 (0, 0))) (n : Nat) (hn : n ≤ 4) : W.cell? ⟨g, n, none⟩ = some (.int .i64 (U.least n : Nat)) := by
  unfold tabV at h
  simp only [World.cell?, h]
  match n, hn with
  | 0, _ => rfl
  | 1, _ => rfl
  | 2, _ => rfl
  | 3, _ => rfl
  | 4, _ => rfl

set_option maxRecDepth 100000 in
set_option maxHeartbeats 4000000 in
theorem points_any {s : ByteArray} {P : List Nat} {bad : List UInt8} (h : Str s P bad) (w : World) : Calls Try.prog 26 #[.string s] w (PtsPost P bad w) := by
  obtain ⟨i0, hi, hz0, hz1, hz2⟩ := info_parts info3
  have hPs := h.len
  have hss := h.size
  have hoff : U.off P P.length + bad.length = s.size := by
    rw [U.off_end]
    have : s.size = (U.bytes P ++ bad).length := by rw [← h.eq]; simp
    rw [this, List.length_append]
  have HSt := Go.Lib.hid h
  have HOF := Go.Lib.hid hoff
  clear h hoff
  go_enter Try.func26, Try.ntmps26
  go_wp2
  obtain ⟨gl, hgl⟩ : ∃ gl, w.heap.size = gl := ⟨_, rfl⟩
  have HGL := Go.Lib.hid hgl
  have hlc := World.alloc_heap_new w (.cells tabV 3)
  have hb0 : Below gl w (w.alloc (.cells tabV 3)) := (Below.refl _ _).alloc (by omega) _
  rw [hgl] at hlc ⊢
  have hsz0 : (w.alloc (.cells tabV 3)).heap.size = gl + 1 := by simp; exact hgl
  change Code.wp _ _ _ _ (w.alloc (.cells tabV 3))
  generalize w.alloc (.cells tabV 3) = w0 at hlc hb0 hsz0 ⊢
  have HLC := Go.Lib.hid hlc
  have HB0 := Go.Lib.hid hb0
  have HZ0 := Go.Lib.hid hsz0
  have HBW : Hid (∀ wr, Below (gl + 1) w0 wr → Below w.heap.size w wr) := Go.Lib.hid fun wr h => by rw [hgl]; exact hb0.trans (h.mono (by omega))
  clear hlc hb0 hgl hsz0
  go_loopw [2, 3, 6, 7, 8, 9, 10] (fun s2 s3 s6 _ _ _ _ wr => ∃ k : Nat, k ≤ P.length ∧ s6 = .int .i64 (U.off P k : Nat) ∧ Hid (Below (gl + 1) w0 wr) ∧ Hid (wr.ownsRow (gl + 1) 3 1 s2 k (((ptsI P).take k).map (Value.int .i64))) ∧ Hid (wr.ownsRow (gl + 1) 3 1 s3 k (((offs P).take k).map (Value.int .i64))) ∧ Hid (Apart s2 s3)) (fun _ _ s6 _ _ _ _ _ => s.size - (intOf s6).toNat)
  case atStart => exact ⟨0, Nat.zero_le _, rfl, Go.Lib.hid (Below.refl _ _), Go.Lib.hid (World.ownsRow_nil _ _ _ _), Go.Lib.hid (World.ownsRow_nil _ _ _ _), Go.Lib.hid (fun _ h => by simp [Value.ownBlock] at h)⟩
  case round =>
    obtain ⟨k, hk, rfl, HB, H2, H3, HA⟩ := hrel
    have hle := U.off_le P k
    by_cases hend : U.off P k < s.size
    · have hda := string_at s (U.off P k) hend
      have F0 := Go.Lib.hid (pd_fail HSt.out k hk (by rw [hda]; simp))
      have G0 := Go.Lib.hid (pd_good HSt.out k hk)
      have hC0 := Go.Lib.hid (fun n hn => least_cell (W := wr) ((HB.out.block gl (by omega)).trans HLC.out) n hn)
      rw [hda] at F0 G0
      clear hda
      generalize hps : U.off P k = ps at hend F0 G0 hle ⊢
      have HPS := Go.Lib.hid hps
      clear hps
      have hcs := fun w => shape_any (s[ps]'hend) w
      have hsl := sh_le (s[ps]'hend).toNat
      have hpo := pd_open (s[ps]'hend) (s.data.toList.drop (ps + 1))
      have hrl : (s[ps]'hend :: s.data.toList.drop (ps + 1)).length = s.size - ps := by rw [← string_at s ps hend]; simp
      rw [hrl] at hpo
      have hby : ∀ m, ps + m < s.size → (s[ps]'hend :: s.data.toList.drop (ps + 1)).drop m = s[ps + m]! :: (s[ps]'hend :: s.data.toList.drop (ps + 1)).drop (m + 1) := by
        intro m hm
        rw [← string_at s ps hend, List.drop_drop, List.drop_drop, string_at s (ps + m) hm]
        rw [getElem!_pos s (ps + m) hm]
        rfl
      generalize (s[ps]'hend :: s.data.toList.drop (ps + 1)) = r at F0 G0 hpo hby hrl
      generalize hsa : s[ps]'hend = a at hcs hsl hpo
      generalize hsh : U.sh a.toNat = sb at hcs hsl hpo
      obtain ⟨sz, bt⟩ := sb
      dsimp only at hcs hsl hpo
      obtain ⟨hs4, hbt⟩ := hsl
      clear hsh
      by_cases hs0 : sz = 0
      · subst hs0
        have hbad := F0.out (by rw [hpo, if_pos (.inl rfl)])
        have HBAD := Go.Lib.hid hbad
        clear hpo hby hrl hbad
        go_wp2_with (go_at_call 42; (with_reducible refine (hcs _).mono ?_); rintro e w1 ⟨rfl, rfl⟩)
        go_ret3
        exact .inr ⟨HBAD.out, rfl, HBW.out _ HB.out⟩
      · by_cases hsl : s.size < ps + sz
        · have hbad := F0.out (by rw [hpo, if_pos (.inr (by omega))])
          have HBAD := Go.Lib.hid hbad
          have hzz : (sz == 0) = false := by simp [hs0]
          have hzi : ((sz : Int) == 0) = false := by simp [hs0]
          clear hpo hby hrl hbad
          go_wp2_with (go_at_call 42; (with_reducible refine (hcs _).mono ?_); rintro e w1 ⟨rfl, rfl⟩)
          go_ret3
          exact .inr ⟨HBAD.out, rfl, HBW.out _ HB.out⟩
        · rw [if_neg (by omega)] at hpo
          have hzi : ((sz : Int) == 0) = false := by simp [hs0]
          have hls := hC0.out sz hs4
          have hs1 : 1 ≤ sz := by omega
          have hps2 : ps + sz ≤ s.size := by omega
          have HS0 := Go.Lib.hid hs0
          have HSL := Go.Lib.hid hsl
          clear hs0 hsl
          generalize hres : U.cgo ((r.take sz).drop 1) bt = RES at hpo
          have HRES := Go.Lib.hid hres
          have HPO := Go.Lib.hid hpo
          have HBY := Go.Lib.hid hby
          have HRL := Go.Lib.hid hrl
          clear hres hpo hby hrl
          have hlen : (s.size : Int) ≤ 100000 := by omega
          go_wp2_with (go_at_call 42; (with_reducible refine (hcs _).mono ?_); rintro e w1 ⟨rfl, rfl⟩)
          go_loop [2, 3, 8, 9, 10] (fun t2 t3 sp si _ => t2 = u2 ∧ t3 = u3 ∧ ∃ (m : Nat) (q : Int), 1 ≤ m ∧ m ≤ sz ∧ si = .int .i64 (m : Nat) ∧ sp = .int .i64 q ∧ 0 ≤ q ∧ q < lim m ∧ Hid (U.cgo ((r.take sz).drop m) q.toNat = RES)) (fun _ _ _ si _ => sz - (intOf si).toNat)
          case atStart => exact ⟨rfl, rfl, 1, bt, Nat.le_refl _, hs1, rfl, rfl, by omega, by show (bt : Int) < 128; omega, HRES⟩
          case round =>
            obtain ⟨rfl, rfl, m, q, hm1, hm2, rfl, rfl, hq0, hq, HM⟩ := hrel
            have hq2 : q < 33554432 := by unfold lim at hq; (repeat' split at hq) <;> omega
            by_cases hlt : m < sz
            · have hmi : ps + m < s.size := by omega
              have hdm : (r.take sz).drop m = s[ps + m]! :: (r.take sz).drop (m + 1) := by
                have h1 := HBY.out m hmi
                have h2 : m < (r.take sz).length := by rw [List.length_take, HRL.out]; omega
                rw [List.drop_eq_getElem_cons h2]
                congr 1
                rw [List.getElem_take]
                have h3 : m < r.length := by rw [HRL.out]; omega
                rw [List.drop_eq_getElem_cons h3] at h1
                exact (List.cons.inj h1).1
              have hgb : s[ps + m]! = s[ps + m]'hmi := getElem!_pos s (ps + m) hmi
              rw [hgb] at hdm
              have hcg := HM.out
              rw [hdm] at hcg
              clear hdm hgb
              have hbl := (s[ps + m]'hmi).toNat_lt
              have HCG0 := Go.Lib.hid hcg
              have HQ := Go.Lib.hid hq
              have HBL := Go.Lib.hid hbl
              clear hcg hq hbl
              go_wp2
              · have hge : (128 : Int) ≤ ((s[ps + m]'hmi).toNat : Int) := by assumption
                have hor : ((s[ps + m]'hmi).toNat : Int) < 128 ∨ (191 : Int) < ((s[ps + m]'hmi).toNat : Int) := by assumption
                go_ret3
                exact .inr ⟨F0.out (by rw [HPO.out, ← HCG0.out, U.cgo_bad (.inr (by omega))]), rfl, HBW.out _ HB.out⟩
              · have hge : (128 : Int) ≤ ((s[ps + m]'hmi).toNat : Int) := by assumption
                have hor : (128 : Int) ≤ ((s[ps + m]'hmi).toNat : Int) ∧ ((s[ps + m]'hmi).toNat : Int) ≤ 191 := by assumption
                have hcg := HCG0.out
                rw [U.cgo_ok (by omega) (by omega)] at hcg
                go_round
                case rel =>
                  refine ⟨rfl, rfl, m + 1, _, by omega, by omega, by go_num, rfl, by omega, ?_, Go.Lib.hid (by rw [← hcg]; congr 1; omega)⟩
                  have hq := HQ.out
                  have : m = 1 ∨ m = 2 ∨ m = 3 := by omega
                  rcases this with rfl | rfl | rfl <;> simp [lim] at hq ⊢ <;> omega
                case measure => simp [intOf]; omega
              · have hlt8 : ((s[ps + m]'hmi).toNat : Int) < 128 := by assumption
                go_ret3
                exact .inr ⟨F0.out (by rw [HPO.out, ← HCG0.out, U.cgo_bad (.inl (by omega))]), rfl, HBW.out _ HB.out⟩
            · obtain rfl : m = sz := by omega
              have hrs : RES = some q.toNat := by
                rw [← HM.out, List.drop_of_length_le (by rw [List.length_take]; omega)]; rfl
              have hpp := HPO.out
              rw [hrs] at hpp
              dsimp only at hpp
              have hwr : U.wrong m q.toNat ↔ q < (U.least m : Int) ∨ 1114111 < q ∨ (55296 ≤ q ∧ q ≤ 57343) := by unfold U.wrong; omega
              have HPP := Go.Lib.hid hpp
              have HW := Go.Lib.hid hwr
              have HQ := Go.Lib.hid hq
              clear hpp hwr hrs hq
              generalize (U.least m : Int) = ls at hls HW
              have bad_of : Hid (∀ (_ : q < ls ∨ 1114111 < q ∨ (55296 ≤ q ∧ q ≤ 57343)), bad ≠ []) := Go.Lib.hid fun h => F0.out (by rw [HPP.out, if_pos (HW.out.2 h)])
              have ok_of : Hid (∀ (_ : ¬ (q < ls ∨ 1114111 < q ∨ (55296 ≤ q ∧ q ≤ 57343))), ∃ hlt : k < P.length, P[k] = q.toNat ∧ U.off P (k + 1) = ps + m) := Go.Lib.hid fun h => G0.out q.toNat m (by omega) (by rw [HPP.out, if_neg (fun x => h (HW.out.1 x))])
              by_cases w1 : q < ls
              · have HBAD := Go.Lib.hid (bad_of.out (.inl w1))
                go_wp2
                go_ret3
                exact .inr ⟨HBAD.out, rfl, HBW.out _ HB.out⟩
              by_cases w2 : 1114111 < q
              · have HBAD := Go.Lib.hid (bad_of.out (.inr (.inl w2)))
                go_wp2
                go_ret3
                exact .inr ⟨HBAD.out, rfl, HBW.out _ HB.out⟩
              by_cases w3 : 55296 ≤ q ∧ q ≤ 57343
              · have HBAD := Go.Lib.hid (bad_of.out (.inr (.inr w3)))
                obtain ⟨w3, w4⟩ := w3
                go_wp2
                go_ret3
                exact .inr ⟨HBAD.out, rfl, HBW.out _ HB.out⟩
              · obtain ⟨hltk, hPk, hoffn⟩ := ok_of.out (fun h => by rcases h with h | h | h <;> omega)
                have hps1 := pts_step P k hltk
                have hof1 := offs_step P k hltk
                rw [hPk, show ((q.toNat : Nat) : Int) = q by omega] at hps1
                rw [HPS.out] at hof1
                have HPS1 := Go.Lib.hid hps1
                have HOF1 := Go.Lib.hid hof1
                have HON := Go.Lib.hid hoffn
                have w3' : 55296 ≤ q → 57343 < q := fun h => by omega
                have hwz := HB.out.size
                have hwz0 := HZ0.out
                clear hps1 hof1 hoffn hPk w3 hC0
                by_cases w5 : 55296 ≤ q
                all_goals
                  first
                  | (have w6 := w3' w5; clear w3')
                  | clear w3'
                  go_wp2_with (first
                    | (at_builtin; refine wpList_append_own_at _ rfl (.tmp 73) (.tmp 75) 51 rfl (gl + 1) 3 i0 (.int .i64 0) 1 8 Try.underlying51 hi hz0 hz1 hz2 rfl (by decide) _ _ _ rfl (H2.out.alloc _) ⟨wr.heap.size, 0, none⟩ 1 1 [.int .i64 q] rfl rfl (cell_one_new _ _ _) (by simp [Value.oneCell']) (by unfold maxLen; omega) (by omega) (by simp; omega) ?_; intro v2 wa hown2 hgrow2 _ hloc2; have A2 := Go.Lib.hid hown2; have B2 := Go.Lib.hid (below_append HB.out (by omega) H2.out hgrow2); have C2 := Go.Lib.hid (apart_step H3.out HA.out hgrow2 hloc2); have hwa := B2.out.size; clear hown2 hgrow2 hloc2)
                    | (at_builtin; refine wpList_append_own_at _ rfl (.tmp 77) (.tmp 79) 51 rfl (gl + 1) 3 i0 (.int .i64 0) 1 8 Try.underlying51 hi hz0 hz1 hz2 rfl (by decide) _ _ _ rfl (C2.out.1.alloc _) ⟨wa.heap.size, 0, none⟩ 1 1 [.int .i64 (ps : Nat)] rfl rfl (cell_one_new _ _ _) (by simp [Value.oneCell']) (by unfold maxLen; omega) (by omega) (by simp; omega) ?_; intro v3 wb hown3 hgrow3 _ hloc3; have A3 := Go.Lib.hid hown3; have B3 := Go.Lib.hid (below_append B2.out (by omega) C2.out.1 hgrow3); have C3 := Go.Lib.hid (apart_step A2.out C2.out.2.symm hgrow3 hloc3); clear hown3 hgrow3 hloc3))
                  go_roundw
                  case rel => exact ⟨k + 1, by omega, by rw [HON.out]; go_num, B3, Go.Lib.hid (by rw [HPS1.out]; exact C3.out.1), Go.Lib.hid (by rw [HOF1.out]; exact A3.out), Go.Lib.hid C3.out.2.symm⟩
                  case measure => simp [intOf]; omega
    · have hkk : k = P.length ∧ bad = [] := by
        have h0 := HOF.out
        have h1 := U.off_mono P k P.length hk
        have h2 : bad.length = 0 := by omega
        refine ⟨?_, List.length_eq_zero_iff.1 h2⟩
        by_cases h3 : k = P.length
        · exact h3
        · have := U.off_lt P k P.length (by omega) (Nat.le_refl _)
          omega
      have HKK := Go.Lib.hid hkk
      clear hkk
      go_wp2
      go_ret3
      refine .inl ⟨HKK.out.2, _, _, rfl, ?_, ?_, HBW.out _ HB.out⟩
      · have h1 := H2.out
        rw [List.take_of_length_le (by rw [ptsI_len]; have := HKK.out.1; omega)] at h1
        unfold Ints
        rw [ptsI_len, ← HKK.out.1]
        exact row_base (by rw [HGL.out]; omega) h1
      · have h1 := H3.out
        rw [List.take_of_length_le (by rw [offs_len]; have := HKK.out.1; omega)] at h1
        unfold Ints
        rw [offs_len, ← HKK.out.1]
        exact row_base (by rw [HGL.out]; omega) h1
end Go.Proofs.Ytknbglcmjggkjaa
namespace Go.Proofs.Ytknbglcmjggkjaa
open Go.RowKit Go.Shelf
def PtsOk (P : List Nat) (w : World) (e : Ending) (w' : World) : Prop := ∃ v1 v2, e = .returned (.tuple #[v1, v2, .bool true]) ∧ Ints w' w.heap.size v1 (ptsI P) ∧ Ints w' w.heap.size v2 (offs P) ∧ Below w.heap.size w w'
theorem points_ok {s : ByteArray} {P : List Nat} (h : Str s P []) (w : World) : Calls Try.prog 26 #[.string s] w (PtsOk P w) :=
  (points_any h w).mono fun e w' hp => by
    rcases hp with ⟨_, h1⟩ | ⟨h1, _⟩
    · exact h1
    · exact absurd rfl h1
def PtsBad (w : World) (e : Ending) (w' : World) : Prop := e = .returned (.tuple #[.slice none 0 0, .slice none 0 0, .bool false]) ∧ Below w.heap.size w w'
theorem points_bad {s : ByteArray} {P : List Nat} {bad : List UInt8} (h : Str s P bad) (hb : bad ≠ []) (w : World) : Calls Try.prog 26 #[.string s] w (PtsBad w) :=
  (points_any h w).mono fun e w' hp => by
    rcases hp with ⟨h1, _⟩ | ⟨_, h1⟩
    · exact absurd h1 hb
    · exact h1

end Go.Proofs.Ytknbglcmjggkjaa
