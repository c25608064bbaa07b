import Derived.Test.YthjooopppidcfaaDoorML
import Derived.Lib.UnsafeStr

namespace Go.Proofs.YthjooopppidcfaaDoor.Cp
open Go.RowKit
open U

/-- A slice of numbers in memory, at whatever place. -/
def SliceAt (w : World) (v : Value) (Z : List Int) : Prop :=
  (Z = [] ∧ ∃ a c, v = .slice a 0 c) ∨ ∃ g o cap, v = .slice (some ⟨g, o, none⟩) Z.length cap ∧ g < w.heap.size ∧ ∀ j (h : j < Z.length), w.cell? ⟨g, o + j, none⟩ = some (.int .i64 Z[j])
def asInts (P : List Nat) : List Int := P.map fun (p : Nat) => (p : Int)
theorem asInts_length (P : List Nat) : (asInts P).length = P.length := by simp [asInts]
theorem asInts_get (P : List Nat) (j : Nat) (h : j < (asInts P).length) : (asInts P)[j] = ((P[j]'(by rw [asInts_length] at h; exact h) : Nat) : Int) := by simp [asInts]
theorem IntsAt.slice {w : World} {v : Value} {P : List Nat} (h : IntsAt w v P) : SliceAt w v (asInts P) := by
  rcases h with ⟨rfl, h⟩ | ⟨g, cap, hv, hg, hc⟩
  · exact .inl ⟨rfl, _, _, h⟩
  · refine .inr ⟨g, 0, cap, by rw [asInts_length]; exact hv, hg, fun j hj => ?_⟩
    rw [asInts_get, Nat.zero_add]; exact hc j _
theorem SliceAt.below {w w' : World} {v : Value} {Z : List Int} (h : SliceAt w v Z) (hb : Below w.heap.size w w') : SliceAt w' v Z := by
  rcases h with h | ⟨g, o, cap, hv, hg, hc⟩
  · exact .inl h
  · exact .inr ⟨g, o, cap, hv, Nat.lt_of_lt_of_le hg hb.size, fun j hj => (hb.cell (p := ⟨g, o + j, none⟩) hg).trans (hc j hj)⟩

theorem u8_or_add (a b : Nat) (ha : a % 64 = 0) (ha2 : a < 256) (hb : b < 64) : bits .or .u8 (a : Int) (b : Int) = ((a + b : Nat) : Int) := by
  rw [u8_or_nat a b ha2 (by omega), nat_join 6 a b (by omega) (by omega)]
set_option maxRecDepth 100000 in
set_option maxHeartbeats 1000000 in
theorem further_any (p : Nat) (hp : p ≤ 1114111) (w : World) :
    Calls Tryd.prog 104 #[.int .i64 p] w fun e w' => e = .returned (.int .u8 ((128 + p % 64 : Nat) : Int)) ∧ w = w' := by
  have h1 : bits .and .i64 (p : Int) 63 = ((p % 64 : Nat) : Int) := by
    have := i64_and_nat p 63 (by omega) (by omega)
    rw [nat_mask6] at this; exact this
  have h2 : bits .or .u8 128 ((p : Int) % 64) = ((128 + p % 64 : Nat) : Int) := by
    have := u8_or_add 128 (p % 64) (by omega) (by omega) (by omega)
    exact this
  go_enter Tryd.func104, Tryd.ntmps104
  go_wp2
  go_ret
  refine ⟨ret_int ?_, rfl⟩
  first | rfl | (simp; omega)
end Go.Proofs.YthjooopppidcfaaDoor.Cp

namespace Go.Proofs.YthjooopppidcfaaDoor.Cp
open Go.RowKit
open U

theorem byteInfo2 : (Tryd.prog.info? 5).map (fun i => (i.zero, i.size, i.bytes)) = some (some (.int .u8 0), 1, 1) := by kernel_rfl
theorem further_int (z : Int) (h0 : 0 ≤ z) (h1 : z ≤ 1114111) (w : World) :
    Calls Tryd.prog 104 #[.int .i64 z] w fun e w' => e = .returned (.int .u8 (128 + z % 64)) ∧ w = w' := by
  obtain ⟨p, rfl⟩ := Int.eq_ofNat_of_zero_le h0
  have := further_any p (by omega) w
  rw [show ((128 + p % 64 : Nat) : Int) = 128 + (p : Int) % 64 by omega] at this
  exact this
theorem cells_new (w : World) (C : Array Value) (t : TypeId) (xs : List Value) (hx : C.toList = xs) : ∀ j u, xs[j]? = some u → (w.alloc (.cells C t)).cell? ((⟨w.heap.size, 0, none⟩ : Addr).add j) = some u := by
  intro j u h
  have e : ((⟨w.heap.size, 0, none⟩ : Addr).add j) = ⟨w.heap.size, j, none⟩ := by unfold Addr.add; simp only []; split <;> simp_all
  have := World.cell?_alloc_mark w C t (0, 0) j
  rw [e]
  refine this.trans ?_
  subst hx
  simpa using h

/-- What appendEncoding hands back. -/
def AppRet (base : Nat) (l : List UInt8) (w : World) (e : Ending) (w' : World) : Prop := ∃ v, e = .returned v ∧ w'.ownsRow base 5 1 v l.length (Lib.byteCells l) ∧ Below base w w'
theorem appRet_of {base : Nat} {acc l : List UInt8} {news : List Value} {w w' : World} {v : Value} {e : Ending} {n : Nat} (he : e = .returned v) (hn : n = (acc ++ l).length) (hx : news = Lib.byteCells l) (ho : w'.ownsRow base 5 1 v n (Lib.byteCells acc ++ news)) (hb : Below base w w') : AppRet base (acc ++ l) w e w' := by
  subst hn hx
  rw [← Lib.byteCells_append] at ho
  exact ⟨v, he, ho, hb⟩
theorem news1 (p : Nat) (h : p < 128) : [Value.int .u8 (p : Int)] = Lib.byteCells (enc p) := by
  unfold enc encN
  rw [if_pos h]
  simp only [List.map_cons, List.map_nil, Lib.byteCells, u8_toNat p (by omega)]
theorem news2 (p : Nat) (h0 : ¬ p < 128) (h : p < 2048) : [Value.int .u8 (192 + (p : Int) / 64), Value.int .u8 (128 + (p : Int) % 64)] = Lib.byteCells (enc p) := by
  unfold enc encN
  rw [if_neg h0, if_pos h]
  simp only [List.map_cons, List.map_nil, Lib.byteCells, u8_toNat (192 + p / 64) (by omega), u8_toNat (128 + p % 64) (by omega)]
  rw [show (192 + (p : Int) / 64) = ((192 + p / 64 : Nat) : Int) by omega, show (128 + (p : Int) % 64) = ((128 + p % 64 : Nat) : Int) by omega]
theorem news3 (p : Nat) (h0 : ¬ p < 2048) (h : p < 65536) : [Value.int .u8 (224 + (p : Int) / 4096), Value.int .u8 (128 + (p : Int) / 64 % 64), Value.int .u8 (128 + (p : Int) % 64)] = Lib.byteCells (enc p) := by
  unfold enc encN
  rw [if_neg (by omega), if_neg h0, if_pos h]
  simp only [List.map_cons, List.map_nil, Lib.byteCells, u8_toNat (224 + p / 4096) (by omega), u8_toNat (128 + p % 64) (by omega), u8_toNat (128 + p / 64 % 64) (by omega)]
  rw [show (224 + (p : Int) / 4096) = ((224 + p / 4096 : Nat) : Int) by omega, show (128 + (p : Int) % 64) = ((128 + p % 64 : Nat) : Int) by omega, show (128 + (p : Int) / 64 % 64) = ((128 + p / 64 % 64 : Nat) : Int) by omega]
theorem news4 (p : Nat) (h0 : ¬ p < 65536) (h : p ≤ 1114111) : [Value.int .u8 (240 + (p : Int) / 262144), Value.int .u8 (128 + (p : Int) / 4096 % 64), Value.int .u8 (128 + (p : Int) / 64 % 64), Value.int .u8 (128 + (p : Int) % 64)] = Lib.byteCells (enc p) := by
  unfold enc encN
  rw [if_neg (by omega), if_neg (by omega), if_neg h0]
  simp only [List.map_cons, List.map_nil, Lib.byteCells, u8_toNat (240 + p / 262144) (by omega), u8_toNat (128 + p % 64) (by omega), u8_toNat (128 + p / 64 % 64) (by omega), u8_toNat (128 + p / 4096 % 64) (by omega)]
  rw [show (240 + (p : Int) / 262144) = ((240 + p / 262144 : Nat) : Int) by omega, show (128 + (p : Int) % 64) = ((128 + p % 64 : Nat) : Int) by omega, show (128 + (p : Int) / 64 % 64) = ((128 + p / 64 % 64 : Nat) : Int) by omega, show (128 + (p : Int) / 4096 % 64) = ((128 + p / 4096 % 64 : Nat) : Int) by omega]
theorem or_head (a : Nat) (z : Int) (ha : a % 64 = 0) (ha2 : a < 256) (h0 : 0 ≤ z) (h1 : z < 64) : bits .or .u8 (a : Int) z = (a : Int) + z := by
  obtain ⟨p, rfl⟩ := Int.eq_ofNat_of_zero_le h0
  rw [u8_or_add a p ha ha2 (by omega)]; omega

theorem or_head16 (a : Nat) (z : Int) (ha : a % 16 = 0) (ha2 : a < 256) (h0 : 0 ≤ z) (h1 : z < 16) : bits .or .u8 (a : Int) z = (a : Int) + z := by
  obtain ⟨p, rfl⟩ := Int.eq_ofNat_of_zero_le h0
  rw [u8_or_nat a p ha2 (by omega), nat_join 4 a p (by omega) (by omega)]; omega
set_option maxRecDepth 100000 in
set_option maxHeartbeats 4000000 in
theorem appendEnc_any (p : Nat) (hp : p ≤ 1114111) (base : Nat) (acc : List UInt8) (v : Value) (w : World) (hown : w.ownsRow base 5 1 v acc.length (Lib.byteCells acc)) (hB : base ≤ w.heap.size) (hlen : acc.length ≤ 1000000) :
    Calls Tryd.prog 91 #[v, .int .i64 p] w (AppRet base (acc ++ enc p) w) := by
  obtain ⟨i0, hi, hz0, hz1, hz2⟩ := info_parts byteInfo2
  by_cases h1 : p < 128
  · have HN := Lib.hid (news1 p h1)
    have HL := Lib.hid (show (enc p).length = 1 by rw [enc_len, if_pos h1])
    go_enter Tryd.func91, Tryd.ntmps91
    go_wp2_with (at_builtin; refine wpList_append_own _ rfl _ _ 121 rfl base 5 i0 (.int .u8 0) 1 1 Tryd.underlying121 hi hz0 hz1 hz2 rfl (by decide) _ _ _ rfl (hown.alloc _) ⟨w.heap.size, 0, none⟩ 1 1 [.int .u8 (p : Int)] rfl rfl (cells_new _ _ _ _ rfl) (by intro u hu; simp at hu; subst hu; rfl) (by unfold maxLen; omega) (by omega) (by simp; omega) ?_; intro v1 w1 hown1 hgrow1 _)
    go_ret
    exact appRet_of rfl (by rw [List.length_append, HL.out]) HN.out hown1 (((Below.refl base w).alloc hB _).grown hgrow1 (by simp; omega) (fun j e => (hown.lt j e).1))
  by_cases h2 : p < 2048
  · have HN := Lib.hid (news2 p h1 h2)
    have HL := Lib.hid (show (enc p).length = 2 by rw [enc_len, if_neg h1, if_pos h2])
    have ho := or_head 192 ((p : Int) / 64) (by decide) (by decide) (by omega) (by omega)
    go_enter Tryd.func91, Tryd.ntmps91
    go_wp2_with (first | (go_at_call 104; refine (further_int _ (by omega) (by omega) _).mono ?_; rintro e w' ⟨rfl, rfl⟩) | (at_builtin; refine wpList_append_own _ rfl _ _ 121 rfl base 5 i0 (.int .u8 0) 1 1 Tryd.underlying121 hi hz0 hz1 hz2 rfl (by decide) _ _ _ rfl (hown.alloc _) ⟨w.heap.size, 0, none⟩ 2 2 [.int .u8 (192 + (p : Int) / 64), .int .u8 (128 + (p : Int) % 64)] rfl rfl (cells_new _ _ _ _ rfl) (by intro u hu; simp at hu; rcases hu with rfl | rfl <;> rfl) (by unfold maxLen; omega) (by omega) (by simp; omega) ?_; intro v1 w1 hown1 hgrow1 _))
    go_ret
    exact appRet_of rfl (by rw [List.length_append, HL.out]) HN.out hown1 (((Below.refl base w).alloc hB _).grown hgrow1 (by simp; omega) (fun j e => (hown.lt j e).1))
  by_cases h3 : p < 65536
  · have HN := Lib.hid (news3 p h2 h3)
    have HL := Lib.hid (show (enc p).length = 3 by rw [enc_len, if_neg h1, if_neg h2, if_pos h3])
    have ho := or_head16 224 ((p : Int) / 4096) (by decide) (by decide) (by omega) (by omega)
    have k1 : ¬ (p : Int) < 128 := by omega
    have k2 : ¬ (p : Int) < 2048 := by omega
    have k3 : (p : Int) < 65536 := by omega
    clear h1 h2 h3
    go_enter Tryd.func91, Tryd.ntmps91
    go_wp2_with (first | (go_at_call 104; refine (further_int _ (by omega) (by omega) _).mono ?_; rintro e w' ⟨rfl, rfl⟩) | (at_builtin; refine wpList_append_own _ rfl _ _ 121 rfl base 5 i0 (.int .u8 0) 1 1 Tryd.underlying121 hi hz0 hz1 hz2 rfl (by decide) _ _ _ rfl (hown.alloc _) ⟨w.heap.size, 0, none⟩ 3 3 [.int .u8 (224 + (p : Int) / 4096), .int .u8 (128 + (p : Int) / 64 % 64), .int .u8 (128 + (p : Int) % 64)] rfl rfl (cells_new _ _ _ _ rfl) (by intro u hu; simp at hu; rcases hu with rfl | rfl | rfl <;> rfl) (by unfold maxLen; omega) (by omega) (by simp; omega) ?_; intro v1 w1 hown1 hgrow1 _))
    go_ret
    exact appRet_of rfl (by rw [List.length_append, HL.out]) HN.out hown1 (((Below.refl base w).alloc hB _).grown hgrow1 (by simp; omega) (fun j e => (hown.lt j e).1))
  · have HN := Lib.hid (news4 p h3 hp)
    have HL := Lib.hid (show (enc p).length = 4 by rw [enc_len, if_neg h1, if_neg h2, if_neg h3])
    have ho := or_head16 240 ((p : Int) / 262144) (by decide) (by decide) (by omega) (by omega)
    have k1 : ¬ (p : Int) < 128 := by omega
    have k2 : ¬ (p : Int) < 2048 := by omega
    have k3 : ¬ (p : Int) < 65536 := by omega
    clear h1 h2 h3
    go_enter Tryd.func91, Tryd.ntmps91
    go_wp2_with (first | (go_at_call 104; refine (further_int _ (by omega) (by omega) _).mono ?_; rintro e w' ⟨rfl, rfl⟩) | (at_builtin; refine wpList_append_own _ rfl _ _ 121 rfl base 5 i0 (.int .u8 0) 1 1 Tryd.underlying121 hi hz0 hz1 hz2 rfl (by decide) _ _ _ rfl (hown.alloc _) ⟨w.heap.size, 0, none⟩ 4 4 [.int .u8 (240 + (p : Int) / 262144), .int .u8 (128 + (p : Int) / 4096 % 64), .int .u8 (128 + (p : Int) / 64 % 64), .int .u8 (128 + (p : Int) % 64)] rfl rfl (cells_new _ _ _ _ rfl) (by intro u hu; simp at hu; rcases hu with rfl | rfl | rfl | rfl <;> rfl) (by unfold maxLen; omega) (by omega) (by simp; omega) ?_; intro v1 w1 hown1 hgrow1 _))
    go_ret
    exact appRet_of rfl (by rw [List.length_append, HL.out]) HN.out hown1 (((Below.refl base w).alloc hB _).grown hgrow1 (by simp; omega) (fun j e => (hown.lt j e).1))
end Go.Proofs.YthjooopppidcfaaDoor.Cp

namespace Go.Proofs.YthjooopppidcfaaDoor.Cp
open Go.RowKit
open U

theorem code_pt (p : Nat) (h : isPt p) (w : World) : Calls Tryd.prog 90 #[.int .i64 (p : Nat)] w fun e w' => e = .returned (.bool true) ∧ w = w' := by
  have := isPoint_any p w
  rw [ptB_true (by obtain ⟨h1, h2⟩ := h; omega)] at this; exact this
theorem code_npt (z : Int) (h : ptB z = false) (w : World) : Calls Tryd.prog 90 #[.int .i64 z] w fun e w' => e = .returned (.bool false) ∧ w = w' := by
  have := isPoint_any z w
  rw [h] at this; exact this
/-- Numbers: code points, and a rest whose first number is none. -/
structure Nums (Z : List Int) (P : List Nat) (R : List Int) : Prop where
  eq : Z = asInts P ++ R
  pts : Pts P
  rest : ∀ z T, R = z :: T → ptB z = false
theorem Nums.ex : ∀ Z : List Int, ∃ P R, Nums Z P R
  | [] => ⟨[], [], rfl, (fun _ h => by cases h), fun _ _ h => by cases h⟩
  | z :: Z => by
    by_cases h : ptB z = true
    · obtain ⟨P, R, h1, h2, h3⟩ := Nums.ex Z
      have hz : 0 ≤ z ∧ z ≤ 1114111 ∧ (z < 55296 ∨ 57343 < z) := by unfold ptB at h; exact of_decide_eq_true h
      refine ⟨z.toNat :: P, R, ?_, ?_, h3⟩
      · rw [h1, asInts, asInts, List.map_cons, List.cons_append, show ((z.toNat : Nat) : Int) = z by omega]
      · intro p hp
        rcases List.mem_cons.1 hp with rfl | hp
        · exact ⟨by omega, by omega⟩
        · exact h2 p hp
    · exact ⟨[], z :: Z, rfl, (fun _ h => by cases h), fun y T e => by cases e; simpa using h⟩
theorem Nums.length {Z P R} (h : Nums Z P R) : Z.length = P.length + R.length := by rw [h.eq, List.length_append, asInts_length]
theorem Nums.get {Z P R} (h : Nums Z P R) (k : Nat) (hk : k < P.length) (hz : k < Z.length) : Z[k] = ((P[k] : Nat) : Int) := by
  have h1 := h.eq
  subst h1
  rw [List.getElem_append_left (by rw [asInts_length]; exact hk), asInts_get]
theorem Nums.bad {Z P R} (h : Nums Z P R) (hz : P.length < Z.length) : ptB Z[P.length] = false := by
  have h1 := h.eq
  subst h1
  rw [List.getElem_append_right (by rw [asInts_length]; exact Nat.le_refl _)]
  have h2 : (asInts P ++ R).length = P.length + R.length := by rw [List.length_append, asInts_length]
  match R, h with
  | [], _ => simp [asInts] at hz
  | z :: T, h =>
    have := h.rest z T rfl
    simpa [asInts_length] using this
theorem appendEnc_at {base : Nat} (P : List Nat) (k : Nat) (hk : k < P.length) (hP : Pts P) (hl : P.length ≤ 200000) (v : Value) (w : World) (hown : w.ownsRow base 5 1 v (U.bytes (P.take k)).length (Lib.byteCells (U.bytes (P.take k)))) (hB : base ≤ w.heap.size) :
    Calls Tryd.prog 91 #[v, .int .i64 ((P[k] : Nat) : Int)] w (AppRet base (U.bytes (P.take (k + 1))) w) := by
  have h := appendEnc_any P[k] (hP.get k hk).1 base (U.bytes (P.take k)) v w hown hB (by have := (bytes_len (P.take k)).2; rw [List.length_take] at this; omega)
  rw [List.take_succ_eq_append_getElem hk, bytes_snoc]; exact h
theorem mk_of' (O : ByteArray) (l : List UInt8) (h : O.data.toList = l) : O = ⟨l.toArray⟩ := by subst h; rfl
theorem row_back {w : World} {base : Nat} {v : Value} {l : List UInt8} (h : w.ownsRow base 5 1 v l.length (Lib.byteCells l)) : (convert 121 9 v).run Tryd.prog w = .ok (.string ⟨l.toArray⟩) w := by
  rcases h.2 with ⟨hv, h0⟩ | ⟨g, cap, cur, hv, _⟩
  · have : l = [] := List.eq_nil_of_length_eq_zero h0
    subst this hv
    exact run_convert_bytes_nil w 121 5 Tryd.underlying121 Tryd.underlying5 0 0 9 Tryd.underlying9
  · subst hv
    refine conv_back w _ _ _ l rfl fun j hj => ?_
    have e : ((⟨g, 0, none⟩ : Addr).add j) = ⟨g, j, none⟩ := by unfold Addr.add; simp only []; split <;> simp_all
    rw [e, h.cellAt j (by omega)]
    simp [Lib.byteCells, hj]

def MakeRet (P : List Nat) (w : World) (e : Ending) (w' : World) : Prop := e = .returned (.tuple #[.string ⟨(U.bytes P).toArray⟩, .int .i64 0]) ∧ Below w.heap.size w w'
set_option maxRecDepth 100000 in
set_option maxHeartbeats 4000000 in
theorem make_some (g o cap : Nat) (Z : List Int) (P : List Nat) (R : List Int) (hN : Nums Z P R) (hZ : Z.length ≤ 200000) (w : World) (hg : g < w.heap.size) (hc : ∀ j (h : j < Z.length), w.cell? ⟨g, o + j, none⟩ = some (.int .i64 Z[j])) :
    Calls Tryd.prog 67 #[.slice (some ⟨g, o, none⟩) Z.length cap] w fun e w' => (R = [] → MakeRet P w e w') ∧ (R ≠ [] → e = .returned (.tuple #[.string ⟨#[]⟩, .int .i64 2]) ∧ Below w.heap.size w w') := by
  obtain ⟨i0, hi, hz0, hz1, hz2⟩ := info_parts byteInfo2
  have hlen := hN.length
  have hPl : P.length ≤ 200000 := by omega
  have HL := Lib.hid hlen
  have HC := Lib.hid hc
  clear hlen hc
  go_enter Tryd.func67, Tryd.ntmps67
  go_wp2_with (at_make; refine wpList_make_own _ rfl _ _ 121 rfl w.heap.size 5 i0 (.int .u8 0) 1 Tryd.underlying121 hi hz0 hz1 _ _ _ Z.length rfl rfl rfl ?b2 ?b3 (Nat.le_refl _) ?_)
  case b2 => rw [hz2]; omega
  case b3 => unfold maxLen; omega
  intro w0 hown0 hgrow0
  go_wp2
  go_loopw [4, 12] (fun v i wr => ∃ k : Nat, k ≤ P.length ∧ i = .int .i64 (k : Nat) ∧ wr.ownsRow w.heap.size 5 1 v (U.bytes (P.take k)).length (Lib.byteCells (U.bytes (P.take k))) ∧ Below w.heap.size w wr) (fun _ i _ => Z.length - (intOf i).toNat)
  case atStart => exact ⟨0, Nat.zero_le _, rfl, hown0, (Below.refl _ _).grown hgrow0 (Nat.le_refl _) (fun k h => by cases h)⟩
  case round =>
    obtain ⟨k, hk, rfl, hown, hbw⟩ := hrel
    have hw0 := hbw.size
    by_cases hlt : k < P.length
    · have hkz : k < Z.length := by have := HL.out; omega
      have c1 : wr.cell? ⟨g, o + k, none⟩ = some (.int .i64 ((P[k] : Nat) : Int)) := by
        rw [← hN.get k hlt hkz]; exact (hbw.cell (p := ⟨g, o + k, none⟩) hg).trans (HC.out k hkz)
      have hpt := hN.pts.get k hlt
      have HA := Lib.hid (appendEnc_at P k hlt hN.pts hPl _ wr hown hw0)
      have HBW := Lib.hid hbw
      clear hown hbw
      go_wp2_with (first | (go_at_call 90; refine (code_pt _ hpt _).mono ?_; rintro e w' ⟨rfl, rfl⟩) | (go_at_call 91; refine HA.out.mono ?_; rintro e w1 ⟨v1, rfl, hown1, hb1⟩))
      go_roundw
      case rel => exact ⟨k + 1, by omega, by go_num, hown1, HBW.out.trans hb1⟩
      case measure => simp [intOf]; omega
    · obtain rfl : k = P.length := by omega
      by_cases hR : R = []
      · have k1 : ¬ ((P.length : Nat) : Int) < (Z.length : Int) := by have := HL.out; rw [hR, List.length_nil] at this; omega
        rw [List.take_length] at hown
        have hconv := row_back hown
        have HR := Lib.hid hR
        clear hown hR
        go_wp2
        go_ret2
        exact ⟨fun _ => ⟨rfl, hbw⟩, fun h => absurd HR.out h⟩
      · have hpos : 0 < R.length := List.length_pos_iff.2 hR
        have hkz : P.length < Z.length := by have := HL.out; omega
        have hbad := Lib.hid (hN.bad hkz)
        have c1 : wr.cell? ⟨g, o + P.length, none⟩ = some (.int .i64 Z[P.length]) := (hbw.cell (p := ⟨g, o + P.length, none⟩) hg).trans (HC.out _ hkz)
        have HR := Lib.hid hR
        clear hown hR
        go_wp2_with (go_at_call 90; refine (code_npt _ hbad.out _).mono ?_; rintro e w' ⟨rfl, rfl⟩)
        go_ret2
        exact ⟨fun h => absurd h HR.out, fun _ => ⟨rfl, hbw⟩⟩
set_option maxRecDepth 100000 in
set_option maxHeartbeats 4000000 in
theorem make_none (a : Option Addr) (cap : Nat) (w : World) :
    Calls Tryd.prog 67 #[.slice a 0 cap] w (MakeRet [] w) := by
  obtain ⟨i0, hi, hz0, hz1, hz2⟩ := info_parts byteInfo2
  go_enter Tryd.func67, Tryd.ntmps67
  go_wp2_with (at_make; refine wpList_make_own _ rfl _ _ 121 rfl w.heap.size 5 i0 (.int .u8 0) 1 Tryd.underlying121 hi hz0 hz1 _ _ _ 0 rfl rfl rfl ?b2 ?b3 (Nat.le_refl _) ?_)
  case b2 => rw [hz2]; omega
  case b3 => unfold maxLen; omega
  intro w0 hown0 hgrow0
  have hconv := row_back (l := []) hown0
  go_wp2
  refine wp_loop_rounds 1 ?_
  rw [rounds_succ]
  go_wp2
  go_ret2
  exact ⟨rfl, (Below.refl _ _).grown hgrow0 (Nat.le_refl _) (fun k h => by cases h)⟩
theorem make_ok (v : Value) (P : List Nat) (hP : Pts P) (hl : P.length ≤ 200000) (w : World) (h : SliceAt w v (asInts P)) : Calls Tryd.prog 67 #[v] w (MakeRet P w) := by
  rcases h with ⟨h0, a, c, rfl⟩ | ⟨g, o, cap, rfl, hg, hc⟩
  · have : P = [] := by have := congrArg List.length h0; rw [asInts_length] at this; exact List.eq_nil_of_length_eq_zero this
    subst this
    exact make_none a c w
  · have hN : Nums (asInts P) P [] := ⟨by simp, hP, fun _ _ h => by cases h⟩
    exact (make_some g o cap _ P [] hN (by rw [asInts_length]; exact hl) w hg hc).mono fun e w' h => h.1 rfl
theorem make_bad (v : Value) (Z : List Int) (P : List Nat) (R : List Int) (hN : Nums Z P R) (hR : R ≠ []) (hl : Z.length ≤ 200000) (w : World) (h : SliceAt w v Z) :
    Calls Tryd.prog 67 #[v] w fun e w' => e = .returned (.tuple #[.string ⟨#[]⟩, .int .i64 2]) ∧ Below w.heap.size w w' := by
  rcases h with ⟨h0, a, c, rfl⟩ | ⟨g, o, cap, rfl, hg, hc⟩
  · have := hN.length
    rw [h0, List.length_nil] at this
    exact absurd (List.eq_nil_of_length_eq_zero (by omega)) hR
  · exact (make_some g o cap _ P R hN hl w hg hc).mono fun e w' h => h.2 hR

theorem IntsAt.form {w : World} {v : Value} {P : List Nat} (h : IntsAt w v P) : ∃ a c, v = .slice a P.length c := by
  rcases h with ⟨rfl, h⟩ | ⟨g, cap, hv, _⟩
  · exact ⟨_, _, h⟩
  · exact ⟨_, _, hv⟩
/-! ### the law on Points -/
end Go.Proofs.YthjooopppidcfaaDoor.Cp
