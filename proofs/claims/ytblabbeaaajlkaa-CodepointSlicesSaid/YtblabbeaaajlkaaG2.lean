import Derived.Test.YtblabbeaaajlkaaG1
import Derived.Lib.UnsafeStr
namespace Go.Proofs.Ytblabbeaaajlkaa
open Go.RowKit
open U

theorem byteInfo2 : (Try.prog.info? 5).map (fun i => (i.zero, i.size, i.bytes)) = some (some (.int .u8 0), 1, 1) := by kernel_rfl
theorem further_int (z : Int) (h0 : 0 ≤ z) (h1 : z ≤ 1114111) (w : World) :
    Calls Try.prog 48 #[.int .i64 z] w fun e w' => e = .returned (.int .u8 (128 + z % 64)) ∧ w = w' := by
  obtain ⟨p, rfl⟩ := Int.eq_ofNat_of_zero_le h0
  have := further_any p (by omega) w
  rw [show ((128 + p % 64 : Nat) : Int) = 128 + (p : Int) % 64 by omega] at this
  exact this
theorem cells_new (w : World) (C : Array Value) (t : TypeId) (xs : List Value) (hx : C.toList = xs) : ∀ j u, xs[j]? = some u → (w.alloc (.cells C t)).cell? ((⟨w.heap.size, 0, none⟩ : Addr).add j) = some u := by
  intro j u h
  have e : ((⟨w.heap.size, 0, none⟩ : Addr).add j) = ⟨w.heap.size, j, none⟩ := by unfold Addr.add; simp only []; split <;> simp_all
  have := World.cell?_alloc_mark w C t (0, 0) j
  rw [e]
  refine this.trans ?_
  subst hx
  simpa using h

/-- What appendEncoding hands back. -/
def AppRet (base : Nat) (l : List UInt8) (w : World) (e : Ending) (w' : World) : Prop := ∃ v, e = .returned v ∧ w'.ownsRow base 5 1 v l.length (Lib.byteCells l) ∧ Below base w w'
theorem appRet_of {base : Nat} {acc l : List UInt8} {news : List Value} {w w' : World} {v : Value} {e : Ending} {n : Nat} (he : e = .returned v) (hn : n = (acc ++ l).length) (hx : news = Lib.byteCells l) (ho : w'.ownsRow base 5 1 v n (Lib.byteCells acc ++ news)) (hb : Below base w w') : AppRet base (acc ++ l) w e w' := by
  subst hn hx
  rw [← Lib.byteCells_append] at ho
  exact ⟨v, he, ho, hb⟩
theorem news1 (p : Nat) (h : p < 128) : [Value.int .u8 (p : Int)] = Lib.byteCells (enc p) := by
  unfold enc encN
  rw [if_pos h]
  simp only [List.map_cons, List.map_nil, Lib.byteCells, u8_toNat p (by omega)]
theorem news2 (p : Nat) (h0 : ¬ p < 128) (h : p < 2048) : [Value.int .u8 (192 + (p : Int) / 64), Value.int .u8 (128 + (p : Int) % 64)] = Lib.byteCells (enc p) := by
  unfold enc encN
  rw [if_neg h0, if_pos h]
  simp only [List.map_cons, List.map_nil, Lib.byteCells, u8_toNat (192 + p / 64) (by omega), u8_toNat (128 + p % 64) (by omega)]
  rw [show (192 + (p : Int) / 64) = ((192 + p / 64 : Nat) : Int) by omega, show (128 + (p : Int) % 64) = ((128 + p % 64 : Nat) : Int) by omega]
theorem news3 (p : Nat) (h0 : ¬ p < 2048) (h : p < 65536) : [Value.int .u8 (224 + (p : Int) / 4096), Value.int .u8 (128 + (p : Int) / 64 % 64), Value.int .u8 (128 + (p : Int) % 64)] = Lib.byteCells (enc p) := by
  unfold enc encN
  rw [if_neg (by omega), if_neg h0, if_pos h]
  simp only [List.map_cons, List.map_nil, Lib.byteCells, u8_toNat (224 + p / 4096) (by omega), u8_toNat (128 + p % 64) (by omega), u8_toNat (128 + p / 64 % 64) (by omega)]
  rw [show (224 + (p : Int) / 4096) = ((224 + p / 4096 : Nat) : Int) by omega, show (128 + (p : Int) % 64) = ((128 + p % 64 : Nat) : Int) by omega, show (128 + (p : Int) / 64 % 64) = ((128 + p / 64 % 64 : Nat) : Int) by omega]
theorem news4 (p : Nat) (h0 : ¬ p < 65536) (h : p ≤ 1114111) : [Value.int .u8 (240 + (p : Int) / 262144), Value.int .u8 (128 + (p : Int) / 4096 % 64), Value.int .u8 (128 + (p : Int) / 64 % 64), Value.int .u8 (128 + (p : Int) % 64)] = Lib.byteCells (enc p) := by
  unfold enc encN
  rw [if_neg (by omega), if_neg (by omega), if_neg h0]
  simp only [List.map_cons, List.map_nil, Lib.byteCells, u8_toNat (240 + p / 262144) (by omega), u8_toNat (128 + p % 64) (by omega), u8_toNat (128 + p / 64 % 64) (by omega), u8_toNat (128 + p / 4096 % 64) (by omega)]
  rw [show (240 + (p : Int) / 262144) = ((240 + p / 262144 : Nat) : Int) by omega, show (128 + (p : Int) % 64) = ((128 + p % 64 : Nat) : Int) by omega, show (128 + (p : Int) / 64 % 64) = ((128 + p / 64 % 64 : Nat) : Int) by omega, show (128 + (p : Int) / 4096 % 64) = ((128 + p / 4096 % 64 : Nat) : Int) by omega]
theorem or_head (a : Nat) (z : Int) (ha : a % 64 = 0) (ha2 : a < 256) (h0 : 0 ≤ z) (h1 : z < 64) : bits .or .u8 (a : Int) z = (a : Int) + z := by
  obtain ⟨p, rfl⟩ := Int.eq_ofNat_of_zero_le h0
  rw [u8_or_add a p ha ha2 (by omega)]; omega

theorem or_head16 (a : Nat) (z : Int) (ha : a % 16 = 0) (ha2 : a < 256) (h0 : 0 ≤ z) (h1 : z < 16) : bits .or .u8 (a : Int) z = (a : Int) + z := by
  obtain ⟨p, rfl⟩ := Int.eq_ofNat_of_zero_le h0
  rw [u8_or_nat a p ha2 (by omega), nat_join 4 a p (by omega) (by omega)]; omega
set_option maxRecDepth 100000 in
set_option maxHeartbeats 4000000 in
theorem appendEnc_any (p : Nat) (hp : p ≤ 1114111) (base : Nat) (acc : List UInt8) (v : Value) (w : World) (hown : w.ownsRow base 5 1 v acc.length (Lib.byteCells acc)) (hB : base ≤ w.heap.size) (hlen : acc.length ≤ 1000000) :
    Calls Try.prog 39 #[v, .int .i64 p] w (AppRet base (acc ++ enc p) w) := by
  obtain ⟨i0, hi, hz0, hz1, hz2⟩ := info_parts byteInfo2
  by_cases h1 : p < 128
  · have HN := Lib.hid (news1 p h1)
    have HL := Lib.hid (show (enc p).length = 1 by rw [enc_len, if_pos h1])
    go_enter Try.func39, Try.ntmps39
    go_wp2_with (at_builtin; refine wpList_append_own _ rfl _ _ 55 rfl base 5 i0 (.int .u8 0) 1 1 Try.underlying55 hi hz0 hz1 hz2 rfl (by decide) _ _ _ rfl (hown.alloc _) ⟨w.heap.size, 0, none⟩ 1 1 [.int .u8 (p : Int)] rfl rfl (cells_new _ _ _ _ rfl) (by intro u hu; simp at hu; subst hu; rfl) (by unfold maxLen; omega) (by omega) (by simp; omega) ?_; intro v1 w1 hown1 hgrow1 _)
    go_ret
    exact appRet_of rfl (by rw [List.length_append, HL.out]) HN.out hown1 (((Below.refl base w).alloc hB _).grown hgrow1 (by simp; omega) (fun j e => (hown.lt j e).1))
  by_cases h2 : p < 2048
  · have HN := Lib.hid (news2 p h1 h2)
    have HL := Lib.hid (show (enc p).length = 2 by rw [enc_len, if_neg h1, if_pos h2])
    have ho := or_head 192 ((p : Int) / 64) (by decide) (by decide) (by omega) (by omega)
    go_enter Try.func39, Try.ntmps39
    go_wp2_with (first | (go_at_call 48; refine (further_int _ (by omega) (by omega) _).mono ?_; rintro e w' ⟨rfl, rfl⟩) | (at_builtin; refine wpList_append_own _ rfl _ _ 55 rfl base 5 i0 (.int .u8 0) 1 1 Try.underlying55 hi hz0 hz1 hz2 rfl (by decide) _ _ _ rfl (hown.alloc _) ⟨w.heap.size, 0, none⟩ 2 2 [.int .u8 (192 + (p : Int) / 64), .int .u8 (128 + (p : Int) % 64)] rfl rfl (cells_new _ _ _ _ rfl) (by intro u hu; simp at hu; rcases hu with rfl | rfl <;> rfl) (by unfold maxLen; omega) (by omega) (by simp; omega) ?_; intro v1 w1 hown1 hgrow1 _))
    go_ret
    exact appRet_of rfl (by rw [List.length_append, HL.out]) HN.out hown1 (((Below.refl base w).alloc hB _).grown hgrow1 (by simp; omega) (fun j e => (hown.lt j e).1))
  by_cases h3 : p < 65536
  · have HN := Lib.hid (news3 p h2 h3)
    have HL := Lib.hid (show (enc p).length = 3 by rw [enc_len, if_neg h1, if_neg h2, if_pos h3])
    have ho := or_head16 224 ((p : Int) / 4096) (by decide) (by decide) (by omega) (by omega)
    have k1 : ¬ (p : Int) < 128 := by omega
    have k2 : ¬ (p : Int) < 2048 := by omega
    have k3 : (p : Int) < 65536 := by omega
    clear h1 h2 h3
    go_enter Try.func39, Try.ntmps39
    go_wp2_with (first | (go_at_call 48; refine (further_int _ (by omega) (by omega) _).mono ?_; rintro e w' ⟨rfl, rfl⟩) | (at_builtin; refine wpList_append_own _ rfl _ _ 55 rfl base 5 i0 (.int .u8 0) 1 1 Try.underlying55 hi hz0 hz1 hz2 rfl (by decide) _ _ _ rfl (hown.alloc _) ⟨w.heap.size, 0, none⟩ 3 3 [.int .u8 (224 + (p : Int) / 4096), .int .u8 (128 + (p : Int) / 64 % 64), .int .u8 (128 + (p : Int) % 64)] rfl rfl (cells_new _ _ _ _ rfl) (by intro u hu; simp at hu; rcases hu with rfl | rfl | rfl <;> rfl) (by unfold maxLen; omega) (by omega) (by simp; omega) ?_; intro v1 w1 hown1 hgrow1 _))
    go_ret
    exact appRet_of rfl (by rw [List.length_append, HL.out]) HN.out hown1 (((Below.refl base w).alloc hB _).grown hgrow1 (by simp; omega) (fun j e => (hown.lt j e).1))
  · have HN := Lib.hid (news4 p h3 hp)
    have HL := Lib.hid (show (enc p).length = 4 by rw [enc_len, if_neg h1, if_neg h2, if_neg h3])
    have ho := or_head16 240 ((p : Int) / 262144) (by decide) (by decide) (by omega) (by omega)
    have k1 : ¬ (p : Int) < 128 := by omega
    have k2 : ¬ (p : Int) < 2048 := by omega
    have k3 : ¬ (p : Int) < 65536 := by omega
    clear h1 h2 h3
    go_enter Try.func39, Try.ntmps39
    go_wp2_with (first | (go_at_call 48; refine (further_int _ (by omega) (by omega) _).mono ?_; rintro e w' ⟨rfl, rfl⟩) | (at_builtin; refine wpList_append_own _ rfl _ _ 55 rfl base 5 i0 (.int .u8 0) 1 1 Try.underlying55 hi hz0 hz1 hz2 rfl (by decide) _ _ _ rfl (hown.alloc _) ⟨w.heap.size, 0, none⟩ 4 4 [.int .u8 (240 + (p : Int) / 262144), .int .u8 (128 + (p : Int) / 4096 % 64), .int .u8 (128 + (p : Int) / 64 % 64), .int .u8 (128 + (p : Int) % 64)] rfl rfl (cells_new _ _ _ _ rfl) (by intro u hu; simp at hu; rcases hu with rfl | rfl | rfl | rfl <;> rfl) (by unfold maxLen; omega) (by omega) (by simp; omega) ?_; intro v1 w1 hown1 hgrow1 _))
    go_ret
    exact appRet_of rfl (by rw [List.length_append, HL.out]) HN.out hown1 (((Below.refl base w).alloc hB _).grown hgrow1 (by simp; omega) (fun j e => (hown.lt j e).1))
end Go.Proofs.Ytblabbeaaajlkaa
