/- Layer 9: rows of bytes; slices.Reverse; decimal, letters, and the reference's Digits and Letters. -/
import Derived.Test.YteahingapnijcaaDoorShelf
import Derived.Test.YteahingapnijcaaDoorN1
import Derived.WalkKit
import Derived.WalkSpells
import Derived.Lib.Hide
import Derived.Laws.OwnMore
import Derived.OwnWalk
import Derived.Maps.AppendAt
import Derived.Lib.UnsafeStr
namespace Go.Proofs.YteahingapnijcaaDoor
open Go.RowKit Go.Lib Go.Shelf Nu9

theorem byteInfo : (Tryd.prog.info? 5).map (fun i => (i.zero, i.size, i.bytes)) = some (some (.int .u8 0), 1, 1) := by kernel_rfl
def encB (b : UInt8) : Value := .int .u8 (b.toNat : Int)
theorem byteCells_map (l : List UInt8) : Lib.byteCells l = l.map encB := by
  induction l with
  | nil => rfl
  | cons x l ih => simp [Lib.byteCells, encB]
theorem mk_of' (O : ByteArray) (l : List UInt8) (h : O.data.toList = l) : O = ⟨l.toArray⟩ := by subst h; rfl
theorem chain {w a b : World} (h1 : Below w.heap.size w a) (h2 : Below a.heap.size a b) : Below w.heap.size w b := h1.trans (h2.mono h1.size)
theorem conv_back (w : World) (a : Addr) (n cap : Nat) (l : List UInt8) (hn : l.length = n)
    (hc : ∀ j (hj : j < l.length), w.cell? (a.add j) = some (.int .u8 (l[j].toNat : Int))) :
    (convert 53 9 (.slice (some a) n cap)).run Tryd.prog w = .ok (.string ⟨l.toArray⟩) w := by
  subst hn
  exact run_convert_bytes_back w 53 9 5 a cap l Tryd.underlying53 Tryd.underlying5 Tryd.underlying9 hc
theorem add0 (g j : Nat) : ((⟨g, 0, none⟩ : Addr).add j) = ⟨g, j, none⟩ := by unfold Addr.add; simp only []; split <;> simp_all
theorem row_back {w : World} {base : Nat} {v : Value} {l : List UInt8} (h : w.ownsRow base 5 1 v l.length (Lib.byteCells l)) : (convert 53 9 v).run Tryd.prog w = .ok (.string ⟨l.toArray⟩) w := by
  rcases h.2 with ⟨hv, h0⟩ | ⟨g, cap, cur, hv, _⟩
  · have : l = [] := List.eq_nil_of_length_eq_zero h0
    subst this hv
    exact run_convert_bytes_nil w 53 5 Tryd.underlying53 Tryd.underlying5 0 0 9 Tryd.underlying9
  · subst hv
    refine conv_back w _ _ _ l rfl fun j hj => ?_
    rw [add0, h.cellAt j (by omega)]
    simp [Lib.byteCells, hj]
theorem grown_put {w : World} {g n : Nat} (d : Array UInt8) : w.grownBy (Sort.putRow encB (Sort.ahead w n) g 0 d) (some g) := by
  refine ⟨rfl, rfl, rfl, by simp, fun k hk hne => ?_⟩
  have : g ≠ k := fun e => hne (by rw [e])
  simp [Sort.putRow, Sort.mapBlock, Sort.ahead, Array.getElem?_modify, this]
/-- What slices.Reverse leaves. -/
def RevRet (base : Nat) (v : Value) (l : List UInt8) (w : World) (e : Ending) (w' : World) : Prop :=
  e = .returned (.tuple #[]) ∧ (convert 53 9 v).run Tryd.prog w' = .ok (.string ⟨l.reverse.toArray⟩) w' ∧ Below base w w'
theorem rev_any {base : Nat} {v : Value} {l : List UInt8} {w : World} (hown : w.ownsRow base 5 1 v l.length (Lib.byteCells l)) (hl : l.length ≤ 1000) (hB : base ≤ w.heap.size) :
    Calls Tryd.prog 52 #[v] w (RevRet base v l w) := by
  rcases hown.2 with ⟨hv, h0⟩ | ⟨g, cap, cur, hv, hb, hg, _⟩
  · have e : l = [] := List.eq_nil_of_length_eq_zero h0
    subst e hv
    refine (show Calls Tryd.prog 52 #[.slice none 0 0] w _ from AnyE.slices_Reverse_empty Tryd.rev52 none 0 w).mono ?_
    rintro e w' ⟨rfl, rfl⟩
    exact ⟨rfl, run_convert_bytes_nil _ 53 5 Tryd.underlying53 Tryd.underlying5 0 0 9 Tryd.underlying9, Below.refl _ _⟩
  · subst hv
    have hlt : g < w.heap.size := (Array.getElem?_eq_some_iff.1 hg).1
    have hH : Sort.Holds encB w g 0 l.toArray := by
      intro j hj
      have hj' : j < l.length := by simpa using hj
      refine ⟨?_, hown.frozenAt (0 + j)⟩
      rw [Nat.zero_add, hown.cellAt j (by omega)]
      simp [byteCells_map, hj', encB]
    refine (show Calls Tryd.prog 52 #[.slice (some ⟨g, 0, none⟩) l.length cap] w _ from AnyE.slices_Reverse Tryd.rev52 encB (fun _ => rfl) g 0 cap l w hH (by omega)).mono ?_
    rintro e w' ⟨rfl, n, rfl⟩
    have hH2 := Sort.holds_putRow encB (Sort.ahead w n) g 0 l.toArray l.reverse.toArray (Sort.holds_ahead encB w n g 0 _ hH) (by simp)
    refine ⟨rfl, conv_back _ _ _ _ l.reverse (by simp) fun j hj => ?_, (Below.refl base w).grown (grown_put _) hB (fun k e => by cases e; exact hb)⟩
    have := (hH2 j (by simpa using hj)).1
    rw [Nat.zero_add] at this
    rw [add0, this, getElem!_pos l.reverse.toArray j (by simpa using hj)]
    simp [encB]
/-- What hands back a string. -/
def StrRet (l : List UInt8) (w : World) (e : Ending) (w' : World) : Prop := e = .returned (.string ⟨l.toArray⟩) ∧ Below w.heap.size w w'
theorem cells_one (k : Nat) (l : List UInt8) : Lib.byteCells (l ++ [UInt8.ofNat k]) = Lib.byteCells l ++ [Value.int .u8 ((UInt8.ofNat k).toNat : Int)] := by
  simp [byteCells_map, encB]
theorem dec_step {N n : Nat} {l : List UInt8} (h : dec N = (if n = 0 then [] else dec n) ++ l) (hn : 0 < n) : dec N = (if n / 10 = 0 then [] else dec (n / 10)) ++ (d8 (n % 10) :: l) := by
  rw [h, if_neg (by omega)]
  by_cases h10 : n < 10
  · rw [dec_lt h10, if_pos (by omega), show n % 10 = n by omega]; rfl
  · rw [dec_ge (by omega), if_neg (by omega)]; simp
theorem dec_first (N : Nat) : dec N = (if N / 10 = 0 then [] else dec (N / 10)) ++ [d8 (N % 10)] := by
  by_cases h10 : N < 10
  · rw [dec_lt h10, if_pos (by omega), show N % 10 = N by omega]; rfl
  · rw [dec_ge (by omega), if_neg (by omega)]
set_option maxRecDepth 100000 in
set_option maxHeartbeats 4000000 in
theorem decimal_any (N : Nat) (hN : N ≤ 999999) (w : World) : Calls Tryd.prog 35 #[.int .i64 (N : Int)] w (StrRet (dec N) w) := by
  obtain ⟨i0, hi, hz0, hz1, hz2⟩ := info_parts byteInfo
  have HF := Lib.hid (dec_first N)
  have HL := Lib.hid (dec_len 5 N (by omega))
  have HB := Lib.hid (show [Value.int .u8 (48 + (N : Int) % 10)] = Lib.byteCells [d8 (N % 10)] by rw [byteCells_map]; simp only [List.map_cons, List.map_nil, encB]; rw [d8_nat (by omega)]; congr 2)
  go_enter Tryd.func35, Tryd.ntmps35
  go_wp2
  go_loopw [0, 3] (fun n v wr => ∃ (k : Nat) (r : List UInt8), n = .int .i64 (k : Nat) ∧ k ≤ 99999 ∧ Hid (dec N = (if k = 0 then [] else dec k) ++ r.reverse) ∧ wr.ownsRow w.heap.size 5 1 v r.length (Lib.byteCells r) ∧ Below w.heap.size w wr) (fun n _ _ => (intOf n).toNat)
  case atStart =>
    refine ⟨N / 10, [d8 (N % 10)], by go_num, by omega, Lib.hid HF.out, ?_, (Below.refl _ w).alloc (Nat.le_refl _) _⟩
    have := World.ownsRow_lit (base := w.heap.size) (e := 5) (size := 1) w #[.int .u8 (48 + (N : Int) % 10)] 1 (Nat.le_refl _) (by decide) rfl
    rw [← HB.out]; exact this
  case round =>
    obtain ⟨k, r, rfl, hk, HD, hown, hbw⟩ := hrel
    have hw0 := hbw.size
    have hrl : r.length ≤ 6 := by
      have h1 := congrArg List.length HD.out
      have h2 := HL.out
      simp only [List.length_append, List.length_reverse] at h1
      omega
    by_cases hlt : 0 < k
    · have HN := Lib.hid (dec_step HD.out hlt)
      have HC := Lib.hid (show Lib.byteCells r ++ [Value.int .u8 (48 + (k : Int) % 10)] = Lib.byteCells (r ++ [d8 (k % 10)]) by rw [byteCells_map, byteCells_map, List.map_append]; simp only [List.map_cons, List.map_nil, encB]; rw [d8_nat (by omega)]; congr 3)
      clear HD HF HL
      go_wp2_with (at_builtin; refine wpList_append_own _ rfl _ _ 53 rfl w.heap.size 5 i0 (.int .u8 0) 1 1 Tryd.underlying53 hi hz0 hz1 hz2 rfl (by decide) _ _ _ rfl (hown.alloc _) ⟨wr.heap.size, 0, none⟩ 1 1 [.int .u8 (48 + (k : Int) % 10)] rfl rfl (cell_one_new _ _ _) (by intro u hu; simp at hu; subst hu; rfl) (by unfold maxLen; omega) (by omega) (by simp; omega) ?_; intro v1 w1 hown1 hgrow1 _)
      go_roundw
      case rel =>
        refine ⟨k / 10, r ++ [d8 (k % 10)], by go_num, by omega, Lib.hid (by rw [HN.out]; simp), ?_, (hbw.alloc hw0 _).grown hgrow1 (by simp; omega) (fun j e => (hown.lt j e).1)⟩
        rw [List.length_append, List.length_singleton, ← HC.out]; exact hown1
      case measure => simp [intOf]; omega
    · have HE := Lib.hid (show dec N = r.reverse by have := HD.out; rw [if_pos (by omega)] at this; exact this)
      have cR := rev_any hown (by omega) hw0
      clear HD HF HL HB
      go_wp2_with (go_at_call 52; (with_reducible refine cR.mono ?_); rintro e w1 ⟨rfl, hconv, hb1⟩)
      go_ret
      rw [HE.out]
      exact ⟨rfl, hbw.trans hb1⟩
theorem ltr_step {N n : Nat} {l : List UInt8} (h : ltr N = ltr n ++ l) (hn : 0 < n) : ltr N = ltr ((n - 1) / 26) ++ (a8 ((n - 1) % 26) :: l) := by
  rw [h, ltr_pos (by omega)]; simp
set_option maxRecDepth 100000 in
set_option maxHeartbeats 4000000 in
theorem letters_any (N : Nat) (hN : N ≤ 999999) (w : World) : Calls Tryd.prog 36 #[.int .i64 (N : Int)] w (StrRet (ltr N) w) := by
  obtain ⟨i0, hi, hz0, hz1, hz2⟩ := info_parts byteInfo
  have HL := Lib.hid (ltr_len 5 N (by omega))
  go_enter Tryd.func36, Tryd.ntmps36
  go_wp2
  go_loopw [0, 3] (fun n v wr => ∃ (k : Nat) (r : List UInt8), n = .int .i64 (k : Nat) ∧ k ≤ 999999 ∧ Hid (ltr N = ltr k ++ r.reverse) ∧ wr.ownsRow w.heap.size 5 1 v r.length (Lib.byteCells r) ∧ Below w.heap.size w wr) (fun n _ _ => (intOf n).toNat)
  case atStart => exact ⟨N, [], rfl, hN, Lib.hid (by simp), World.ownsRow_nil _ _ _ _, Below.refl _ _⟩
  case round =>
    obtain ⟨k, r, rfl, hk, HD, hown, hbw⟩ := hrel
    have hw0 := hbw.size
    have hrl : r.length ≤ 6 := by
      have h1 := congrArg List.length HD.out
      have h2 := HL.out
      simp only [List.length_append, List.length_reverse] at h1
      omega
    by_cases hlt : 0 < k
    · have HN := Lib.hid (ltr_step HD.out hlt)
      have HC := Lib.hid (show Lib.byteCells r ++ [Value.int .u8 (97 + ((k : Int) - 1) % 26)] = Lib.byteCells (r ++ [a8 ((k - 1) % 26)]) by rw [byteCells_map, byteCells_map, List.map_append]; simp only [List.map_cons, List.map_nil, encB]; rw [a8_nat (by omega), show (97 + ((k : Int) - 1) % 26) = ((97 + (k - 1) % 26 : Nat) : Int) by omega])
      clear HD HL
      go_wp2_with (at_builtin; refine wpList_append_own _ rfl _ _ 53 rfl w.heap.size 5 i0 (.int .u8 0) 1 1 Tryd.underlying53 hi hz0 hz1 hz2 rfl (by decide) _ _ _ rfl (hown.alloc _) ⟨wr.heap.size, 0, none⟩ 1 1 [.int .u8 (97 + ((k : Int) - 1) % 26)] rfl rfl (cell_one_new _ _ _) (by intro u hu; simp at hu; subst hu; rfl) (by unfold maxLen; omega) (by omega) (by simp; omega) ?_; intro v1 w1 hown1 hgrow1 _)
      go_roundw
      case rel =>
        refine ⟨(k - 1) / 26, r ++ [a8 ((k - 1) % 26)], by rw [show (((k - 1) / 26 : Nat) : Int) = ((k : Int) - 1) / 26 by omega], by omega, Lib.hid (by rw [HN.out]; simp), ?_, (hbw.alloc hw0 _).grown hgrow1 (by simp; omega) (fun j e => (hown.lt j e).1)⟩
        rw [List.length_append, List.length_singleton, ← HC.out]; exact hown1
      case measure => simp [intOf]; omega
    · have HE := Lib.hid (show ltr N = r.reverse by have := HD.out; rw [show k = 0 by omega, ltr_zero] at this; simpa using this)
      have cR := rev_any hown (by omega) hw0
      clear HD HL
      go_wp2_with (go_at_call 52; (with_reducible refine cR.mono ?_); rintro e w1 ⟨rfl, hconv, hb1⟩)
      go_ret
      rw [HE.out]
      exact ⟨rfl, hbw.trans hb1⟩
end Go.Proofs.YteahingapnijcaaDoor
