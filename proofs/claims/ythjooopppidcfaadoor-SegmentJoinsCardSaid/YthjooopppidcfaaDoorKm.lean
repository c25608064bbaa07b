/- Layer 3: Breaks. -/
import Derived.Test.YthjooopppidcfaaDoorKh
import Derived.Test.YthjooopppidcfaaDoorKk
import Derived.Test.YthjooopppidcfaaDoorKl
namespace Go.Proofs.YthjooopppidcfaaDoor
open Go.RowKit Go.Shelf
open Gc

def brkTo (P : List Nat) (i : Nat) : List (Nat × Int) := ((List.range i).filter fun k => decide (0 < k) && decide (Sg.kindAt (segC P) k ≠ 0)).map fun k => (cut P k, Sg.kindAt (segC P) k)
theorem brkTo_all (P : List Nat) : brkTo P (segC P).length = ubrk P := rfl
theorem brkTo_one (P : List Nat) : brkTo P 1 = [] := rfl
theorem brkTo_none (P : List Nat) (k : Nat) (h : Sg.kindAt (segC P) k = 0) : brkTo P (k + 1) = brkTo P k := by
  unfold brkTo
  rw [List.range_succ, List.filter_append, List.map_append]
  simp [h]
theorem brkTo_some (P : List Nat) (k : Nat) (h0 : 0 < k) (h : Sg.kindAt (segC P) k ≠ 0) : brkTo P (k + 1) = brkTo P k ++ [(cut P k, Sg.kindAt (segC P) k)] := by
  unfold brkTo
  rw [List.range_succ, List.filter_append, List.map_append]
  simp [h, h0]
theorem brkTo_end (P : List Nat) (k : Nat) (h1 : 1 ≤ k) (hk : k ≤ (segC P).length ∨ k = 1) (hn : ¬ k < (segC P).length) : brkTo P k = ubrk P := by
  rcases hk with hk | rfl
  · have : k = (segC P).length := by omega
    rw [this, brkTo_all]
  · rw [← brkTo_all]
    have : (segC P).length = 0 ∨ (segC P).length = 1 := by omega
    rcases this with h | h <;> rw [h] <;> rfl
theorem brkTo_len (P : List Nat) (k : Nat) : (brkTo P k).length ≤ k := by
  unfold brkTo
  rw [List.length_map]
  have := List.length_filter_le (fun k => decide (0 < k) && decide (Sg.kindAt (segC P) k ≠ 0)) (List.range k)
  rw [List.length_range] at this
  exact this
def rowB (l : List (Nat × Int)) : List Value := l.flatMap fun x => [.int .i64 (x.1 : Nat), .int .i64 x.2]
theorem rowB_snoc (l : List (Nat × Int)) (x : Nat × Int) : rowB (l ++ [x]) = rowB l ++ [.int .i64 (x.1 : Nat), .int .i64 x.2] := by simp [rowB]
theorem rowB_len (l : List (Nat × Int)) : (rowB l).length = l.length * 2 := by
  induction l with
  | nil => rfl
  | cons a l ih => simp [rowB, Nat.add_mul] at *; omega
theorem rowB_get (l : List (Nat × Int)) : ∀ (k : Nat) (h : k < l.length), (rowB l)[k * 2]? = some (.int .i64 (l[k].1 : Nat)) ∧ (rowB l)[k * 2 + 1]? = some (.int .i64 l[k].2) := by
  induction l with
  | nil => intro k h; simp at h
  | cons a l ih =>
    intro k h
    have e : rowB (a :: l) = .int .i64 (a.1 : Nat) :: .int .i64 a.2 :: rowB l := rfl
    rw [e]
    cases k with
    | zero => exact ⟨rfl, rfl⟩
    | succ k =>
      have := ih k (by simpa using h)
      rw [show (k + 1) * 2 = k * 2 + 1 + 1 by omega]
      simpa using this
theorem cell_new2 (w : World) (a b : Value) (t : TypeId) : ∀ j u, [a, b][j]? = some u → (w.alloc (.cells #[a, b] t)).cell? ((⟨w.heap.size, 0, none⟩ : Addr).add j) = some u := by
  intro j u hj
  match j, hj with
  | 0, hj => simp at hj; subst hj; simp [Addr.add]
  | 1, hj => simp at hj; subst hj; simp [Addr.add]
theorem info59 : (Tryd.prog.info? 59).map (fun i => (i.zero, i.size, i.bytes)) = some (some (.agg #[.int .i64 0, .int .i64 0]), 2, 16) := by kernel_rfl

/-- Breaks in memory, read. -/
def BAt (w : World) (A : Option Addr) (l : List (Nat × Int)) : Prop := l = [] ∨ ∃ g, A = some ⟨g, 0, none⟩ ∧ g < w.heap.size ∧
  ∀ k (h : k < l.length), w.cell? ⟨g, k * 2, none⟩ = some (.int .i64 (l[k].1 : Nat)) ∧ w.cell? ⟨g, k * 2 + 1, none⟩ = some (.int .i64 l[k].2)
theorem BAt.below {w w' : World} {A : Option Addr} {l : List (Nat × Int)} (h : BAt w A l) {n : Nat} (hb : Below n w w') (hn : w.heap.size ≤ n) : BAt w' A l := by
  rcases h with h | ⟨g, h1, h2, h3⟩
  · exact .inl h
  · have hg := Nat.lt_of_lt_of_le h2 hn
    exact .inr ⟨g, h1, Nat.lt_of_lt_of_le h2 hb.size, fun k hk => ⟨(hb.cell (p := ⟨g, k * 2, none⟩) hg).trans (h3 k hk).1, (hb.cell (p := ⟨g, k * 2 + 1, none⟩) hg).trans (h3 k hk).2⟩⟩
theorem bat_of {w : World} {b : Nat} {v : Value} {l : List (Nat × Int)} (h : w.ownsRow b 59 2 v l.length (rowB l)) : ∃ A cap, v = .slice A l.length cap ∧ BAt w A l := by
  have h2 := h
  rcases h.2 with ⟨hv, h0⟩ | ⟨g, cap, cur, hv, hb, hg, _⟩
  · have : l = [] := List.eq_nil_of_length_eq_zero h0
    subst this
    exact ⟨none, 0, hv, .inl rfl⟩
  · subst hv
    refine ⟨_, cap, rfl, .inr ⟨g, rfl, (Array.getElem?_eq_some_iff.1 hg).1, fun k hk => ?_⟩⟩
    have e := rowB_get l k hk
    refine ⟨?_, ?_⟩
    · rw [h2.cellAt (k * 2) (by omega)]; exact e.1
    · rw [h2.cellAt (k * 2 + 1) (by omega)]; exact e.2

/-- What Breaks hands back. -/
def BreaksRet (P : List Nat) (w : World) (e : Ending) (w' : World) : Prop := ∃ A cap, e = .returned (.tuple #[.slice A (ubrk P).length cap, .int .i64 0]) ∧ BAt w' A (ubrk P) ∧ Below w.heap.size w w'

set_option maxRecDepth 100000 in
set_option maxHeartbeats 2000000 in
theorem breaks_bad {s P bad} (h : Str s P bad) (hb : bad ≠ []) (w : World) : Calls Tryd.prog 27 #[.string s] w (NoneRet w) := by
  go_enter Tryd.func27, Tryd.ntmps27
  go_wp2_with (go_at_call 35; refine (read_bad h hb _).mono ?_; rintro e w1 ⟨rfl, hb1⟩)
  go_ret2
  exact ⟨rfl, hb1.alloc hb1.size _⟩

theorem kindAt_cat (P : List Nat) (k : Nat) : Sg.kindAt (segC P) k = Sg.kindB (if 2 ≤ k then Sg.cat (Cls (clu P)) (k - 2) else -1) (Sg.cat (Cls (clu P)) (k - 1)) (Sg.cat (Cls (clu P)) k) := by
  rw [clu_cls]; rfl

set_option maxRecDepth 100000 in
set_option maxHeartbeats 4000000 in
theorem breaks_ok {s P} (h : Str s P []) (hP : P.length ≤ 1000) (w : World) (hT : Tabs w) : Calls Tryd.prog 27 #[.string s] w (BreaksRet P w) := by
  obtain ⟨i0, hi, hz0, hz1, hz2⟩ := info_parts info59
  have cR := read_ok h hP w hT
  have hlc : (clu P).length ≤ 1000 := Nat.le_trans (clu_le P) hP
  have cP := fun g cap pc A k w' h0 hi R => place_any (clu P) g cap P.length pc A k w' h0 hi hlc R
  have cK := fun g e a b w' R => breakKind_any g e a b w' R
  have KA := Go.Lib.hid (fun k => kindAt_cat P k)
  have CG := Go.Lib.hid (fun k h => clu_get P k h)
  have HLS := Go.Lib.hid (show (segC P).length = (clu P).length by rw [segC_len, clu_len])
  obtain ⟨n, hn⟩ : ∃ n, (clu P).length = n := ⟨_, rfl⟩
  have NN := Go.Lib.hid hn
  rw [hn] at hlc
  simp only [hn] at cP
  clear hT
  go_enter Tryd.func27, Tryd.ntmps27
  go_wp2_with (first
    | (go_at_call 35; (with_reducible refine cR.mono ?_); rintro e w1 ⟨A, pc, cv, rfl, hPA, ⟨g, cap, cur, rfl, ho, hr⟩, hb1⟩; have HR := Go.Lib.hid hr; rw [hn]; clear hPA ho hr hn)
    | (go_at_call 50; refine (rules_any _).mono ?_; rintro e w2 ⟨gr, rfl, hrr, hb2⟩; have RU := Go.Lib.hid hrr; clear hrr))
  have hbx := hb2.cell (p := ⟨w1.heap.size, 0, none⟩) (by simp)
  have hby := hb2.cell (p := ⟨w1.heap.size, 1, none⟩) (by simp)
  rw [show (w1.alloc (.cells #[.slice A P.length pc, .slice (some ⟨g, 0, none⟩) n cap] 71)).cell? ⟨w1.heap.size, 0, none⟩ = some (.slice A P.length pc) by simp] at hbx
  rw [show (w1.alloc (.cells #[.slice A P.length pc, .slice (some ⟨g, 0, none⟩) n cap] 71)).cell? ⟨w1.heap.size, 1, none⟩ = some (.slice (some ⟨g, 0, none⟩) n cap) by simp] at hby
  have B12 : Below w1.heap.size w1 w2 := ((Below.refl _ w1).alloc (Nat.le_refl _) _).trans (hb2.mono (by simp))
  have HR2 := Go.Lib.hid (HR.out.below B12 HR.out.1)
  have B02 := Go.Lib.hid (hb1.trans (B12.mono hb1.size))
  have hx12 : w1.heap.size < w2.heap.size := by have := hb2.size; rw [World.size_alloc] at this; omega
  clear hb1 hb2 B12 cR
  go_loopw [6, 8] (fun v i wr => ∃ k : Nat, 1 ≤ k ∧ (k ≤ n ∨ k = 1) ∧ i = .int .i64 (k : Nat) ∧ wr.ownsRow w2.heap.size 59 2 v (brkTo P k).length (rowB (brkTo P k)) ∧ Hid (Below w2.heap.size w2 wr)) (fun _ i _ => n - (intOf i).toNat)
  case atStart => exact ⟨1, by omega, .inr rfl, rfl, World.ownsRow_nil _ _ _ _, Go.Lib.hid (Below.refl _ _)⟩
  case round =>
    obtain ⟨k, hk1, hkn, rfl, hown, HB⟩ := hrel
    have hsz := HB.out.size
    have hx0 := (HB.out.cell (p := ⟨w1.heap.size, 0, none⟩) hx12).trans hbx
    have hx1 := (HB.out.cell (p := ⟨w1.heap.size, 1, none⟩) hx12).trans hby
    clear hbx hby
    by_cases hlt : k < n
    · have hk' : k < (clu P).length := by rw [NN.out]; exact hlt
      have hrow := HR2.out.below HB.out HR2.out.1
      have hgw : g < wr.heap.size := hrow.1
      have hgr : gr < wr.heap.size := Nat.lt_of_lt_of_le RU.out.1 hsz
      have cp := cP g cap pc A k wr (by omega) hlt hrow
      have cf := (hrow.2 k hk').2.1
      rw [CG.out k hk'] at cf
      dsimp only at cf
      have RUr := Go.Lib.hid (RU.out.below HB.out RU.out.1)
      have hkk := KA.out k
      generalize (if 2 ≤ k then Sg.cat (Cls (clu P)) (k - 2) else -1) = e at cp hkk
      generalize Sg.cat (Cls (clu P)) (k - 1) = a at cp hkk
      generalize Sg.cat (Cls (clu P)) k = b at cp hkk
      have ck := fun w' R => cK gr e a b w' R
      have hxw : w1.heap.size < wr.heap.size := by omega
      have hlen := brkTo_len P k
      by_cases h0 : Sg.kindAt (segC P) k = 0
      · rw [h0] at hkk
        simp only [← hkk] at ck
        have HN := Go.Lib.hid (brkTo_none P k h0)
        clear hkk h0 hrow hkn
        go_wp2_with (first
          | (go_at_call 52; (with_reducible refine cp.mono ?_); rintro en w3 ⟨rfl, hb3⟩; have R3 := Go.Lib.hid (RUr.out.below hb3 hgr))
          | (go_at_call 51; (with_reducible refine (ck _ R3.out).mono ?_); rintro en w4 ⟨rfl, hb4⟩; have B34 := Go.Lib.hid (hb3.trans (hb4.mono hb3.size)); clear hb3 hb4))
        go_roundw
        case rel => exact ⟨k + 1, by omega, .inl (by omega), by go_num, by rw [HN.out]; exact Cp.ownsRow_below hown B34.out, Go.Lib.hid (HB.out.trans (B34.out.mono hsz))⟩
        case measure => simp [intOf]; omega
      · have HN := Go.Lib.hid (brkTo_some P k hk1 h0)
        rw [hkk] at h0
        rw [hkk] at HN
        generalize Sg.kindB e a b = kd at ck h0 HN
        have kz : (kd != 0) = true := by simpa using h0
        generalize cut P k = f at cf HN
        clear hkk h0 hrow hkn
        go_wp2_with (first
          | (go_at_call 52; (with_reducible refine cp.mono ?_); rintro en w3 ⟨rfl, hb3⟩; have R3 := Go.Lib.hid (RUr.out.below hb3 hgr))
          | (go_at_call 51; (with_reducible refine (ck _ R3.out).mono ?_); rintro en w4 ⟨rfl, hb4⟩; (have b34 := hb3.trans (hb4.mono hb3.size); have B34 := Go.Lib.hid b34; have hx04 := (b34.cell (p := ⟨w1.heap.size, 0, none⟩) hxw).trans hx0; have hx14 := (b34.cell (p := ⟨w1.heap.size, 1, none⟩) hxw).trans hx1; have cf4 := (b34.cell (p := ⟨g, k * 3 + 1, none⟩) hgw).trans cf; have own4 := Cp.ownsRow_below hown b34; have hs4 := b34.size; clear hb3 hb4 b34))
          | (at_builtin; refine wpList_append_own _ rfl _ _ 52 rfl w2.heap.size 59 i0 (.agg #[.int .i64 0, .int .i64 0]) 2 16 Tryd.underlying52 hi hz0 hz1 hz2 rfl (by decide) _ _ _ rfl (own4.alloc _) ⟨w4.heap.size, 0, none⟩ 1 1 [.int .i64 (f : Nat), .int .i64 kd] rfl rfl (cell_new2 _ _ _ _) (by intro u hu; simp at hu; rcases hu with rfl | rfl <;> rfl) (by unfold maxLen; omega) (by omega) (by simp; omega) ?_; intro v1 w7 hown1 hgrow1 _))
        go_roundw
        case rel =>
          refine ⟨k + 1, by omega, .inl (by omega), by go_num, ?_, Go.Lib.hid (((HB.out.trans (B34.out.mono hsz)).alloc (by omega) _).grown hgrow1 (by simp; omega) (fun j e => (own4.lt j e).1))⟩
          rw [HN.out, rowB_snoc, List.length_append]; exact hown1
        case measure => simp [intOf]; omega
    · have hend := brkTo_end P k hk1 (by rw [HLS.out, NN.out]; exact hkn) (by rw [HLS.out, NN.out]; exact hlt)
      rw [hend] at hown
      have HO := Go.Lib.hid hown
      clear hend hown hkn
      go_wp2
      go_ret2
      obtain ⟨A', cap', rfl, hBA⟩ := bat_of HO.out
      exact ⟨A', cap', rfl, hBA, B02.out.trans (HB.out.mono B02.out.size)⟩
end Go.Proofs.YthjooopppidcfaaDoor
