/- Layer 3: the reference's Breaks. -/
import Derived.Test.YthjooopppidcfaaDoorKt
namespace Go.Proofs.YthjooopppidcfaaDoor
open Go.RowKit Go.Shelf
open Gc

theorem info60 : (Tryd.prog.info? 60).map (fun i => (i.zero, i.size, i.bytes)) = some (some (.agg #[.int .i64 0, .int .i64 0]), 2, 16) := by kernel_rfl
theorem bat_of60 {w : World} {b : Nat} {v : Value} {l : List (Nat × Int)} (h : w.ownsRow b 60 2 v l.length (rowB l)) : ∃ A cap, v = .slice A l.length cap ∧ BAt w A l := by
  have h2 := h
  rcases h.2 with ⟨hv, h0⟩ | ⟨g, cap, cur, hv, hb, hg, _⟩
  · have : l = [] := List.eq_nil_of_length_eq_zero h0
    subst this
    exact ⟨none, 0, hv, .inl rfl⟩
  · subst hv
    refine ⟨_, cap, rfl, .inr ⟨g, rfl, (Array.getElem?_eq_some_iff.1 hg).1, fun k hk => ?_⟩⟩
    have e := rowB_get l k hk
    refine ⟨?_, ?_⟩
    · rw [h2.cellAt (k * 2) (by omega)]; exact e.1
    · rw [h2.cellAt (k * 2 + 1) (by omega)]; exact e.2
def RefBrk (P : List Nat) (w : World) (e : Ending) (w' : World) : Prop := ∃ A cap, e = .returned (.tuple #[.slice A (ubrk P).length cap, .bool true]) ∧ BAt w' A (ubrk P) ∧ Below w.heap.size w w'
set_option maxRecDepth 100000 in
set_option maxHeartbeats 1000000 in
theorem refBreaks_bad {s P bad} (h : Str s P bad) (hb : bad ≠ []) (w : World) : Calls Tryd.prog 28 #[.string s] w (RefNone w) := by
  go_enter Tryd.func28, Tryd.ntmps28
  go_wp2_with (go_at_call 38; refine (clusters_bad h hb _).mono ?_; rintro e w1 ⟨rfl, hb1⟩)
  go_ret2
  exact ⟨rfl, hb1⟩

set_option maxRecDepth 100000 in
set_option maxHeartbeats 4000000 in
theorem refBreaks_ok {s P} (h : Str s P []) (hsm : P.length ≤ 1000) (w : World) : Calls Tryd.prog 28 #[.string s] w (RefBrk P w) := by
  obtain ⟨i0, hi, hz0, hz1, hz2⟩ := info_parts info60
  have cC := clusters_ok h hsm w
  have hle : (segC P).length ≤ 1000 := by rw [segC_len, ← clu_len]; exact Nat.le_trans (clu_le P) hsm
  have hbl : (bl (cls (cp P))).length = (segC P).length + 1 := by rw [bl_len, segC_len]
  have cK := fun A cap k h0 hk w' hA => refKind_any (segC P) A cap k h0 hk hle w' hA
  have BG := Go.Lib.hid (fun k h => bl_get P k h)
  have BN := Go.Lib.hid (fun k h => brkTo_none P k h)
  have BS := Go.Lib.hid (fun k h0 h => brkTo_some P k h0 h)
  have BE := Go.Lib.hid (fun k h1 hk hn => brkTo_end P k h1 hk hn)
  have KR := Go.Lib.hid (fun k => show 0 ≤ Sg.kindAt (segC P) k from (Sg.kindB_range _ _ _).1)
  unfold CluRet at cC
  obtain ⟨n, hn⟩ : ∃ n, (segC P).length = n := ⟨_, rfl⟩
  rw [hn] at cC hle hbl
  simp only [hn] at cK
  have NN := Go.Lib.hid hn
  have BL := Go.Lib.hid hbl
  clear hn hbl
  go_enter Tryd.func28, Tryd.ntmps28
  go_wp2_with (go_at_call 38; (with_reducible refine cC.mono ?_); rintro e w2 ⟨g, cap, A, cap2, rfl, hCs, hCf, hb2⟩; have CS := Go.Lib.hid hCs; have CF := Go.Lib.hid hCf; have B2 := Go.Lib.hid hb2; clear hCs hCf hb2)
  clear cC
  go_loopw [7, 8] (fun v i wr => ∃ k : Nat, 1 ≤ k ∧ (k ≤ n ∨ k = 1) ∧ i = .int .i64 (k : Nat) ∧ wr.ownsRow w2.heap.size 60 2 v (brkTo P k).length (rowB (brkTo P k)) ∧ Hid (Below w2.heap.size w2 wr)) (fun _ i _ => n - (RowKit.intOf i).toNat)
  case atStart => exact ⟨1, by omega, .inr rfl, rfl, World.ownsRow_nil _ _ _ _, Go.Lib.hid (Below.refl _ _)⟩
  case round =>
    obtain ⟨k, hk1, hkn, rfl, hown, HB⟩ := hrel
    have hsz := HB.out.size
    by_cases hlt : k < n
    · have ck := cK A cap2 k hk1 hlt wr (CF.out.below HB.out (Nat.le_refl _))
      have hgw : g < w2.heap.size := CS.out.1
      have hgr : g < wr.heap.size := by omega
      have cf := (HB.out.cell (p := ⟨g, k, none⟩) CS.out.1).trans (CS.out.2 k (by rw [BL.out]; omega))
      rw [BG.out k (by rw [BL.out]; omega)] at cf
      have hlen := brkTo_len P k
      have hk0 := KR.out k
      by_cases h0 : Sg.kindAt (segC P) k = 0
      · rw [h0] at ck
        have HN := Go.Lib.hid (BN.out k h0)
        clear h0 hkn cf hk0
        go_wp2_with (go_at_call 53; (with_reducible refine ck.mono ?_); rintro en w3 ⟨rfl, hb3⟩; have B3 := Go.Lib.hid hb3; clear hb3)
        go_roundw
        case rel => exact ⟨k + 1, by omega, .inl (by omega), by go_num, by rw [HN.out]; exact Cp.ownsRow_below hown B3.out, Go.Lib.hid (HB.out.trans (B3.out.mono hsz))⟩
        case measure => simp [RowKit.intOf]; omega
      · have HN := Go.Lib.hid (BS.out k hk1 h0)
        generalize Sg.kindAt (segC P) k = kd at ck h0 HN hk0
        have kz : 0 < kd := by omega
        generalize cut P k = f at cf HN
        clear h0 hkn hk0
        go_wp2_with (first
          | (go_at_call 53; (with_reducible refine ck.mono ?_); rintro en w3 ⟨rfl, hb3⟩; (have B3 := Go.Lib.hid hb3; have cf3 := (hb3.cell (p := ⟨g, k, none⟩) hgr).trans cf; have own3 := Cp.ownsRow_below hown hb3; have hs3 := hb3.size; clear hb3))
          | (at_builtin; refine wpList_append_own _ rfl _ _ 55 rfl w2.heap.size 60 i0 (.agg #[.int .i64 0, .int .i64 0]) 2 16 Tryd.underlying55 hi hz0 hz1 hz2 rfl (by decide) _ _ _ rfl (own3.alloc _) ⟨w3.heap.size, 0, none⟩ 1 1 [.int .i64 (f : Nat), .int .i64 kd] rfl rfl (cell_new2 _ _ _ _) (by intro u hu; simp at hu; rcases hu with rfl | rfl <;> rfl) (by unfold maxLen; omega) (by omega) (by simp; omega) ?_; intro v1 w7 hown1 hgrow1 _))
        go_roundw
        case rel =>
          refine ⟨k + 1, by omega, .inl (by omega), by go_num, ?_, Go.Lib.hid (((HB.out.trans (B3.out.mono hsz)).alloc (by omega) _).grown hgrow1 (by simp; omega) (fun j e => (own3.lt j e).1))⟩
          rw [HN.out, rowB_snoc, List.length_append]; exact hown1
        case measure => simp [RowKit.intOf]; omega
    · have hend := BE.out k hk1 (by rw [NN.out]; exact hkn) (by rw [NN.out]; exact hlt)
      rw [hend] at hown
      have HO := Go.Lib.hid hown
      clear hend hown hkn
      go_wp2
      go_ret2
      obtain ⟨A', cap', rfl, hBA⟩ := bat_of60 HO.out
      exact ⟨A', cap', rfl, hBA, B2.out.trans (HB.out.mono B2.out.size)⟩
end Go.Proofs.YthjooopppidcfaaDoor
