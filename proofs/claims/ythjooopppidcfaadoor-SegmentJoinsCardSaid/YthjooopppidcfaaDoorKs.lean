/- Layer 3: the reference's clusters. -/
import Derived.Test.YthjooopppidcfaaDoorKr
namespace Go.Proofs.YthjooopppidcfaaDoor
open Go.RowKit Go.Shelf
open Gc

def CluRet (P : List Nat) (w : World) (e : Ending) (w' : World) : Prop :=
  ∃ g cap A cap2, e = .returned (.tuple #[.slice (some ⟨g, 0, none⟩) ((segC P).length + 1) cap, .slice A (segC P).length cap2, .bool true]) ∧ Cs w' g (bl (cls (cp P))) ∧ CsF w' A (segC P) ∧ Below w.heap.size w w'
def CluBad (w : World) (e : Ending) (w' : World) : Prop := e = .returned (.tuple #[.slice none 0 0, .slice none 0 0, .bool false]) ∧ Below w.heap.size w w'
theorem segC_get (P : List Nat) (k : Nat) (h : k < (segC P).length) : ∃ h' : cut P k < P.length, (segC P)[k] = Sg.classOf ((P[cut P k] : Nat) : Int) := by
  have hc : k < (clu P).length := by rw [clu_len, ← segC_len]; exact h
  have h1 := cut_in P k hc
  refine ⟨h1, ?_⟩
  have h2 := cat_at (clu P) k hc
  rw [clu_cls, cat_lt _ k h, clu_get P k hc] at h2
  rw [h2]
  dsimp only
  rw [List.getD_eq_getElem?_getD, List.getElem?_eq_getElem h1]; rfl
theorem pat_ints {w : World} {base : Nat} {v : Value} {P : List Nat} (h : Ints w base v (ptsI P)) : ∃ A c, v = .slice A P.length c ∧ PAt w A P := by
  rcases ints_cases h with ⟨h0, h1⟩ | ⟨g, cap, hg, h1, h2⟩
  · have : P = [] := by
      unfold ptsI at h0
      exact List.map_eq_nil_iff.1 h0
    subst this
    exact ⟨none, 0, h1, .inl rfl⟩
  · rw [ptsI_len] at h1
    refine ⟨_, cap, h1, .inr ⟨g, rfl, h2.1, fun j hj => ?_⟩⟩
    rw [h2.2 j (by rw [ptsI_len]; exact hj)]
    simp [ptsI]

set_option maxRecDepth 100000 in
set_option maxHeartbeats 1000000 in
theorem clusters_bad {s P bad} (h : Str s P bad) (hb : bad ≠ []) (w : World) : Calls Tryd.prog 38 #[.string s] w (CluBad w) := by
  go_enter Tryd.func38, Tryd.ntmps38
  go_wp2_with (go_at_call 18; refine (points_bad h hb _).mono ?_; rintro e w1 ⟨rfl, hb1⟩)
  go_ret3
  exact ⟨rfl, hb1⟩

set_option maxRecDepth 100000 in
set_option maxHeartbeats 4000000 in
theorem clusters_ok {s P} (h : Str s P []) (hsm : P.length ≤ 1000) (w : World) : Calls Tryd.prog 38 #[.string s] w (CluRet P w) := by
  obtain ⟨i0, hi, hz0, hz1, hz2⟩ := info_parts info3
  have cP := points_ok h w
  have cB := fun base v w' hv => ref_blk h base v w' hv
  have cC := fun p w' => refClass3_any p w'
  have hbl : (bl (cls (cp P))).length = (segC P).length + 1 := by rw [bl_len, segC_len]
  have hle : (segC P).length ≤ P.length := by rw [segC_len, ← clu_len]; exact clu_le P
  have SG := Go.Lib.hid (fun k h => segC_get P k h)
  have BG := Go.Lib.hid (fun k h => bl_get P k h)
  unfold RefBlk at cB
  obtain ⟨n, hn⟩ : ∃ n, (segC P).length = n := ⟨_, rfl⟩
  rw [hn] at hle hbl
  have NN := Go.Lib.hid hn
  simp only [hbl] at cB
  have BL := Go.Lib.hid hbl
  generalize Sg.classOf = cf at cC SG
  unfold CluRet
  rw [hn]
  clear hn hbl
  go_enter Tryd.func38, Tryd.ntmps38
  go_wp2_with (first
    | (go_at_call 18; (with_reducible refine cP.mono ?_); rintro e w1 ⟨v1, v2, rfl, hi1, hi2, hb1⟩; obtain ⟨A, pc, rfl, hPA⟩ := pat_ints hi1; have PA := Go.Lib.hid hPA; have HI := Go.Lib.hid hi1; clear hPA hi1 hi2)
    | (go_at_call 19; (with_reducible refine (cB _ _ _ HI.out).mono ?_); rintro e w2 ⟨g, cap, rfl, hCs, hb2⟩; have CS := Go.Lib.hid hCs; have PA2 := Go.Lib.hid (PA.out.below hb2 (Nat.le_refl _)); have B2 := Go.Lib.hid (hb1.trans (hb2.mono hb1.size)); clear hCs))
  clear hb1 hb2 cP cB
  go_loopw [3, 7] (fun v i wr => ∃ k : Nat, k ≤ n ∧ i = .int .i64 (k : Nat) ∧ wr.ownsRow w2.heap.size 3 1 v k (((segC P).take k).map (Value.int .i64)) ∧ Hid (Below w2.heap.size w2 wr)) (fun _ i _ => n - (RowKit.intOf i).toNat)
  case atStart => exact ⟨0, Nat.zero_le _, rfl, World.ownsRow_nil _ _ _ _, Go.Lib.hid (Below.refl _ _)⟩
  case round =>
    obtain ⟨k, hk, rfl, hown, HB⟩ := hrel
    have hsz := HB.out.size
    by_cases hlt : k < n
    · have hks : k < (segC P).length := by rw [NN.out]; exact hlt
      obtain ⟨hcut, hseg⟩ := SG.out k hks
      have hkb : k < (bl (cls (cp P))).length := by rw [BL.out]; omega
      have cf1 := (HB.out.cell (p := ⟨g, k, none⟩) CS.out.1).trans (CS.out.2 k hkb)
      rw [BG.out k hkb] at cf1
      rcases PA2.out with hP0 | ⟨gp, rfl, hgp, hpc⟩
      · rw [hP0] at hcut; exact absurd hcut (Nat.not_lt_zero _)
      · have cp1 := (HB.out.cell (p := ⟨gp, cut P k, none⟩) hgp).trans (hpc (cut P k) hcut)
        have hsn : ((segC P).take (k + 1)).map (Value.int .i64) = ((segC P).take k).map (Value.int .i64) ++ [.int .i64 (cf ((P[cut P k] : Nat) : Int))] := by
          rw [List.take_succ_eq_append_getElem hks, List.map_append, hseg]; rfl
        have SN := Go.Lib.hid hsn
        clear hsn hpc hks hkb hseg
        generalize (P[cut P k] : Nat) = q at cp1 SN
        generalize cut P k = f at cf1 cp1 hcut
        go_wp2_with (first
          | (go_at_call 14; (with_reducible refine (cC _ _).mono ?_); rintro e w6 ⟨rfl, hb6⟩; have own6 := Cp.ownsRow_below hown hb6; have hs6 := hb6.size; have B6 := Go.Lib.hid (HB.out.trans (hb6.mono hsz)); clear hb6)
          | (at_builtin; refine wpList_append_own _ rfl _ _ 37 rfl w2.heap.size 3 i0 (.int .i64 0) 1 8 Tryd.underlying37 hi hz0 hz1 hz2 rfl (by decide) _ _ _ rfl (own6.alloc _) ⟨w6.heap.size, 0, none⟩ 1 1 [.int .i64 (cf (q : Int))] rfl rfl (cell_one_new _ _ _) (by intro u hu; simp at hu; subst hu; rfl) (by unfold maxLen; omega) (by omega) (by simp; omega) ?_; intro v1 w7 hown1 hgrow1 _))
        go_roundw
        case rel =>
          refine ⟨k + 1, by omega, by go_num, ?_, Go.Lib.hid ((B6.out.alloc (by omega) _).grown hgrow1 (by simp; omega) (fun j e => (own6.lt j e).1))⟩
          rw [SN.out]; exact hown1
        case measure => simp [RowKit.intOf]; omega
    · obtain rfl : k = n := by omega
      have hfull : (segC P).take k = segC P := List.take_of_length_le (by rw [NN.out]; exact Nat.le_refl _)
      rw [hfull] at hown
      have HI2 := Go.Lib.hid (show Ints _ w2.heap.size _ (segC P) from by unfold Ints; rw [NN.out]; exact hown)
      have hl2 := Go.Lib.hid (csf_of HI2.out)
      clear hfull hown
      go_wp2
      go_ret3
      obtain ⟨A', cap', hv, hC⟩ := hl2.out
      rw [NN.out] at hv
      exact ⟨g, cap, A', cap', by rw [← hv]; rfl, CS.out.below HB.out CS.out.1, hC, B2.out.trans (HB.out.mono B2.out.size)⟩
end Go.Proofs.YthjooopppidcfaaDoor
