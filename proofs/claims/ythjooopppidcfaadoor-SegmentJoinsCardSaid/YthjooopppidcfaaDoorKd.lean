/- Layer 3: the program's read, of a valid string. -/
import Derived.Test.YthjooopppidcfaaDoorKc
namespace Go.Proofs.YthjooopppidcfaaDoor
open Go.RowKit Go.Shelf Go.Lib
open Gc

/-- Another block than b is as it was. -/
def Oth (b : Nat) (W W' : World) : Prop := ∀ k, k ≠ b → W'.heap[k]? = W.heap[k]?
theorem Oth.set2 (W : World) (b i j : Nat) (u v : Value) : Oth b W ((W.setCell ⟨b, i, none⟩ u).setCell ⟨b, j, none⟩ v) := fun k hk =>
  (Below.heap_setCell _ _ _ k hk).trans (Below.heap_setCell _ _ _ k hk)
theorem Oth.lt {b : Nat} {W W' : World} (h : Oth b W W') {k : Nat} (hk : k ≠ b) (hl : k < W.heap.size) : k < W'.heap.size := by
  have := h k hk
  rw [Array.getElem?_eq_getElem hl] at this
  exact (Array.getElem?_eq_some_iff.1 this).1
theorem Oth.pat {b : Nat} {W W' : World} (h : Oth b W W') {A : Option Addr} {P : List Nat} (hp : PAt W A P) (hb : ∀ i, W.cell? ⟨b, 0, none⟩ ≠ some (.int .i64 i)) : PAt W' A P := by
  rcases hp with hp | ⟨g, h1, h2, h3⟩
  · exact .inl hp
  · by_cases h0 : P = []
    · exact .inl h0
    · have hl : 0 < P.length := List.length_pos_iff.2 h0
      have hne : g ≠ b := by
        rintro rfl
        exact hb _ (h3 0 hl)
      exact .inr ⟨g, h1, h.lt hne h2, fun j hj => (World.cell?_of_block (a := ⟨g, j, none⟩) (h g hne)).trans (h3 j hj)⟩
theorem Oth.cobj {b g cap : Nat} {W W' : World} (h : Oth b W W') {C : List Span} {cur : Array Value} (ho : W.heap[g]? = some (.cells cur 93 (0, 0))) (hr : Row W g C) (hne : g ≠ b) : CObj W' (.slice (some ⟨g, 0, none⟩) C.length cap) C :=
  ⟨g, cap, cur, rfl, (h g hne).trans ho, h.lt hne hr.1, fun k hk => ⟨(World.cell?_of_block (a := ⟨g, k * 3, none⟩) (h g hne)).trans (hr.2 k hk).1, (World.cell?_of_block (a := ⟨g, k * 3 + 1, none⟩) (h g hne)).trans (hr.2 k hk).2.1, (World.cell?_of_block (a := ⟨g, k * 3 + 2, none⟩) (h g hne)).trans (hr.2 k hk).2.2⟩⟩

set_option maxRecDepth 100000 in
set_option maxHeartbeats 4000000 in
theorem read_ok {s P} (h : Str s P []) (hsm : P.length ≤ 1000) (w : World) (hT : Tabs w) :
    Calls Tryd.prog 35 #[.string s] w (ReadRet P w) := by
  obtain ⟨i0, hi, hz0, hz1, hz2⟩ := info_parts info93
  have cP := fun w' => Cp.points_ok h.cp w'
  have cB := fun w' hT' => bounds_blk h w' hT'
  have cT := fun w' => segTable_gets w'
  have cI := fun g p w' (R : Row w' g Sg.tabP) => sclassIn_any g p w' R.1 R
  have hbl : (bl (cls (cp P))).length = (clu P).length + 1 := by rw [bl_len, clu_len]
  have hle := clu_le P
  have TT0 := Go.Lib.hid hT
  have CG := Go.Lib.hid (fun k h => clu_get P k h)
  have CI := Go.Lib.hid (fun k h => cut_in P k h)
  clear hT
  obtain ⟨n, hn⟩ : ∃ n, (clu P).length = n := ⟨_, rfl⟩
  rw [hn] at hle hbl
  have NN := Go.Lib.hid hn
  clear hn
  unfold BlkPost at cB
  obtain ⟨bs, hbs⟩ : ∃ bs, bl (cls (cp P)) = bs := ⟨_, rfl⟩
  rw [hbs] at cB hbl
  have BG : Hid (∀ k (h : k < bs.length), bs[k] = ((cut P k : Nat) : Int)) := Go.Lib.hid (by subst hbs; exact bl_get P)
  clear hbs
  obtain ⟨m, hm⟩ : ∃ m, bs.length = m := ⟨_, rfl⟩
  rw [hm] at hbl
  simp only [hm] at cB
  have MM := Go.Lib.hid hm
  clear hm
  subst hbl
  generalize Sg.tabP = tab at cT cI
  generalize Sg.classOf = cf at cI CG
  go_enter Tryd.func35, Tryd.ntmps35
  go_wp2_with (first
    | (go_at_call 56; refine (cP _).mono ?_; rintro e w2 ⟨pv, rfl, hI, hb2⟩; obtain ⟨A, pc, rfl, hPA⟩ := pat_of hI; have PA := Go.Lib.hid hPA; have B2 := Go.Lib.hid hb2; clear hI hPA)
    | (go_at_call 57; (with_reducible refine (cB _ (TT0.out.below (((Below.refl _ w).alloc (Nat.le_refl _) _).trans (B2.out.mono (by simp))))).mono ?_); rintro e w3 ⟨gb, cb, rfl, hgb, hCs, hb3⟩; have CS := Go.Lib.hid hCs; have PA3 := Go.Lib.hid (PA.out.below hb3 (Nat.le_refl _)); have B3 := Go.Lib.hid (B2.out.trans (hb3.mono B2.out.size)); clear hCs)
    | (go_at_call 31; (with_reducible refine (cT _).mono ?_); rintro e w4 ⟨gt, rfl, hRt, hb4, hgt⟩; have RT := Go.Lib.hid hRt; have PA4 := Go.Lib.hid (PA3.out.below hb4 (Nat.le_refl _)); have CS4 := Go.Lib.hid (CS.out.below hb4 CS.out.1); have B4 := Go.Lib.hid (B3.out.trans (hb4.mono B3.out.size)); clear hRt)
    | (at_make; refine wpList_make_own _ rfl _ _ 69 rfl w4.heap.size 93 i0 (.agg #[.int .i64 0, .int .i64 0, .int .i64 0]) 3 Tryd.underlying69 hi hz0 hz1 _ _ _ (n + 1) rfl rfl rfl ?b2 ?b3 (Nat.le_refl _) ?_))
  case b2 => rw [hz2]; omega
  case b3 => unfold maxLen; omega
  intro w5 hown0 hgrow0
  have B45 := Go.Lib.hid ((Below.refl w4.heap.size w4).grown hgrow0 (Nat.le_refl _) (fun k h => by cases h))
  clear hb2 hb3 hb4 cP cB cT hgrow0
  have hbx := Go.Lib.hid (B4.out.size)
  go_wp2
  go_loopw [8, 9] (fun v i wr => ∃ k : Nat, k ≤ n ∧ i = .int .i64 ((k : Int) + 1) ∧ wr.ownsRow w4.heap.size 93 3 v k (rowL ((clu P).take k)) ∧ Hid (v ≠ .slice none 0 0) ∧ Hid (Below w4.heap.size w4 wr)) (fun _ i _ => n + 1 - (RowKit.intOf i).toNat)
  case atStart => exact ⟨0, Nat.zero_le _, rfl, hown0, Go.Lib.hid (by simp), B45⟩
  case round =>
    clear hown0 B45
    obtain ⟨k, hk, rfl, hown, hne, HB⟩ := hrel
    have hsz := HB.out.size
    by_cases hlt : k < n
    · have hkn : k < (clu P).length := by rw [NN.out]; exact hlt
      have hkb : k < bs.length := by rw [MM.out]; omega
      have hkb1 : k + 1 < bs.length := by rw [MM.out]; omega
      have hgb := CS4.out.1
      have cf1 := (HB.out.cell (p := ⟨gb, k, none⟩) hgb).trans (CS4.out.2 k hkb)
      have ct1 := (HB.out.cell (p := ⟨gb, k + 1, none⟩) hgb).trans (CS4.out.2 (k + 1) hkb1)
      rw [BG.out k hkb] at cf1
      rw [BG.out (k + 1) hkb1] at ct1
      have hcut := CI.out k hkn
      have hgt4 : gt < w4.heap.size := RT.out.1
      rcases PA4.out with hP0 | ⟨gp, rfl, hgp, hpc⟩
      · rw [hP0] at hcut; exact absurd hcut (Nat.not_lt_zero _)
      · have cp1 := (HB.out.cell (p := ⟨gp, cut P k, none⟩) hgp).trans (hpc (cut P k) hcut)
        have hsn : rowL ((clu P).take (k + 1)) = rowL ((clu P).take k) ++ [.int .i64 (cf ((P[cut P k] : Nat) : Int)), .int .i64 ((cut P k : Nat) : Int), .int .i64 ((cut P (k + 1) : Nat) : Int)] := by
          rw [List.take_succ_eq_append_getElem hkn, rowL_snoc, CG.out k hkn, List.getD_eq_getElem?_getD, List.getElem?_eq_getElem hcut]; rfl
        have SN := Go.Lib.hid hsn
        clear hsn hpc hkn hkb hkb1
        generalize (P[cut P k] : Nat) = q at cp1 SN
        generalize cut P (k + 1) = t at ct1 SN
        generalize cut P k = f at cf1 cp1 hcut SN
        have hi1 : IntKind.i64.wrap ((k : Int) + 1 - 1) = (k : Int) := by rw [Int.add_sub_cancel]; exact IntWalk.i64_in _ (by omega)
        have hi2 : ((k : Int) + 1).toNat = k + 1 := by omega
        have hi3 : (0 : Int) ≤ (k : Int) + 1 := by omega
        go_wp2
        go_quiet (fail)
        clear hi1
        go_wp2_with (first
          | (go_at_call 30; (with_reducible refine (cI gt _ _ (RT.out.below (bdrew HB.out _) hgt4)).mono ?_); rintro e w6 ⟨rfl, hb6⟩; have B6 := Go.Lib.hid ((bdrew HB.out _).trans (hb6.mono (bdrew HB.out _).size)); have own6 := Cp.ownsRow_below (Cp.ownsRow_below hown (bdrew (Below.refl _ _) _)) hb6; have hs6 := B6.out.size)
          | (at_builtin; refine wpList_append_own _ rfl _ _ 69 rfl w4.heap.size 93 i0 (.agg #[.int .i64 0, .int .i64 0, .int .i64 0]) 3 24 Tryd.underlying69 hi hz0 hz1 hz2 rfl (by decide) _ _ _ rfl (own6.alloc _) ⟨w6.heap.size, 0, none⟩ 1 1 [.int .i64 (cf (q : Int)), .int .i64 (f : Int), .int .i64 (t : Int)] rfl rfl (cell_new3 _ _ _ _ _) (by intro u hu; simp at hu; rcases hu with rfl | rfl | rfl <;> rfl) (by unfold maxLen; omega) (by omega) (by simp; omega) ?_; intro v1 w7 hown1 hgrow1 hnil1))
        go_roundw
        case rel =>
          refine ⟨k + 1, by omega, by go_num, ?_, Go.Lib.hid (fun hv => hne.out (hnil1.1 hv).1), Go.Lib.hid ((B6.out.alloc hs6 _).grown hgrow1 (by simp; omega) (fun j e => (own6.lt j e).1))⟩
          rw [SN.out]; exact hown1
        case measure => simp [RowKit.intOf]; omega
    · obtain rfl : k = n := by omega
      have hfull : (clu P).take k = clu P := List.take_of_length_le (by rw [NN.out]; exact Nat.le_refl _)
      rw [hfull] at hown
      have hob := cobj_of (C := clu P) (by rw [NN.out]; exact hown) hne.out
      obtain ⟨gc, cap, cur, rfl, hobj, hrow⟩ := hob
      have hgc : w4.heap.size ≤ gc := (hown.lt gc rfl).1
      have OB := Go.Lib.hid hobj
      have RW := Go.Lib.hid hrow
      have hbr := B4.out.trans (HB.out.mono B4.out.size)
      have BR := Go.Lib.hid hbr
      have PR := Go.Lib.hid (PA4.out.below HB.out (Nat.le_refl _))
      have hx0 := (hbr.cell (p := ⟨w.heap.size, 0, none⟩) (by simp)).trans (show _ = some (Value.slice none 0 0) by simp)
      have hx1 := (hbr.cell (p := ⟨w.heap.size, 1, none⟩) (by simp)).trans (show _ = some (Value.slice none 0 0) by simp)
      have hf0 := (hbr.frozen (p := ⟨w.heap.size, 0, none⟩) (by simp)).trans (show _ = false by simp)
      have hf1 := (hbr.frozen (p := ⟨w.heap.size, 1, none⟩) (by simp)).trans (show _ = false by simp)
      clear hfull hown hobj hrow hbr
      go_wp2
      have ho := Oth.set2 wr w.heap.size 0 1 (.slice A P.length pc) (.slice (some ⟨gc, 0, none⟩) (clu P).length cap)
      have hw := hbx.out
      rw [World.size_alloc] at hw
      exact bodyPost_ret (v := .tuple #[.agg #[.slice A P.length pc, .slice (some ⟨gc, 0, none⟩) (clu P).length cap], .int .i64 0]) (by simp [results, Tryd.results35, go_sem, hx0, hx1]) rfl
        ⟨A, pc, _, rfl, ho.pat PR.out (by intro i; rw [hx0]; simp), ho.cobj OB.out RW.out (by omega), ((((Below.refl _ w).alloc (Nat.le_refl _) _).trans (BR.out.mono (by simp))).setCell (Nat.le_refl _) _).setCell (Nat.le_refl _) _⟩
end Go.Proofs.YthjooopppidcfaaDoor
