/- Layer 3: two strings with a line feed between them; Breaks as a row of its own. -/
import Derived.Test.YthjooopppidcfaaDoorPb1
import Derived.Test.YthjooopppidcfaaDoorPn
import Derived.Test.YthjooopppidcfaaDoorLv
import Derived.Laws.AppendOwnNone
namespace Go.Proofs.YthjooopppidcfaaDoor
open Go.RowKit Go.Shelf
open Gc

/-- Only a carriage return is of its class. -/
theorem cr_class (p : Int) (h : classOf p = 1) : p = 13 := by
  unfold classOf at h
  split at h
  · unfold hangul at h
    split at h <;> omega
  · rcases within_or tabA p with ⟨s, hs, hh⟩ | hn
    · rw [within_mem _ apartA p s hs hh] at h
      have hall : (tabA.all fun s => decide (s.2.2 ≠ 1) || (decide (s.1 = 13) && decide (s.2.1 = 13))) = true := by decide +kernel
      have h2 := List.all_eq_true.1 hall s hs
      simp only [Bool.or_eq_true, Bool.and_eq_true, decide_eq_true_eq] at h2
      have h3 := (has_iff p s).1 hh
      rcases h2 with h2 | h2
      · exact absurd h h2
      · omega
    · rw [within_none _ _ hn] at h
      exact absurd h (by decide)
theorem cr_last (P : List Nat) (h : (cp P).reverse.headD 0 = 1) : ∃ R, P = R ++ [13] := by
  rcases List.eq_nil_or_concat P with rfl | ⟨R, p, rfl⟩
  · exact absurd h (by decide)
  · refine ⟨R, ?_⟩
    have e : (cp (R ++ [p])).reverse.headD 0 = classOf (p : Int) := by unfold cp clsOf; simp
    rw [List.concat_eq_append] at h ⊢
    rw [e] at h
    have := cr_class _ h
    have : p = 13 := by omega
    rw [this]
theorem cr_bytes (R : List Nat) : U.bytes (R ++ [13]) = U.bytes R ++ [13] := by rw [U.bytes_append]; rfl
theorem bytes_add' (a b : ByteArray) : (a ++ b).data.toList = a.data.toList ++ b.data.toList := by simp
/-- The string of both. -/
def joinS (a b : ByteArray) : ByteArray := a ++ ⟨#[10]⟩ ++ b
theorem join_str {a b : ByteArray} {P Q : List Nat} (h1 : Str a P []) (h2 : Str b Q []) (z1 : a.size ≤ 240) (z2 : b.size ≤ 240) : Str (joinS a b) (P ++ 10 :: Q) [] := by
  refine ⟨fun p hp => ?_, ?_, h1.bad, ?_⟩
  · rcases List.mem_append.1 hp with hp | hp
    · exact h1.pts p hp
    · rcases List.mem_cons.1 hp with rfl | hp
      · exact by decide
      · exact h2.pts p hp
  · unfold joinS
    rw [bytes_add', bytes_add', h1.whole, h2.whole, U.bytes_append, List.append_nil, List.append_assoc]
    rfl
  · unfold joinS
    simp only [ByteArray.size_append]
    have : (ByteArray.mk #[10]).size = 1 := rfl
    omega
theorem str_nil {a : ByteArray} {P : List Nat} (h : Str a P []) : a.size = 0 ↔ P = [] := by
  have h1 := h.whole
  have h2 : a.data.toList.length = a.size := by simp
  constructor
  · intro h0
    cases P with
    | nil => rfl
    | cons p l =>
      have h3 : (U.bytes (p :: l)).length = 0 := by rw [← h1, h2, h0]
      have h4 := (U.bytes_len (p :: l)).1
      simp at h4
      omega
  · rintro rfl
    rw [← h2, h1]; rfl
/-- A token's list by numbers, of both. -/
theorem tk_join_left (P Q : List Nat) (h : (cp P).reverse.headD 0 ≠ 1) (k : Nat) (hk : k < (utok P).length) : (utok (P ++ 10 :: Q))[k]? = some (tk (utok P) k) := by
  rw [utok_join P Q h, List.getElem?_append_left hk, List.getElem?_eq_getElem hk, tk_get]
theorem tk_join_mid (P Q : List Nat) (h : (cp P).reverse.headD 0 ≠ 1) : (utok (P ++ 10 :: Q))[(utok P).length]? = some (6, P.length, P.length + 1) := by
  rw [utok_join P Q h, List.getElem?_append_right (Nat.le_refl _), Nat.sub_self]; rfl
theorem tk_join_right (P Q : List Nat) (h : (cp P).reverse.headD 0 ≠ 1) (k : Nat) (hk : k < (utok Q).length) : (utok (P ++ 10 :: Q))[(utok P).length + 1 + k]? = some (umoved (P.length + 1) (tk (utok Q) k)) := by
  rw [utok_join P Q h, List.getElem?_append_right (by omega), show (utok P).length + 1 + k - (utok P).length = k + 1 by omega, List.getElem?_cons_succ, List.getElem?_map, List.getElem?_eq_getElem hk, tk_get]
  rfl
theorem tk_join_len (P Q : List Nat) (h : (cp P).reverse.headD 0 ≠ 1) : (utok (P ++ 10 :: Q)).length = (utok P).length + 1 + (utok Q).length := by
  rw [utok_join P Q h]; simp; omega
theorem segC_pos (P : List Nat) : 0 < (segC P).length ↔ P ≠ [] := by
  constructor
  · rintro h rfl
    exact absurd h (by decide)
  · intro h
    rcases Nat.eq_zero_or_pos (segC P).length with h0 | h0
    · have := cut_end P
      rw [h0, cut_zero] at this
      exact absurd (List.eq_nil_of_length_eq_zero this.symm) h
    · exact h0

def BreaksOwn (P : List Nat) (w : World) (e : Ending) (w' : World) : Prop := ∃ v, e = .returned (.tuple #[v, .int .i64 0]) ∧ w'.ownsRow w.heap.size 59 2 v (ubrk P).length (rowB (ubrk P)) ∧ Below w.heap.size w w'
set_option maxRecDepth 100000 in
set_option maxHeartbeats 4000000 in
theorem breaks_own {s P} (h : Str s P []) (hP : P.length ≤ 1000) (w : World) (hT : Tabs w) : Calls Tryd.prog 27 #[.string s] w (BreaksOwn P w) := by
  obtain ⟨i0, hi, hz0, hz1, hz2⟩ := info_parts info59
  have cR := read_ok h hP w hT
  have hlc : (clu P).length ≤ 1000 := Nat.le_trans (clu_le P) hP
  have cP := fun g cap pc A k w' h0 hi R => place_any (clu P) g cap P.length pc A k w' h0 hi hlc R
  have cK := fun g e a b w' R => breakKind_any g e a b w' R
  have KA := Go.Lib.hid (fun k => kindAt_cat P k)
  have CG := Go.Lib.hid (fun k h => clu_get P k h)
  have HLS := Go.Lib.hid (show (segC P).length = (clu P).length by rw [segC_len, clu_len])
  obtain ⟨n, hn⟩ : ∃ n, (clu P).length = n := ⟨_, rfl⟩
  have NN := Go.Lib.hid hn
  rw [hn] at hlc
  simp only [hn] at cP
  clear hT
  go_enter Tryd.func27, Tryd.ntmps27
  go_wp2_with (first
    | (go_at_call 35; (with_reducible refine cR.mono ?_); rintro e w1 ⟨A, pc, cv, rfl, hPA, ⟨g, cap, cur, rfl, ho, hr⟩, hb1⟩; have HR := Go.Lib.hid hr; rw [hn]; clear hPA ho hr hn)
    | (go_at_call 50; refine (rules_any _).mono ?_; rintro e w2 ⟨gr, rfl, hrr, hb2⟩; have RU := Go.Lib.hid hrr; clear hrr))
  have hbx := hb2.cell (p := ⟨w1.heap.size, 0, none⟩) (by simp)
  have hby := hb2.cell (p := ⟨w1.heap.size, 1, none⟩) (by simp)
  rw [show (w1.alloc (.cells #[.slice A P.length pc, .slice (some ⟨g, 0, none⟩) n cap] 71)).cell? ⟨w1.heap.size, 0, none⟩ = some (.slice A P.length pc) by simp] at hbx
  rw [show (w1.alloc (.cells #[.slice A P.length pc, .slice (some ⟨g, 0, none⟩) n cap] 71)).cell? ⟨w1.heap.size, 1, none⟩ = some (.slice (some ⟨g, 0, none⟩) n cap) by simp] at hby
  have B12 : Below w1.heap.size w1 w2 := ((Below.refl _ w1).alloc (Nat.le_refl _) _).trans (hb2.mono (by simp))
  have HR2 := Go.Lib.hid (HR.out.below B12 HR.out.1)
  have B02 := Go.Lib.hid (hb1.trans (B12.mono hb1.size))
  have hx12 : w1.heap.size < w2.heap.size := by have := hb2.size; rw [World.size_alloc] at this; omega
  clear hb1 hb2 B12 cR
  go_loopw [6, 8] (fun v i wr => ∃ k : Nat, 1 ≤ k ∧ (k ≤ n ∨ k = 1) ∧ i = .int .i64 (k : Nat) ∧ wr.ownsRow w2.heap.size 59 2 v (brkTo P k).length (rowB (brkTo P k)) ∧ Hid (Below w2.heap.size w2 wr)) (fun _ i _ => n - (intOf i).toNat)
  case atStart => exact ⟨1, by omega, .inr rfl, rfl, World.ownsRow_nil _ _ _ _, Go.Lib.hid (Below.refl _ _)⟩
  case round =>
    obtain ⟨k, hk1, hkn, rfl, hown, HB⟩ := hrel
    have hsz := HB.out.size
    have hx0 := (HB.out.cell (p := ⟨w1.heap.size, 0, none⟩) hx12).trans hbx
    have hx1 := (HB.out.cell (p := ⟨w1.heap.size, 1, none⟩) hx12).trans hby
    clear hbx hby
    by_cases hlt : k < n
    · have hk' : k < (clu P).length := by rw [NN.out]; exact hlt
      have hrow := HR2.out.below HB.out HR2.out.1
      have hgw : g < wr.heap.size := hrow.1
      have hgr : gr < wr.heap.size := Nat.lt_of_lt_of_le RU.out.1 hsz
      have cp := cP g cap pc A k wr (by omega) hlt hrow
      have cf := (hrow.2 k hk').2.1
      rw [CG.out k hk'] at cf
      dsimp only at cf
      have RUr := Go.Lib.hid (RU.out.below HB.out RU.out.1)
      have hkk := KA.out k
      generalize (if 2 ≤ k then Sg.cat (Cls (clu P)) (k - 2) else -1) = e at cp hkk
      generalize Sg.cat (Cls (clu P)) (k - 1) = a at cp hkk
      generalize Sg.cat (Cls (clu P)) k = b at cp hkk
      have ck := fun w' R => cK gr e a b w' R
      have hxw : w1.heap.size < wr.heap.size := by omega
      have hlen := brkTo_len P k
      by_cases h0 : Sg.kindAt (segC P) k = 0
      · rw [h0] at hkk
        simp only [← hkk] at ck
        have HN := Go.Lib.hid (brkTo_none P k h0)
        clear hkk h0 hrow hkn
        go_wp2_with (first
          | (go_at_call 52; (with_reducible refine cp.mono ?_); rintro en w3 ⟨rfl, hb3⟩; have R3 := Go.Lib.hid (RUr.out.below hb3 hgr))
          | (go_at_call 51; (with_reducible refine (ck _ R3.out).mono ?_); rintro en w4 ⟨rfl, hb4⟩; have B34 := Go.Lib.hid (hb3.trans (hb4.mono hb3.size)); clear hb3 hb4))
        go_roundw
        case rel => exact ⟨k + 1, by omega, .inl (by omega), by go_num, by rw [HN.out]; exact Cp.ownsRow_below hown B34.out, Go.Lib.hid (HB.out.trans (B34.out.mono hsz))⟩
        case measure => simp [intOf]; omega
      · have HN := Go.Lib.hid (brkTo_some P k hk1 h0)
        rw [hkk] at h0
        rw [hkk] at HN
        generalize Sg.kindB e a b = kd at ck h0 HN
        have kz : (kd != 0) = true := by simpa using h0
        generalize cut P k = f at cf HN
        clear hkk h0 hrow hkn
        go_wp2_with (first
          | (go_at_call 52; (with_reducible refine cp.mono ?_); rintro en w3 ⟨rfl, hb3⟩; have R3 := Go.Lib.hid (RUr.out.below hb3 hgr))
          | (go_at_call 51; (with_reducible refine (ck _ R3.out).mono ?_); rintro en w4 ⟨rfl, hb4⟩; (have b34 := hb3.trans (hb4.mono hb3.size); have B34 := Go.Lib.hid b34; have hx04 := (b34.cell (p := ⟨w1.heap.size, 0, none⟩) hxw).trans hx0; have hx14 := (b34.cell (p := ⟨w1.heap.size, 1, none⟩) hxw).trans hx1; have cf4 := (b34.cell (p := ⟨g, k * 3 + 1, none⟩) hgw).trans cf; have own4 := Cp.ownsRow_below hown b34; have hs4 := b34.size; clear hb3 hb4 b34))
          | (at_builtin; refine wpList_append_own _ rfl _ _ 52 rfl w2.heap.size 59 i0 (.agg #[.int .i64 0, .int .i64 0]) 2 16 Tryd.underlying52 hi hz0 hz1 hz2 rfl (by decide) _ _ _ rfl (own4.alloc _) ⟨w4.heap.size, 0, none⟩ 1 1 [.int .i64 (f : Nat), .int .i64 kd] rfl rfl (cell_new2 _ _ _ _) (by intro u hu; simp at hu; rcases hu with rfl | rfl <;> rfl) (by unfold maxLen; omega) (by omega) (by simp; omega) ?_; intro v1 w7 hown1 hgrow1 _))
        go_roundw
        case rel =>
          refine ⟨k + 1, by omega, .inl (by omega), by go_num, ?_, Go.Lib.hid (((HB.out.trans (B34.out.mono hsz)).alloc (by omega) _).grown hgrow1 (by simp; omega) (fun j e => (own4.lt j e).1))⟩
          rw [HN.out, rowB_snoc, List.length_append]; exact hown1
        case measure => simp [intOf]; omega
    · have hend := brkTo_end P k hk1 (by rw [HLS.out, NN.out]; exact hkn) (by rw [HLS.out, NN.out]; exact hlt)
      rw [hend] at hown
      have HO := Go.Lib.hid hown
      clear hend hown hkn
      go_wp2
      go_ret2
      exact ⟨_, rfl, own_lower HO.out B02.out.size, B02.out.trans (HB.out.mono B02.out.size)⟩

/-- lastPoint: the first point of the last cluster. -/
def lastPt (P : List Nat) : Int := ((P.getD (cut P ((segC P).length - 1)) 0 : Nat) : Int)
theorem lastPt_class (P : List Nat) (h : P ≠ []) : Sg.classOf (lastPt P) = Sg.cat (segC P) ((segC P).length - 1) := by
  have h0 := (segC_pos P).2 h
  obtain ⟨h1, h2⟩ := segC_get P ((segC P).length - 1) (by omega)
  unfold lastPt Sg.cat
  rw [List.getD_eq_getElem?_getD, List.getElem?_eq_getElem h1, List.getD_eq_getElem?_getD, List.getElem?_eq_getElem (by omega : (segC P).length - 1 < (segC P).length), h2]
  rfl

set_option maxRecDepth 100000 in
set_option maxHeartbeats 4000000 in
theorem last_any {s : ByteArray} {P : List Nat} (h : Str s P []) (hl : P.length ≤ 240) (hne : P ≠ []) (w : World) : Calls Tryd.prog 29 #[.string s] w (IntPost (lastPt P) w) := by
  have cP := fun w' => points_ok h w'
  have cB := fun base v w' hv => ref_blk h base v w' hv
  unfold RefBlk at cB
  have h0 := (segC_pos P).2 hne
  have hbl : (bl (cls (cp P))).length = (segC P).length + 1 := by rw [bl_len, segC_len]
  have hsl : (segC P).length ≤ P.length := by rw [segC_len, ← clu_len]; exact clu_le P
  have hPl : 0 < P.length := List.length_pos_iff.2 hne
  obtain ⟨m, hm⟩ : ∃ m, (segC P).length = m + 1 := ⟨(segC P).length - 1, by omega⟩
  obtain ⟨h1, h1b⟩ := segC_get P m (by omega)
  clear h1b
  have LP := Go.Lib.hid (show lastPt P = ((P[cut P m] : Nat) : Int) by unfold lastPt; rw [hm, Nat.add_sub_cancel, List.getD_eq_getElem?_getD, List.getElem?_eq_getElem h1]; rfl)
  obtain ⟨N, hN⟩ : ∃ N, (bl (cls (cp P))).length = N := ⟨_, rfl⟩
  have hbm : m < (bl (cls (cp P))).length := by omega
  have BG := Go.Lib.hid (bl_get P m hbm)
  have HBM := Go.Lib.hid hbm
  have NN := Go.Lib.hid hN
  simp only [hN] at cB
  have hNm : N = m + 2 := by omega
  have hNb : N ≤ 300 := by omega
  clear h hne hsl
  go_enter Tryd.func29, Tryd.ntmps29
  go_wp2_with fail
  refine (cP _).mono ?_
  rintro e w1 ⟨v1, v2, rfl, i1, i2, b1⟩
  have I1 := Go.Lib.hid i1
  obtain ⟨A1, p1, rfl, hPA⟩ := pat_ints i1
  rcases hPA with hP0 | ⟨gp, rfl, hgp, hpc⟩
  · rw [hP0] at hPl; exact absurd hPl (Nat.not_lt_zero _)
  have z1 := hpc (cut P m) h1
  clear hpc i1 i2
  go_wp2_with fail
  refine (cB _ _ _ I1.out).mono ?_
  rintro e w2 ⟨g2, p2, rfl, C2, b2⟩
  have z2 := (b2.cell (p := ⟨gp, cut P m, none⟩) hgp).trans z1
  have y2 := C2.2 m HBM.out
  rw [BG.out] at y2
  have hg2 := C2.1
  have hgp2 : gp < w2.heap.size := Nat.lt_of_lt_of_le hgp b2.size
  rw [← LP.out] at z2
  have hw : IntKind.i64.wrap ((N : Int) - 2) = (m : Int) := by rw [show (N : Int) - 2 = (m : Int) by omega]; exact IntWalk.i64_in _ (by omega)
  have hc : ¬ (N : Int) < 2 := by omega
  have hmN : m < N := by omega
  have hP0 : ¬ (P.length : Int) = 0 := by omega
  have hP1 : ((P.length : Int) == 0) = false := neB hP0
  have bb := b1.trans (b2.mono b1.size)
  clear C2 z1 b1 b2 hNm
  clear LP BG HBM
  generalize P.length = pl at h1 hP0 hP1 ⊢
  generalize cut P m = f at h1 y2 z2
  go_wp2
  go_ret
  exact ⟨rfl, bb⟩
end Go.Proofs.YthjooopppidcfaaDoor
