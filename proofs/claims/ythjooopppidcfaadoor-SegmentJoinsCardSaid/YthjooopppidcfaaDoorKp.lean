/- Layer 3: the reference's Class. -/
import Derived.Test.YthjooopppidcfaaDoorKc
namespace Go.Proofs.YthjooopppidcfaaDoor
open Go.RowKit Go.Shelf Go.Lib
open Gc

def GetsObjS (l : List Span) (w : World) (e : Ending) (w' : World) : Prop :=
  ∃ g, e = .returned (.slice (some ⟨g, 0, none⟩) l.length l.length) ∧ w'.heap[g]? = some (.cells (rowOf l) 68 (0, 0)) ∧ Below w.heap.size w w' ∧ w.heap.size ≤ g
theorem gets_objS (l : List Span) (n : Nat) (hn : l.length = n) (w : World) (e : Ending) (w' : World) (h : e = .returned (.slice (some ⟨w.heap.size, 0, none⟩) n n) ∧ w' = w.alloc (.cells (rowOf l) 68)) : GetsObjS l w e w' := by
  obtain ⟨rfl, rfl⟩ := h
  exact ⟨w.heap.size, by rw [hn], World.alloc_heap_new _ _, (Below.refl _ _).alloc (Nat.le_refl _) _, Nat.le_refl _⟩
theorem blanks_gets (w : World) : Calls Tryd.prog 32 #[] w (GetsObjS Sg.tabB w) := (blanks_any w).mono fun e w' h => gets_objS Sg.tabB 23 (by decide) w e w' h
theorem letters_gets3 (w : World) : Calls Tryd.prog 33 #[] w (GetsObjS Sg.tabL w) := (letters3_any w).mono fun e w' h => gets_objS Sg.tabL 39 (by decide) w e w' h
theorem signs_gets (w : World) : Calls Tryd.prog 34 #[] w (GetsObjS Sg.tabS w) := (signs_any w).mono fun e w' h => gets_objS Sg.tabS 38 (by decide) w e w' h

theorem rowOf_list (l : List Span) : (rowOf l).toList = rowL l := rfl
theorem rowOf_size (l : List Span) : (rowOf l).size = l.length * 3 := by rw [← rowL_len l]; rfl
theorem own_table {w : World} {g base : Nat} {l : List Span} (h : w.heap[g]? = some (.cells (rowOf l) 68 (0, 0))) (hb : base ≤ g) (hl : l.length ≤ 1000) : w.ownsRow base 68 3 (.slice (some ⟨g, 0, none⟩) l.length l.length) l.length (rowL l) :=
  ⟨rowL_len l, .inr ⟨g, l.length, rowOf l, rfl, hb, h, Nat.le_refl _, by unfold maxLen; omega, rowOf_size l, by rw [rowOf_list, List.take_of_length_le (by rw [rowL_len]; exact Nat.le_refl _)]⟩⟩
theorem news_table {w : World} {g : Nat} {l : List Span} (h : w.heap[g]? = some (.cells (rowOf l) 68 (0, 0))) : ∀ j u, (rowL l)[j]? = some u → w.cell? ((⟨g, 0, none⟩ : Addr).add j) = some u := by
  intro j u hj
  have : (rowOf l)[j]? = some u := by
    rw [← hj]
    show (rowL l).toArray[j]? = _
    rw [List.getElem?_toArray]
  have e : (⟨g, 0, none⟩ : Addr).add j = ⟨g, j, none⟩ := by unfold Addr.add; split <;> simp_all
  rw [e]
  simp [World.cell?, h, this]
theorem rowL_one (l : List Span) : ∀ u ∈ rowL l, u.oneCell' = true := by
  intro u hu
  unfold rowL at hu
  obtain ⟨s, _, hs⟩ := List.mem_flatMap.1 hu
  simp at hs
  rcases hs with rfl | rfl | rfl <;> rfl
theorem rowL_app (a b : List Span) : rowL (a ++ b) = rowL a ++ rowL b := by simp [rowL]
theorem row_of_own {w : World} {base g cap : Nat} {l : List Span} (h : w.ownsRow base 68 3 (.slice (some ⟨g, 0, none⟩) l.length cap) l.length (rowL l)) : Row w g l := by
  refine ⟨(h.lt g rfl).2, fun k hk => ?_⟩
  have e0 := rowL_get l k hk 0 (by decide)
  have e1 := rowL_get l k hk 1 (by decide)
  have e2 := rowL_get l k hk 2 (by decide)
  simp only [Nat.add_zero, List.getElem?_cons_zero, List.getElem?_cons_succ] at e0 e1 e2
  refine ⟨?_, ?_, ?_⟩
  · rw [h.cellAt (k * 3) (by omega)]; exact e0
  · rw [h.cellAt (k * 3 + 1) (by omega)]; exact e1
  · rw [h.cellAt (k * 3 + 2) (by omega)]; exact e2
theorem info68c : (Tryd.prog.info? 68).map (fun i => (i.zero, i.size, i.bytes)) = some (some (.agg #[.int .i64 0, .int .i64 0, .int .i64 0]), 3, 24) := by kernel_rfl

set_option maxRecDepth 100000 in
set_option maxHeartbeats 4000000 in
theorem refClass3_gen (B L S : List Span) (hB : ∀ w, Calls Tryd.prog 32 #[] w (GetsObjS B w)) (hL : ∀ w, Calls Tryd.prog 33 #[] w (GetsObjS L w)) (hS : ∀ w, Calls Tryd.prog 34 #[] w (GetsObjS S w))
    (lB : B.length ≤ 100) (lL : L.length ≤ 100) (lS : S.length ≤ 100) (lS0 : 0 < S.length) (p : Int) (w : World) : Calls Tryd.prog 14 #[.int .i64 p] w (IntPost (within (B ++ L ++ S) p) w) := by
  obtain ⟨i0, hi, hz0, hz1, hz2⟩ := info_parts info68c
  unfold GetsObjS at hB hL hS
  obtain ⟨b, hb⟩ : ∃ b, B.length = b := ⟨_, rfl⟩
  obtain ⟨l, hl⟩ : ∃ l, L.length = l := ⟨_, rfl⟩
  obtain ⟨s, hs⟩ : ∃ s, S.length = s := ⟨_, rfl⟩
  have OB := fun {w : World} {g base : Nat} (h : w.heap[g]? = some (.cells (rowOf B) 68 (0, 0))) (hb : base ≤ g) => own_table h hb (by omega)
  rw [hb] at lB; rw [hl] at lL; rw [hs] at lS lS0
  simp only [hb] at hB OB; simp only [hl] at hL; simp only [hs] at hS
  have HB := Go.Lib.hid hb
  have HL := Go.Lib.hid hl
  have HS := Go.Lib.hid hs
  clear hb hl hs
  obtain ⟨T, hT⟩ : ∃ T, B ++ L ++ S = T := ⟨_, rfl⟩
  rw [hT]
  have HT := Go.Lib.hid hT
  clear hT
  go_enter Tryd.func14, Tryd.ntmps14
  go_wp2_with (first
    | (go_at_call 32; refine (hB _).mono ?_; rintro e w1 ⟨g1, rfl, ho1, hb1, hg1⟩; have O1 := Go.Lib.hid ho1; clear ho1)
    | (go_at_call 33; refine (hL _).mono ?_; rintro e w2 ⟨g2, rfl, ho2, hb2, hg2⟩; have O2 := Go.Lib.hid ho2; have W1 := Go.Lib.hid (OB ((hb2.block g1 (Array.getElem?_eq_some_iff.1 O1.out).1).trans O1.out) hg1); clear ho2)
    | (at_builtin; refine wpList_append_own _ rfl _ _ 65 rfl w.heap.size 68 i0 (.agg #[.int .i64 0, .int .i64 0, .int .i64 0]) 3 24 Tryd.underlying65 hi hz0 hz1 hz2 rfl (by decide) _ _ _ rfl W1.out ⟨g2, 0, none⟩ l l (rowL L) rfl (by rw [rowL_len, HL.out]) (news_table O2.out) (rowL_one L) (by unfold maxLen; omega) (by omega) (by have := hb1.size; have := hb2.size; omega) ?_; intro v3 w3 hown3 hgrow3 _; have W3 := Go.Lib.hid hown3; have B3 := Go.Lib.hid ((hb1.trans (hb2.mono hb1.size)).grown hgrow3 (by have := hb1.size; have := hb2.size; omega) (fun j e => (W1.out.lt j e).1)); clear hown3 hgrow3)
    | (go_at_call 34; refine (hS _).mono ?_; rintro e w4 ⟨g4, rfl, ho4, hb4, hg4⟩; have O4 := Go.Lib.hid ho4; have W4 := Go.Lib.hid (Cp.ownsRow_below W3.out hb4); have B4 := Go.Lib.hid (B3.out.trans (hb4.mono B3.out.size)); clear ho4)
    | (at_builtin; refine wpList_append_own _ rfl _ _ 65 rfl w.heap.size 68 i0 (.agg #[.int .i64 0, .int .i64 0, .int .i64 0]) 3 24 Tryd.underlying65 hi hz0 hz1 hz2 rfl (by decide) _ _ _ rfl W4.out ⟨g4, 0, none⟩ s s (rowL S) rfl (by rw [rowL_len, HS.out]) (news_table O4.out) (rowL_one S) (by unfold maxLen; omega) (by omega) B4.out.size ?_; intro v5 w5 hown5 hgrow5 _; have B5 := Go.Lib.hid (B4.out.grown hgrow5 (by have := B4.out.size; omega) (fun j e => (W4.out.lt j e).1))))
  clear hgrow5
  obtain ⟨g, cap, rfl⟩ : ∃ g cap, v5 = .slice (some ⟨g, 0, none⟩) (b + l + s) cap := by
    rcases hown5.2 with ⟨_, h0⟩ | ⟨g, cap, cur, hv, _⟩
    · omega
    · exact ⟨g, cap, hv⟩
  have hT := HT.out
  have hTl : T.length = b + l + s := by rw [← hT, List.length_append, List.length_append, HB.out, HL.out, HS.out]
  have hrow : Row w5 g T := by
    refine row_of_own (cap := cap) (base := w.heap.size) ?_
    rw [hTl, ← hT, rowL_app, rowL_app]; exact hown5
  have RT := Go.Lib.hid hrow
  have TL := Go.Lib.hid hTl
  obtain ⟨n, hn⟩ : ∃ n, b + l + s = n := ⟨_, rfl⟩
  rw [hn] at TL
  have hnn : n ≤ 300 := by omega
  have c1 : (b : Int) + (l : Int) + (s : Int) = (n : Int) := by omega
  rw [hn]
  have hbs : w.heap.size ≤ w5.heap.size := B5.out.size
  clear hown5 hT hTl hrow hn c1 hb1 hb2 hb4 hg1 hg2 hg4
  go_wp2
  go_loopw [4] (fun i wr => ∃ k : Nat, k ≤ n ∧ i = .int .i64 (k : Nat) ∧ Hid (Below w5.heap.size w5 wr) ∧ Hid (within T p = within (T.drop k) p)) (fun i _ => n - (RowKit.intOf i).toNat)
  case atStart => exact ⟨0, Nat.zero_le _, rfl, Go.Lib.hid (Below.refl _ _), Go.Lib.hid rfl⟩
  case round =>
    obtain ⟨k, hk, rfl, HW, I⟩ := hrel
    by_cases hlt : k < n
    · have hkT : k < T.length := by rw [TL.out]; exact hlt
      have hgl := RT.out.1
      obtain ⟨h1, h2, h3⟩ := RT.out.2 k hkT
      have c1 := (HW.out.cell (p := ⟨g, k * 3, none⟩) hgl).trans h1
      have c2 := (HW.out.cell (p := ⟨g, k * 3 + 1, none⟩) hgl).trans h2
      have c3 := (HW.out.cell (p := ⟨g, k * 3 + 2, none⟩) hgl).trans h3
      have hd : T.drop k = T[k] :: T.drop (k + 1) := List.drop_eq_getElem_cons hkT
      have hin2 : within T p = if has p T[k] then T[k].2.2 else within (T.drop (k + 1)) p := by rw [I.out, hd]; rfl
      clear hd h1 h2 h3
      generalize T[k] = x at c1 c2 c3 hin2
      obtain ⟨x, y, z⟩ := x
      dsimp only at c1 c2 c3 hin2
      by_cases hx : x ≤ p
      · by_cases hy : p ≤ y
        · rw [if_pos ((has_iff p _).2 ⟨hx, hy⟩)] at hin2
          have H2 := Go.Lib.hid hin2
          clear hin2
          go_wp2
          go_ret
          exact ⟨by rw [H2.out]; rfl, B5.out.trans (HW.out.mono hbs)⟩
        · rw [if_neg (fun h => hy ((has_iff p _).1 h).2)] at hin2
          have H2 := Go.Lib.hid hin2
          clear hin2
          go_wp2
          go_roundw
          case rel => exact ⟨k + 1, by omega, by go_num, HW, H2⟩
          case measure => simp [RowKit.intOf]; omega
      · rw [if_neg (fun h => hx ((has_iff p _).1 h).1)] at hin2
        have H2 := Go.Lib.hid hin2
        clear hin2
        go_wp2
        go_roundw
        case rel => exact ⟨k + 1, by omega, by go_num, HW, H2⟩
        case measure => simp [RowKit.intOf]; omega
    · have e : k = T.length := by rw [TL.out]; omega
      have H2 := Go.Lib.hid (show within T p = 0 by rw [I.out, e, List.drop_length]; rfl)
      clear e
      go_wp2
      go_ret
      exact ⟨by rw [H2.out]; rfl, B5.out.trans (HW.out.mono hbs)⟩
theorem refClass3_any (p : Int) (w : World) : Calls Tryd.prog 14 #[.int .i64 p] w (IntPost (Sg.classOf p) w) := by
  rw [← Sg.ref_class]
  exact refClass3_gen Sg.tabB Sg.tabL Sg.tabS blanks_gets letters_gets3 signs_gets (by decide) (by decide) (by decide) (by decide) p w
end Go.Proofs.YthjooopppidcfaaDoor
