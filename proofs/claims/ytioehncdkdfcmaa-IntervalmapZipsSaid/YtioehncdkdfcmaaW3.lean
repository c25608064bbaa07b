/- Layer 5: Add. -/
import Derived.Test.YtioehncdkdfcmaaW2
import Derived.Test.YtioehncdkdfcmaaI1
namespace Go.Proofs.Ytioehncdkdfcmaa
open Go.RowKit Go.Shelf Go.Lib Im

attribute [local go_sem] Oper.semAt_some
theorem within_seq (k0 : Nat) (hk0 : 1 ≤ k0) (b B1 B2 B3 : Nat) (A : Option Addr) (n c : Nat) (R : List Rn) (f t : Int) (hR : R.length = n) (hnc : n ≤ c) (hcm : c ≤ maxLen) (hA : (A = none ∧ n = 0 ∧ c = 0) ∨ ∃ g, A = some ⟨g, 0, none⟩) (hs : SortT R) (hl : n ≤ 2000000) (w : World) :
    SeqG TZ B1 Fence.wide k0 Try.prog 51 #[.pointer (some ⟨B1, 0, none⟩), .pointer (some ⟨B2, 0, none⟩), .pointer (some ⟨B3, 0, none⟩)] (fun x => #[rnV x]) (fun xs => xs = partsW f t R) (fun pre => pre <+: partsW f t R) (partsW f t R).length (GW b B1 B2 B3 A n c R f t) w := by
  intro L J Jx W hw hJ hJx hG hY h0
  exact within_gen k0 hk0 L b B1 B2 B3 A n c R f t hR hnc hcm hA hs hl J Jx W hJ hG hY h0
theorem mpR_put {w W : World} {b g D : Nat} {R : List Rn} {o o' : Obj} (h : MpR w b g R W) (hD : w.heap.size ≤ D) (hK : W.heap[D]? = some o) (ho : o.isCells = false) : MpR w b g R (W.putObj D o') := by
  obtain ⟨g', ⟨A, c, h1, h2, h3⟩, hF, hg⟩ := h
  have hDb : b ≠ D := by
    intro e
    subst e
    have := (show W.heap[b]? = _ from h1).symm.trans hK
    injection this with this
    subst this
    cases ho
  refine ⟨g', ⟨A, c, (World.putObj_heap_other (by omega)).trans h1, ownsRow_putObj h2 _ hK ho, h3⟩, ⟨⟨hF.1.os, hF.1.tape, hF.1.output, ?_, fun k hk => absurd hk (Nat.not_lt_zero _)⟩, fun k hk hb hg => (World.putObj_heap_other (by omega)).trans (hF.2 k hk hb hg)⟩, hg⟩
  have := hF.1.size
  simpa [World.putObj] using this
theorem box_keep {V w2 : World} {B N base size k : Nat} {t e : TypeId} {v u x : Value} {xs : List Value} {o : Obj} (h : Boxed V B t v) (hro : V.ownsRow base e size u k xs) (hte : t ≠ e) (hg : (V.alloc o).grownBy w2 u.ownBlock) (hne : B ≠ N) : Boxed (w2.setCell ⟨N, 0, none⟩ x) B t v :=
  Boxed.other ((h.alloc o).kept hg ((h.alloc o).not_row hte (hro.alloc o))) hne x
/-- What a map owns. -/
theorem mpG_open {w : World} {b g : Nat} {R : List Rn} (h : MpG w b g R) : ∃ A c, Boxed w b 84 (.slice A R.length c) ∧ RnAt w A R ∧ R.length ≤ c ∧ c ≤ maxLen ∧ ((A = none ∧ R.length = 0 ∧ c = 0) ∨ ∃ g, A = some ⟨g, 0, none⟩) := by
  obtain ⟨A, c, h1, h2, h3⟩ := h
  obtain ⟨c1, c2⟩ := own_caps h2
  refine ⟨A, c, h1, own_rnat h2 rfl, c1, c2, ?_⟩
  rcases h2.2 with ⟨h, h0⟩ | ⟨g', _, _, h, _⟩
  · injection h with e1 _ e3
    exact .inl ⟨e1, h0, e3⟩
  · injection h with e1 _ _
    exact .inr ⟨g', e1⟩
def addL (l : List Int) (f t d : Int) : List Int := if 0 ≤ f ∧ f ≤ t ∧ t ≤ l.length then l.take f.toNat ++ ((l.drop f.toNat).take (t - f).toNat).map (adI d) ++ l.drop t.toNat else l
def AddR (w : World) (b g : Nat) (l : List Int) (f t d : Int) (e : Ending) (w' : World) : Prop := e = .returned (.int .i64 (chkR l.length f t)) ∧ MpR w b g (runs (addL l f t d)) w'
set_option maxRecDepth 100000 in
set_option maxHeartbeats 8000000 in
theorem add_in (b g : Nat) (l : List Int) (f t d : Int) (w : World) (h : MpG w b g (runs l)) (hgs : g < w.heap.size) (hl : l.length ≤ 400000) : CallsIn Fence.wide 6 Try.prog 34 #[.pointer (some ⟨b, 0, none⟩), .int .i64 f, .int .i64 t, .int .i64 d] w (AddR w b g l f t d) := by
  obtain ⟨i0, hi, hz0, hz1, hz2⟩ := info_parts info34
  have cC := fun w' h => check_any b (runs l) f t w' h
  rw [lenR_runs] at cC
  have H := Go.Lib.hid h
  have hrl := runs_len l
  have hb0 : Below w.heap.size w (w.alloc (.cells #[.int .i64 d] 3)) := (Below.refl _ w).alloc (Nat.le_refl _) _
  have cC1 := cC (w.alloc (.cells #[.int .i64 d] 3)) (mpG_at (mpG_below h hb0))
  have cW := fun w' => within_any b f t w'
  clear h cC
  by_cases hok : 0 ≤ f ∧ f ≤ t ∧ t ≤ l.length
  · have hc : chkR l.length f t = 0 := if_pos hok
    rw [hc] at cC1
    have HL : Hid (addL l f t d = l.take f.toNat ++ vals ((partsW f t (runs l)).map (turn (adI d))) ++ l.drop t.toNat) := Go.Lib.hid (by
      unfold addL
      obtain ⟨q1, q2, q3⟩ := runs_ok l
      have := (parts_ok q1 hok.1 hok.2.1 hok.2.2).2
      rw [if_pos hok, vals_turn, this, q3, Int.sub_zero])
    have HFT : Hid (Fits f ((partsW f t (runs l)).map (turn (adI d))) (t + 0)) := Go.Lib.hid (by
      obtain ⟨q1, q2, q3⟩ := runs_ok l
      rw [Int.add_zero]
      exact fits_turn _ (parts_ok q1 hok.1 hok.2.1 hok.2.2).1)
    have HPL : Hid ((partsW f t (runs l)).length ≤ 400000) := Go.Lib.hid (by
      unfold partsW
      have := parts_len f t ((runs l).dropWhile fun r => decide (r.2.1 ≤ f))
      have h2 : ((runs l).dropWhile fun r => decide (r.2.1 ≤ f)).length ≤ (runs l).length := (List.dropWhile_sublist _).length_le
      omega)
    have HCK := Go.Lib.hid hc
    have HST := Go.Lib.hid (ch_sortT (runs_ok l).1)
    obtain ⟨k0, k1, k2⟩ := hok
    clear hc
    refine callsIn_of_wp_marks Try.func34 rfl trivial ?_ rfl
    simp only [Try.ntmps34, List.size_toArray, List.length_cons, List.length_nil, Nat.reduceAdd, Nat.reduceSub, Array.replicate_succ, Array.replicate_zero, List.push_toArray, List.append_toArray, List.nil_append, List.cons_append]
    gi_wp2_with (first | (refine ⟨trivial, ?_⟩; gi_at_call 44; refine (callsIn_wide.2 cC1).mono ?_; rintro e w1 ⟨rfl, hb1⟩) | (refine ⟨trivial, ?_⟩; gi_at_call 43; refine (callsIn_wide.2 (cW _)).mono ?_; rintro e w2 ⟨rfl, rfl⟩))
    have cd1 : w1.cell? ⟨w.heap.size, 0, none⟩ = some (.int .i64 d) := (hb1.cell (p := ⟨w.heap.size, 0, none⟩) (by simp)).trans (Boxed.new w 3 (.int .i64 d)).cell
    have hw1 : w.heap.size < w1.heap.size := by have := hb1.size; simp at this; omega
    have hb01 : Below w.heap.size w w1 := hb0.trans (hb1.mono (by simp))
    have HB01 := Go.Lib.hid hb01
    obtain ⟨A, c, g1, g2, g3, g4, g5⟩ := mpG_open (mpG_below H.out hb01)
    clear cC1 hb1 hb0 hb01
    obtain ⟨N, hN⟩ : ∃ N, w1.heap.size = N := ⟨_, rfl⟩
    have bN := (((Boxed.new w1 31 (.slice none 0 0)).alloc (.cells #[.pointer (some ⟨b, 0, none⟩)] 25)).alloc (.cells #[.int .i64 f] 3)).alloc (.cells #[.int .i64 t] 3)
    have b1 := ((Boxed.new (w1.alloc (.cells #[.slice none 0 0] 31)) 25 (.pointer (some ⟨b, 0, none⟩))).alloc (.cells #[.int .i64 f] 3)).alloc (.cells #[.int .i64 t] 3)
    have b2 := (Boxed.new ((w1.alloc (.cells #[.slice none 0 0] 31)).alloc (.cells #[.pointer (some ⟨b, 0, none⟩)] 25)) 3 (.int .i64 f)).alloc (.cells #[.int .i64 t] 3)
    have b3 := Boxed.new (((w1.alloc (.cells #[.slice none 0 0] 31)).alloc (.cells #[.pointer (some ⟨b, 0, none⟩)] 25)).alloc (.cells #[.int .i64 f] 3)) 3 (.int .i64 t)
    have hB0 : Below w1.heap.size w1 ((((w1.alloc (.cells #[.slice none 0 0] 31)).alloc (.cells #[.pointer (some ⟨b, 0, none⟩)] 25)).alloc (.cells #[.int .i64 f] 3)).alloc (.cells #[.int .i64 t] 3)) := ((((Below.refl _ w1).alloc (Nat.le_refl _) _).alloc (by simp) _).alloc (by simp; omega) _).alloc (by simp; omega) _
    have hsz : ((((w1.alloc (.cells #[.slice none 0 0] 31)).alloc (.cells #[.pointer (some ⟨b, 0, none⟩)] 25)).alloc (.cells #[.int .i64 f] 3)).alloc (.cells #[.int .i64 t] 3)).heap.size = w1.heap.size + 4 := by simp
    rw [World.size_alloc] at b1
    rw [World.size_alloc, World.size_alloc] at b2
    rw [World.size_alloc, World.size_alloc, World.size_alloc] at b3
    generalize ((((w1.alloc (.cells #[.slice none 0 0] 31)).alloc (.cells #[.pointer (some ⟨b, 0, none⟩)] 25)).alloc (.cells #[.int .i64 f] 3)).alloc (.cells #[.int .i64 t] 3)) = W0 at bN b1 b2 b3 hB0 hsz ⊢
    rw [hN] at bN b1 b2 b3 hB0 hsz hw1 ⊢
    have G1 := Go.Lib.hid g1
    have G2 := Go.Lib.hid g2
    refine rangeG1 (T := TZ) (Bs := N + 1) (G := GW b (N + 1) (N + 1 + 1) (N + 1 + 2) A (runs l).length c (runs l) f t) rfl (by decide) (gf := 51) (lb := #[.pointer (some ⟨N + 1, 0, none⟩), .pointer (some ⟨N + 1 + 1, 0, none⟩), .pointer (some ⟨N + 1 + 2, 0, none⟩)]) rfl trivial (enters_of Try.func51 (by kernel_rfl) rfl)
      (by omega) (within_seq 5 (by decide) b (N + 1) (N + 1 + 1) (N + 1 + 2) A (runs l).length c (runs l) f t rfl g3 g4 g5 HST.out (by omega) W0)
      (fun (pre : List Rn) W => (∃ v, Boxed W N 31 v ∧ W.ownsRow (N + 2) 34 3 v pre.length (rowR (pre.map (turn (adI d)))) ∧ True) ∧ Below N w1 W ∧ Boxed W (N + 1) 25 (.pointer (some ⟨b, 0, none⟩)) ∧ Boxed W (N + 1 + 1) 3 (.int .i64 f) ∧ Boxed W (N + 1 + 2) 3 (.int .i64 t)) (fun _ _ _ => False)
      (fun _ W h => ⟨boxed_below G1.out (by rw [hN]; exact h.2.1), G2.out.below (by rw [hN]; exact h.2.1), h.2.2.1, h.2.2.2.1, h.2.2.2.2⟩)
      (OwnT.and (OwnT.row rfl rfl 3 (fun (pre : List Rn) => pre.length) (fun (pre : List Rn) => rowR (pre.map (turn (adI d)))) (fun _ _ => True)) (OwnT.and (OwnT.below (Nat.le_of_eq hN.symm) (by omega)) (OwnT.and (OwnT.boxed rfl (fun _ => _)) (OwnT.and (OwnT.boxed rfl (fun _ => _)) (OwnT.boxed rfl (fun _ => _)))))) (fun _ _ _ _ _ hs _ _ => hs)
      ⟨⟨_, bN, World.ownsRow_nil _ _ _ _, trivial⟩, hB0, b1, b2, b3⟩ ?round ?done ?stop
    case round =>
      clear bN b1 b2 b3 hB0 cW
      rintro l' pre x W ⟨⟨v, hv, hrow, _⟩, hB, h1, h2, h3⟩ hlt _ hl' hlW
      have hW1 := hB.size
      have hBs : N + 1 < W.heap.size := h1.lt
      unfold rnV
      obtain ⟨x0, x1, x2⟩ := x
      dsimp only
      gi_wp2
      refine ⟨(KeepsOthers.alloc _ _).from _, Kpt.alloc (by omega) _, ⟨⟨v, hv.alloc _, hrow.alloc _, trivial⟩, hB.alloc (by omega) _, h1.alloc _, h2.alloc _, h3.alloc _⟩, ?_⟩
      rintro V hg ⟨⟨u, hu, hro, _⟩, hBV, h1', h2', h3'⟩
      have hVs := hg.size
      simp only [World.size_alloc] at hVs
      have hc0 : V.cell? ⟨W.heap.size, 0, none⟩ = some (.int .i64 x0) := hg.cell (by simp) (fun e => by simp at e; omega)
      have hc1 : V.cell? ⟨W.heap.size, 1, none⟩ = some (.int .i64 x1) := hg.cell (by simp) (fun e => by simp at e; omega)
      have hc2 : V.cell? ⟨W.heap.size, 2, none⟩ = some (.int .i64 x2) := hg.cell (by simp) (fun e => by simp at e; omega)
      have hcd : V.cell? ⟨w.heap.size, 0, none⟩ = some (.int .i64 d) := (hBV.cell (p := ⟨w.heap.size, 0, none⟩) hw1).trans cd1
      have hc := hu.cell
      have hpl2 : pre.length ≤ 400000 := by have := HPL.out; omega
      have hVN : N < V.heap.size := hu.lt
      have hVN1 : N + 1 < V.heap.size := h1'.lt
      have hVN2 : N + 1 + 1 < V.heap.size := h2'.lt
      clear hv hrow hB hg h1 h2 h3
      gi_wp2_with (gi_at_builtin; refine wpListIn_append_own _ rfl _ _ 31 rfl (N + 2) 34 i0 (.agg #[.int .i64 0, .int .i64 0, .int .i64 0]) 3 24 Try.underlying31 hi hz0 hz1 hz2 rfl (by decide) _ _ _ rfl (hro.alloc _) ⟨V.heap.size, 0, none⟩ 1 1 [.int .i64 x0, .int .i64 x1, .int .i64 (wrap64 (x2 + d))] rfl rfl (cell_new3 _ _ _ _ _) (by intro u hu; simp at hu; rcases hu with rfl | rfl | rfl <;> rfl) (by unfold maxLen; omega) (by omega) (by simp; omega) ?_; intro v' w2 hown' hgrow _; obtain ⟨g', cap', rfl⟩ := ownsRow_succ hown'; obtain ⟨hv1, hv2, _, hk2, hb2⟩ := hu.appended (by decide) (own_lower hro (b' := N) (by omega)) (by omega) (Nat.le_refl _) (own_lower hown' (b' := N) (by omega)) hgrow; have hr2 := hown'.kept (grownBy_setCell' w2 N (.slice (some ⟨g', 0, none⟩) (pre.length + 1) cap')) (.inr (hv1.not_row (by decide) hown').symm); have kk := kpt_append (T := TZ) (Bs := N + 1) (by omega) hu (by omega) rfl rfl (by decide) hro (fun g hg => by have := (row_type hro g hg).1; omega) hgrow (v' := .slice (some ⟨g', 0, none⟩) (pre.length + 1) cap'); have hcv := hv1.cell; have hfv := hv1.frozen)
      refine ⟨hk2.from _, kk, ⟨⟨_, hv2, ?_, trivial⟩, hBV.trans hb2, box_keep h1' hro (by decide) hgrow (by omega), box_keep h2' hro (by decide) hgrow (by omega), box_keep h3' hro (by decide) hgrow (by omega)⟩⟩
      rw [List.map_append, List.map_singleton, rowR_snoc, List.length_append]; exact hr2
    case done =>
      rintro D xs W hD rfl ⟨⟨v, hv, hrow, _⟩, hB, _, _, _⟩ hK
      obtain ⟨Bv, cv, rfl⟩ := own_form hrow
      have hc := hv.cell
      have hwW : Below w.heap.size w W := HB01.out.trans (hB.mono (by omega))
      have cR := replace_any b g l ((partsW f t (runs l)).map (turn (adI d))) f t 0 Bv (partsW f t (runs l)).length cv W (mpG_below H.out hwW) hl k0 k1 k2 (by omega) (by omega) (own_rnat hrow (List.length_map _)) (List.length_map _) HPL.out HFT.out
      have hDW : D < W.heap.size := (Array.getElem?_eq_some_iff.1 hK).1
      have hDb : D ≠ b := by have := (mpG_below H.out hwW); have h2 := H.out; obtain ⟨_, _, q, _⟩ := h2; have := q.lt; omega
      have hgl : D ≠ g := by omega
      clear hrow
      gi_wp2_with (refine ⟨trivial, ?_⟩; gi_at_call 45; refine (callsIn_wide.2 cR).mono ?_; rintro e w9 ⟨rfl, hm⟩)
      have hm2 := mpR_pre hwW hm
      obtain ⟨_, _, hF9, _⟩ := hm
      have hK9 : w9.heap[D]? = some (.deferred (some [])) := (hF9.2 D hDW hDb hgl).trans hK
      refine ⟨by simp, .inl ⟨_, _, rfl, run_takeDeferred hK9, ?_⟩⟩
      refine ⟨.int .i64 0, by simp [results, Try.results34, go_sem], by rw [HCK.out], ?_⟩
      rw [HL.out]
      exact mpR_put hm2 (by omega) hK9 rfl
    case stop =>
      rintro D c pre W _ _ h _
      exact h.elim
  · have hc : chkR l.length f t = 2 := if_neg hok
    rw [hc] at cC1
    have HL : Hid (addL l f t d = l) := Go.Lib.hid (if_neg hok)
    have HCK := Go.Lib.hid hc
    clear hc hok cW
    refine callsIn_wide.2 ?_
    go_enter Try.func34, Try.ntmps34
    go_wp2_with (go_at_call 44; (with_reducible refine cC1.mono ?_); rintro e w1 ⟨rfl, hb1⟩)
    go_ret
    refine ⟨by rw [HCK.out]; rfl, by rw [HL.out]; exact mpR_below H.out (hb0.trans (hb1.mono (by simp)))⟩
theorem mpR_none {w w' : World} {b g : Nat} {R : List Rn} (h : MpR w b b R w') : MpR w b g R w' := by
  obtain ⟨g', ⟨A, c, h1, h2, h3⟩, hF, hg⟩ := h
  have hF' : Fr b g w w' := ⟨hF.1, fun k hk hb _ => hF.2 k hk hb hb⟩
  cases A with
  | none => exact ⟨g, ⟨none, c, h1, h2, fun k e => by cases e⟩, hF', .inl rfl⟩
  | some a =>
    obtain ⟨k, e⟩ : ∃ k, a = ⟨k, 0, none⟩ := by
      rcases h2.2 with ⟨h, _⟩ | ⟨k, _, _, h, _⟩
      · injection h with h; cases h
      · injection h with h
        injection h with h
        exact ⟨k, h⟩
    subst e
    have e := h3 k rfl
    subst e
    refine ⟨k, ⟨some ⟨k, 0, none⟩, c, h1, h2, h3⟩, hF', ?_⟩
    rcases hg with hg | hg
    · subst hg
      exact absurd rfl (h1.not_row (by decide) h2)
    · exact .inr hg
theorem add_any (b g : Nat) (l : List Int) (f t d : Int) (w : World) (h : MpG w b g (runs l)) (hl : l.length ≤ 400000) : Calls Try.prog 34 #[.pointer (some ⟨b, 0, none⟩), .int .i64 f, .int .i64 t, .int .i64 d] w (AddR w b g l f t d) := by
  obtain ⟨A, c, h1, h2, h3⟩ := h
  cases A with
  | none =>
    refine (callsIn_wide.1 (add_in b b l f t d w ⟨none, c, h1, h2, fun k e => by cases e⟩ h1.lt hl)).mono ?_
    rintro e w' ⟨rfl, hm⟩
    exact ⟨rfl, mpR_none hm⟩
  | some a =>
    obtain ⟨k, e⟩ : ∃ k, a = ⟨k, 0, none⟩ := by
      rcases h2.2 with ⟨h, _⟩ | ⟨k, _, _, h, _⟩
      · injection h with h; cases h
      · injection h with h
        injection h with h
        exact ⟨k, h⟩
    subst e
    have e := h3 k rfl
    subst e
    exact callsIn_wide.1 (add_in b k l f t d w ⟨some ⟨k, 0, none⟩, c, h1, h2, h3⟩ (h2.lt k rfl).2 hl)
end Go.Proofs.Ytioehncdkdfcmaa
