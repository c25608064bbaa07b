/- Layer 8: effective (52). -/
import Derived.Test.YtbkpokipibgdfaaS8
import Derived.Test.YtbkpokipibgdfaaJ6
import Derived.Stop.RegionWithIn
namespace Go.Proofs.Ytbkpokipibgdfaa
open Go.RowKit Go.Shelf Go.Lib Go.Maps
set_option linter.unusedVariables false
attribute [local go_sem] Oper.semAt_some

def mergeL (a b : List Pr) : List Pr := (pairs a b).map mrg
/-- The effective properties behind what has come. -/
def effP (l : List St) (pre : List Nat) : List Pr := pre.foldl (fun acc k => mergeL (l.getD k default).props acc) []
theorem effP_snoc (l : List St) (pre : List Nat) (k : Nat) : effP l (pre ++ [k]) = mergeL (l.getD k default).props (effP l pre) := by unfold effP; rw [List.foldl_append]; rfl
theorem own_set {w : World} {base e size n : Nat} {v : Value} {xs : List Value} (h : w.ownsRow base e size v n xs) {C : Nat} (hC : C < base) (u : Value) : (w.setCell ⟨C, 0, none⟩ u).ownsRow base e size v n xs := by
  refine h.kept (grownBy_setCell' w C u) ?_
  rcases h.2 with ⟨rfl, _⟩ | ⟨g, cap, cur, rfl, hb, _⟩
  · exact .inl rfl
  · exact .inr (by simp [Value.ownBlock]; omega)
/-- What effective hands back. -/
def EffRet (o : List Pr) (w : World) (e : Ending) (w' : World) : Prop := ∃ v, e = .returned v ∧ w'.ownsRow w.heap.size 55 2 v o.length (rowP o) ∧ Below w.heap.size w w'
/-- How long the lists are at most. -/
def Bnd (l : List St) (o : Option Nat) (N : Nat) : Prop := ∀ pre, ChP l o pre → (effP l pre).length ≤ 1000 ∧ pre.length < N
def PrsOk (l : List St) : Prop := ∀ x ∈ l, x.props.length ≤ 1000
set_option maxRecDepth 100000 in
set_option maxHeartbeats 8000000 in
theorem effective_in (l : List St) (hok : LsOk l) (hps : PrsOk l) (A : Option Addr) (m d b N : Nat) (i : Int) (hi : I64 i) (hbd : Bnd l (plc l i) N) (w : World) (h : ShAt w A m d b l) :
    CallsIn Fence.wide 7 Try.prog 52 #[.agg #[.slice A m d, .map (some b)], .int .i64 i] w fun e w' => ∃ xs, ChP l (plc l i) xs ∧ nxt l (plc l i) xs = none ∧ EffRet (effP l xs) w e w' := by
  have HH := Go.Lib.hid h
  have HPS := Go.Lib.hid hps
  have HBD := Go.Lib.hid hbd
  have hsm := h.small
  have cF := fun i w' => chainF_any A m d b i w'
  refine callsIn_of_wp_marks Try.func52 rfl trivial ?_ rfl
  simp only [Try.ntmps52, List.size_toArray, List.length_cons, List.length_nil, Nat.reduceAdd, Nat.reduceSub, Array.replicate_succ, Array.replicate_zero, List.push_toArray, List.append_toArray, List.nil_append, List.cons_append]
  gi_wp2_with (refine ⟨trivial, ?_⟩; gi_at_call 51; refine (callsIn_wide.2 (cF _ _)).mono ?_; rintro e w2 ⟨rfl, rfl⟩)
  have hB0 : Below w.heap.size w ((((w.alloc (.cells #[.slice A m d, .map (some b)] 73)).alloc (.cells #[.slice none 0 0] 26)).alloc (.cells #[.slice A m d, .map (some b)] 73)).alloc (.cells #[.int .i64 i] 3)) := ((((Below.refl _ w).alloc (Nat.le_refl _) _).alloc (by simp) _).alloc (by simp; omega) _).alloc (by simp; omega) _
  have bS := (((ObjAt.new w #[.slice A m d, .map (some b)] 73).alloc (.cells #[.slice none 0 0] 26)).alloc (.cells #[.slice A m d, .map (some b)] 73)).alloc (.cells #[.int .i64 i] 3)
  have bN := ((Boxed.new (w.alloc (.cells #[.slice A m d, .map (some b)] 73)) 26 (.slice none 0 0)).alloc (.cells #[.slice A m d, .map (some b)] 73)).alloc (.cells #[.int .i64 i] 3)
  rw [World.size_alloc] at bN
  have bC := (ObjAt.new ((w.alloc (.cells #[.slice A m d, .map (some b)] 73)).alloc (.cells #[.slice none 0 0] 26)) #[.slice A m d, .map (some b)] 73).alloc (.cells #[.int .i64 i] 3)
  rw [World.size_alloc, World.size_alloc] at bC
  have bI := Boxed.new (((w.alloc (.cells #[.slice A m d, .map (some b)] 73)).alloc (.cells #[.slice none 0 0] 26)).alloc (.cells #[.slice A m d, .map (some b)] 73)) 3 (.int .i64 i)
  rw [World.size_alloc, World.size_alloc, World.size_alloc] at bI
  refine rangeH1 (T := TZ) (Bs := w.heap.size + 1 + 1) (G := fun pre W => pre.length < N ∧ Below w.heap.size w W) rfl (by decide) (gf := 69) (lb := #[.pointer (some ⟨w.heap.size + 1 + 1, 0, none⟩), .pointer (some ⟨w.heap.size + 1 + 1 + 1, 0, none⟩)]) rfl trivial (enters_of Try.func69 (by kernel_rfl) rfl)
    (by simp) (chain_any 6 (by decide) (w.heap.size + 1 + 1) (w.heap.size + 1 + 1 + 1) A m d b N l i hi hok w.heap.size w _ rfl h bC bI)
    (fun (pre : List Nat) W => ((∃ v, Boxed W (w.heap.size + 1) 26 v ∧ W.ownsRow w.heap.size 55 2 v (effP l pre).length (rowP (effP l pre)) ∧ True) ∧ ObjAt W w.heap.size #[.slice A m d, .map (some b)] 73 ∧ ChP l (plc l i) pre) ∧ Below w.heap.size w W) (fun _ _ _ => False) (fun _ _ h => ⟨(HBD.out _ h.1.2.2).2, h.2⟩)
    (OwnT.and (OwnT.and (OwnT.row rfl rfl 2 (fun (pre : List Nat) => (effP l pre).length) (fun (pre : List Nat) => rowP (effP l pre)) (fun _ _ => True)) (OwnT.and (OwnT.obj rfl (fun _ => _)) OwnT.pure)) (OwnT.below (Nat.le_refl _) (by simp; omega))) (fun _ _ _ _ _ hs _ _ => hs)
    ⟨⟨⟨_, bN, World.ownsRow_nil _ _ _ _, trivial⟩, bS, ChP.nil _ _⟩, hB0⟩ ?round ?done ?stop
  case round =>
    clear bN bS bC bI hB0 cF
    rintro L pre k W ⟨⟨⟨v, hv, hrow, _⟩, hsh, hch⟩, hB⟩ hlt hsp hl hlW
    have hW1 := hB.size
    simp only [World.size_alloc] at hl
    have hBs : w.heap.size + 1 + 1 < W.heap.size := by omega
    gi_wp2
    refine ⟨KeepsFrom.refl _ _, Kpt.refl _, ⟨⟨⟨v, hv, hrow, trivial⟩, hsh, hch⟩, hB⟩, ?_⟩
    rintro V hg ⟨⟨⟨u, hu, hro, _⟩, hsV, _⟩, hBV⟩
    have hVs := hg.size
    have hkl := nxt_lt (hsp pre k [] rfl)
    obtain ⟨g, oo, rfl, hgg, hcl⟩ := HH.out.list.pos (by omega)
    obtain ⟨B, c, _, _, _, _, _, h5, hc1, hc2, hpr⟩ := hcl k hkl
    have z5 := (hBV.cell (p := ⟨g, oo + k * 6 + 5, none⟩) hgg).trans h5
    have f1 : (k : Int) < (m : Int) := by have := HH.out.len; omega
    have f0 : (0 : Int) ≤ (k : Int) := by omega
    have hc := hu.cell
    have a0 := hsV.a0
    have a1 := hsV.a1
    have hpl := HPS.out l[k] (List.getElem_mem hkl)
    have HEF := Go.Lib.hid (show effP l (pre ++ [k]) = mergeL l[k].props (effP l pre) from by rw [effP_snoc, List.getD_eq_getElem?_getD, List.getElem?_eq_getElem hkl]; rfl)
    have hel := (HBD.out _ hch).1
    obtain ⟨B2, c2, rfl⟩ := own_form hro
    have HRO := Go.Lib.hid hro
    have hpv := PVal.own hro rfl
    obtain ⟨A3, c3, he3, hc3, hc4, hpr2⟩ := hpv
    injection he3 with q1 q2 q3
    subst q1 q3
    have cM := merge_any B B2 c c2 l[k].props (effP l pre) hpl hel ⟨hc1, hc2⟩ ⟨hc3, hc4⟩ V.drew (hpr.below (bdrew1 hBV) (Nat.le_refl _)) (hpr2.below (bdrew1 (Below.refl _ V)) (Nat.le_refl _))
    clear hv hrow hB hg h5 hcl hpr hpr2
    have U0 : Boxed V.drew (w.heap.size + 1) 26 _ := hu
    gi_wp2
    gi_region_with (refine ⟨trivial, ?_⟩; gi_at_call 56; (with_reducible refine (CallsIn.inRound _ (callsIn_wide.2 cM)).mono ?_); rintro e w8 ⟨v8, rfl, hr8, hb8⟩; obtain ⟨B8, c8, rfl⟩ := own_form hr8; have U8 := boxed_below U0 hb8; have y0 := U8.cell; have y1 := U8.frozen)
    all_goals
      have hVd : V.drew.heap.size = V.heap.size := rfl
      have hbV : Below V.heap.size V w8 := (bdrew1 (Below.refl _ V)).trans (hb8.mono (Nat.le_refl _))
      have hw8 := hbV.size
      refine ⟨(KeepsFrom.of_grownBy (grown_below hbV rfl) (fun j e => by cases e)).trans (KeepsFrom.of_grownBy (grownBy_setCell' w8 _ _) (fun j e => by cases e; simp)), (Kpt.of_grownBy (by omega) (grown_below hbV rfl) (fun r e => by cases e)).trans (Kpt.boxed (by omega) U8 (by omega) rfl _), ⟨⟨⟨_, U8.set _, ?_, trivial⟩, (hsV.below hbV).other (by omega) 0 _, hsp⟩, ?_⟩⟩
      · have h9 := own_set (own_lower hr8 (by omega : w.heap.size + 2 ≤ V.drew.heap.size)) (by omega : w.heap.size + 1 < w.heap.size + 2) (Value.slice B8 (pairs l[k].props (effP l pre)).length c8)
        have h10 := own_lower h9 (by omega : w.heap.size ≤ w.heap.size + 2)
        rw [HEF.out]
        unfold mergeL
        rw [List.length_map]
        exact h10
      · exact (hBV.trans (hbV.mono (by omega))).grown (grownBy_setCell' w8 _ _) (by omega) (fun j e => by cases e; omega)
  case done =>
    rintro D xs W hD hxs ⟨⟨⟨v, hv, hrow, _⟩, hsh, hch⟩, hB⟩ hK
    simp only [World.size_alloc] at hD
    have hc := hv.cell
    gi_wp2
    refine ⟨by simp, .inl ⟨_, _, rfl, run_takeDeferred hK, ?_⟩⟩
    refine ⟨v, by simp [results, Try.results52, go_sem], xs, hxs.1, hxs.2, v, rfl, ownsRow_putObj hrow _ hK rfl, hB.trans (belowK_b (w := w) (Nat.le_refl _) W D _ _ (by omega) hK rfl rfl)⟩
  case stop =>
    rintro D c pre W _ _ h _
    exact h.elim
theorem effective_any (l : List St) (hok : LsOk l) (hps : PrsOk l) (A : Option Addr) (m d b N : Nat) (i : Int) (hi : I64 i) (hbd : Bnd l (plc l i) N) (w : World) (h : ShAt w A m d b l) :
    Calls Try.prog 52 #[.agg #[.slice A m d, .map (some b)], .int .i64 i] w fun e w' => ∃ xs, ChP l (plc l i) xs ∧ nxt l (plc l i) xs = none ∧ EffRet (effP l xs) w e w' := callsIn_wide.1 (effective_in l hok hps A m d b N i hi hbd w h)
end Go.Proofs.Ytbkpokipibgdfaa
