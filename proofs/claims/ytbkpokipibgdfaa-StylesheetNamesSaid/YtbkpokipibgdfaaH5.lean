/- Layer 7: Diff. -/
import Derived.Test.YtbkpokipibgdfaaH2
namespace Go.Proofs.Ytbkpokipibgdfaa
open Go.RowKit Go.Shelf Go.Lib

attribute [local go_sem] Oper.semAt_some

/-- Changes as cells; which of them Diff keeps. -/
def rowC (l : List Ch) : List Value := l.flatMap fun x => [.int .i64 x.1, .int .i64 x.2.1, .int .i64 x.2.2.1, .bool x.2.2.2.1, .bool x.2.2.2.2]
theorem rowC_snoc (l : List Ch) (x : Ch) : rowC (l ++ [x]) = rowC l ++ [.int .i64 x.1, .int .i64 x.2.1, .int .i64 x.2.2.1, .bool x.2.2.2.1, .bool x.2.2.2.2] := by simp [rowC]
def dif (x : Ch) : Bool := x.2.2.2.1 != x.2.2.2.2 || x.2.1 != x.2.2.1
theorem dif_yes (l : List Ch) (x : Ch) (h : dif x = true) : (l ++ [x]).filter dif = l.filter dif ++ [x] := by rw [List.filter_append]; simp [h]
theorem dif_no (l : List Ch) (x : Ch) (h : dif x = false) : (l ++ [x]).filter dif = l.filter dif := by rw [List.filter_append]; simp [h]
theorem info64 : (Try.prog.info? 113).map (fun i => (i.zero, i.size, i.bytes)) = some (some (.agg #[.int .i64 0, .int .i64 0, .int .i64 0, .bool false, .bool false]), 5, 32) := by kernel_rfl
theorem cell_new5 (w : World) (a b c d e : Value) (t : TypeId) : ∀ j u, [a, b, c, d, e][j]? = some u → (w.alloc (.cells #[a, b, c, d, e] t)).cell? ((⟨w.heap.size, 0, none⟩ : Addr).add j) = some u := by
  intro j u hj
  match j, hj with
  | 0, hj => simp at hj; subst hj; simp [Addr.add]
  | 1, hj => simp at hj; subst hj; simp [Addr.add]
  | 2, hj => simp at hj; subst hj; simp [Addr.add]
  | 3, hj => simp at hj; subst hj; simp [Addr.add]
  | 4, hj => simp at hj; subst hj; simp [Addr.add]
/-- What Diff hands back. -/
def DiffRet (la lb : List Pr) (w : World) (e : Ending) (w' : World) : Prop :=
  ∃ v, e = .returned v ∧ w'.ownsRow w.heap.size 113 5 v ((pairs la lb).filter dif).length (rowC ((pairs la lb).filter dif)) ∧ Below w.heap.size w w'

set_option maxRecDepth 100000 in
set_option maxHeartbeats 4000000 in
theorem diff_in (A B : Option Addr) (ca cb : Nat) (la lb : List Pr) (hla : la.length ≤ 1000) (hlb : lb.length ≤ 1000) (hca : la.length ≤ ca ∧ ca ≤ maxLen) (hcb : lb.length ≤ cb ∧ cb ≤ maxLen) (w : World) (hPa : PrAt w A la) (hPb : PrAt w B lb) :
    CallsIn Fence.wide 6 Try.prog 81 #[.slice A la.length ca, .slice B lb.length cb] w (DiffRet la lb w) := by
  obtain ⟨i0, hi, hz0, hz1, hz2⟩ := info_parts info64
  have hpl := pairs_len la lb
  have cP := fun na ca nb cb w' => pairsF_any A B na ca nb cb w'
  refine callsIn_of_wp_marks Try.func81 rfl trivial ?_ rfl
  simp only [Try.ntmps81, List.size_toArray, List.length_cons, List.length_nil, Nat.reduceAdd, Nat.reduceSub, Array.replicate_succ, Array.replicate_zero, List.push_toArray, List.append_toArray, List.nil_append, List.cons_append]
  gi_wp2_with (refine ⟨trivial, ?_⟩; gi_at_call 78; refine (callsIn_wide.2 (cP _ _ _ _ _)).mono ?_; rintro e w2 ⟨rfl, rfl⟩)
  have hB0 : Below w.heap.size w (((w.alloc (.cells #[.slice none 0 0] 114)).alloc (.cells #[.slice A la.length ca] 26)).alloc (.cells #[.slice B lb.length cb] 26)) := (((Below.refl _ w).alloc (Nat.le_refl _) _).alloc (by simp) _).alloc (by simp; omega) _
  have bN := ((Boxed.new w 114 (.slice none 0 0)).alloc (.cells #[.slice A la.length ca] 26)).alloc (.cells #[.slice B lb.length cb] 26)
  have bA := (Boxed.new (w.alloc (.cells #[.slice none 0 0] 114)) 26 (.slice A la.length ca)).alloc (.cells #[.slice B lb.length cb] 26)
  have bB := Boxed.new ((w.alloc (.cells #[.slice none 0 0] 114)).alloc (.cells #[.slice A la.length ca] 26)) 26 (.slice B lb.length cb)
  rw [World.size_alloc] at bA
  rw [World.size_alloc, World.size_alloc] at bB
  have hr0 : (((w.alloc (.cells #[.slice none 0 0] 114)).alloc (.cells #[.slice A la.length ca] 26)).alloc (.cells #[.slice B lb.length cb] 26)).ownsRow w.heap.size 113 5 (.slice none 0 0) 0 [] := World.ownsRow_nil _ _ _ _
  refine rangeG1 (T := TZ) (Bs := w.heap.size + 1) (G := fun W => Below w.heap.size w W) rfl (by decide) (gf := 93) (lb := #[.pointer (some ⟨w.heap.size + 1, 0, none⟩), .pointer (some ⟨w.heap.size + 1 + 1, 0, none⟩)]) rfl trivial (enters_of Try.func93 (by kernel_rfl) rfl)
    (by simp) (pairs_any 5 (by decide) (w.heap.size + 1) (w.heap.size + 1 + 1) A B ca cb la lb hla hlb hca hcb w.heap.size w _ (Nat.le_refl _) hPa hPb bA bB)
    (fun (pre : List Ch) W => (∃ v, Boxed W w.heap.size 114 v ∧ W.ownsRow (w.heap.size + 2) 113 5 v (pre.filter dif).length (rowC (pre.filter dif)) ∧ True) ∧ Below w.heap.size w W) (fun _ _ _ => False) (fun _ _ h => h.2)
    (OwnT.and (OwnT.row rfl rfl 5 (fun (pre : List Ch) => (pre.filter dif).length) (fun (pre : List Ch) => rowC (pre.filter dif)) (fun _ _ => True)) (OwnT.below (Nat.le_refl _) (by simp; omega))) (fun _ _ _ _ _ hs _ _ => hs)
    ⟨⟨_, bN, World.ownsRow_nil _ _ _ _, trivial⟩, hB0⟩ ?round ?done ?stop
  case round =>
    clear bN bA bB hB0 hr0 cP
    rintro l pre x W ⟨⟨v, hv, hrow, _⟩, hB⟩ hlt _ hl hlW
    have hW1 := hB.size
    simp only [World.size_alloc] at hl
    have hBs : w.heap.size + 1 < W.heap.size := by omega
    unfold chV
    obtain ⟨k, o, nw, had, has⟩ := x
    dsimp only
    gi_wp2
    refine ⟨(KeepsOthers.alloc _ _).from _, Kpt.alloc (by omega) _, ⟨⟨v, hv.alloc _, hrow.alloc _, trivial⟩, hB.alloc (by omega) _⟩, ?_⟩
    rintro V hg ⟨⟨u, hu, hro, _⟩, hBV⟩
    have hVs := hg.size
    simp only [World.size_alloc] at hVs
    have hc0 : V.cell? ⟨W.heap.size, 0, none⟩ = some (.int .i64 k) := hg.cell (by simp) (fun e => by simp at e; omega)
    have hc1 : V.cell? ⟨W.heap.size, 1, none⟩ = some (.int .i64 o) := hg.cell (by simp) (fun e => by simp at e; omega)
    have hc2 : V.cell? ⟨W.heap.size, 2, none⟩ = some (.int .i64 nw) := hg.cell (by simp) (fun e => by simp at e; omega)
    have hc4 : V.cell? ⟨W.heap.size, 4, none⟩ = some (.bool has) := hg.cell (by simp) (fun e => by simp at e; omega)
    have hc := hu.cell
    have hpl2 : (pre.filter dif).length ≤ 2000 := by have := List.length_filter_le dif pre; omega
    have hc3 : V.cell? ⟨W.heap.size, 3, none⟩ = some (.bool had) := hg.cell (by simp) (fun e => by simp at e; omega)
    clear hv hrow hB hg
    by_cases he : o = nw
    · subst he
      cases had with
      | false =>
        cases has with
        | false =>
          gi_wp2
          refine ⟨KeepsFrom.refl _ _, Kpt.refl _, ⟨u, hu, ?_, trivial⟩, hBV⟩
          rw [dif_no _ _ (by simp [dif])]; exact hro
        | true =>
          gi_wp2_with (gi_at_builtin; refine wpListIn_append_own _ rfl _ _ 114 rfl (w.heap.size + 2) 113 i0 (.agg #[.int .i64 0, .int .i64 0, .int .i64 0, .bool false, .bool false]) 5 32 Try.underlying114 hi hz0 hz1 hz2 rfl (by decide) _ _ _ rfl (hro.alloc _) ⟨V.heap.size, 0, none⟩ 1 1 [.int .i64 k, .int .i64 o, .int .i64 o, .bool false, .bool true] rfl rfl (cell_new5 _ _ _ _ _ _ _) (by intro u hu; simp at hu; rcases hu with rfl | rfl | rfl | rfl | rfl <;> rfl) (by unfold maxLen; omega) (by omega) (by simp; omega) ?_; intro v' w2 hown' hgrow _; obtain ⟨g', cap', rfl⟩ := ownsRow_succ hown'; obtain ⟨hv1, hv2, _, hk2, hb2⟩ := hu.appended (by decide) (own_lower hro (b' := w.heap.size) (by omega)) (by omega) (Nat.le_refl _) (own_lower hown' (b' := w.heap.size) (by omega)) hgrow; have hr2 := hown'.kept (grownBy_setCell' w2 w.heap.size (.slice (some ⟨g', 0, none⟩) ((pre.filter dif).length + 1) cap')) (.inr (hv1.not_row (by decide) hown').symm); have kk := kpt_append (T := TZ) (Bs := w.heap.size + 1) (by omega) hu (by omega) rfl rfl (by decide) hro (fun g hg => by have := (row_type hro g hg).1; omega) hgrow (v' := .slice (some ⟨g', 0, none⟩) ((pre.filter dif).length + 1) cap'); have hcv := hv1.cell; have hfv := hv1.frozen)
          refine ⟨hk2.from _, kk, ⟨⟨_, hv2, ?_, trivial⟩, hBV.trans hb2⟩⟩
          rw [dif_yes _ _ (by simp [dif]), rowC_snoc, List.length_append]; exact hr2
      | true =>
        cases has with
        | false =>
          gi_wp2_with (gi_at_builtin; refine wpListIn_append_own _ rfl _ _ 114 rfl (w.heap.size + 2) 113 i0 (.agg #[.int .i64 0, .int .i64 0, .int .i64 0, .bool false, .bool false]) 5 32 Try.underlying114 hi hz0 hz1 hz2 rfl (by decide) _ _ _ rfl (hro.alloc _) ⟨V.heap.size, 0, none⟩ 1 1 [.int .i64 k, .int .i64 o, .int .i64 o, .bool true, .bool false] rfl rfl (cell_new5 _ _ _ _ _ _ _) (by intro u hu; simp at hu; rcases hu with rfl | rfl | rfl | rfl | rfl <;> rfl) (by unfold maxLen; omega) (by omega) (by simp; omega) ?_; intro v' w2 hown' hgrow _; obtain ⟨g', cap', rfl⟩ := ownsRow_succ hown'; obtain ⟨hv1, hv2, _, hk2, hb2⟩ := hu.appended (by decide) (own_lower hro (b' := w.heap.size) (by omega)) (by omega) (Nat.le_refl _) (own_lower hown' (b' := w.heap.size) (by omega)) hgrow; have hr2 := hown'.kept (grownBy_setCell' w2 w.heap.size (.slice (some ⟨g', 0, none⟩) ((pre.filter dif).length + 1) cap')) (.inr (hv1.not_row (by decide) hown').symm); have kk := kpt_append (T := TZ) (Bs := w.heap.size + 1) (by omega) hu (by omega) rfl rfl (by decide) hro (fun g hg => by have := (row_type hro g hg).1; omega) hgrow (v' := .slice (some ⟨g', 0, none⟩) ((pre.filter dif).length + 1) cap'); have hcv := hv1.cell; have hfv := hv1.frozen)
          refine ⟨hk2.from _, kk, ⟨⟨_, hv2, ?_, trivial⟩, hBV.trans hb2⟩⟩
          rw [dif_yes _ _ (by simp [dif]), rowC_snoc, List.length_append]; exact hr2
        | true =>
          gi_wp2
          refine ⟨KeepsFrom.refl _ _, Kpt.refl _, ⟨u, hu, ?_, trivial⟩, hBV⟩
          rw [dif_no _ _ (by simp [dif])]; exact hro
    · have heb : (o == nw) = false := neB he
      cases had with
      | false =>
        cases has with
        | false =>
          gi_wp2_with (gi_at_builtin; refine wpListIn_append_own _ rfl _ _ 114 rfl (w.heap.size + 2) 113 i0 (.agg #[.int .i64 0, .int .i64 0, .int .i64 0, .bool false, .bool false]) 5 32 Try.underlying114 hi hz0 hz1 hz2 rfl (by decide) _ _ _ rfl (hro.alloc _) ⟨V.heap.size, 0, none⟩ 1 1 [.int .i64 k, .int .i64 o, .int .i64 nw, .bool false, .bool false] rfl rfl (cell_new5 _ _ _ _ _ _ _) (by intro u hu; simp at hu; rcases hu with rfl | rfl | rfl | rfl | rfl <;> rfl) (by unfold maxLen; omega) (by omega) (by simp; omega) ?_; intro v' w2 hown' hgrow _; obtain ⟨g', cap', rfl⟩ := ownsRow_succ hown'; obtain ⟨hv1, hv2, _, hk2, hb2⟩ := hu.appended (by decide) (own_lower hro (b' := w.heap.size) (by omega)) (by omega) (Nat.le_refl _) (own_lower hown' (b' := w.heap.size) (by omega)) hgrow; have hr2 := hown'.kept (grownBy_setCell' w2 w.heap.size (.slice (some ⟨g', 0, none⟩) ((pre.filter dif).length + 1) cap')) (.inr (hv1.not_row (by decide) hown').symm); have kk := kpt_append (T := TZ) (Bs := w.heap.size + 1) (by omega) hu (by omega) rfl rfl (by decide) hro (fun g hg => by have := (row_type hro g hg).1; omega) hgrow (v' := .slice (some ⟨g', 0, none⟩) ((pre.filter dif).length + 1) cap'); have hcv := hv1.cell; have hfv := hv1.frozen)
          refine ⟨hk2.from _, kk, ⟨⟨_, hv2, ?_, trivial⟩, hBV.trans hb2⟩⟩
          rw [dif_yes _ _ (by simp [dif, he]), rowC_snoc, List.length_append]; exact hr2
        | true =>
          gi_wp2_with (gi_at_builtin; refine wpListIn_append_own _ rfl _ _ 114 rfl (w.heap.size + 2) 113 i0 (.agg #[.int .i64 0, .int .i64 0, .int .i64 0, .bool false, .bool false]) 5 32 Try.underlying114 hi hz0 hz1 hz2 rfl (by decide) _ _ _ rfl (hro.alloc _) ⟨V.heap.size, 0, none⟩ 1 1 [.int .i64 k, .int .i64 o, .int .i64 nw, .bool false, .bool true] rfl rfl (cell_new5 _ _ _ _ _ _ _) (by intro u hu; simp at hu; rcases hu with rfl | rfl | rfl | rfl | rfl <;> rfl) (by unfold maxLen; omega) (by omega) (by simp; omega) ?_; intro v' w2 hown' hgrow _; obtain ⟨g', cap', rfl⟩ := ownsRow_succ hown'; obtain ⟨hv1, hv2, _, hk2, hb2⟩ := hu.appended (by decide) (own_lower hro (b' := w.heap.size) (by omega)) (by omega) (Nat.le_refl _) (own_lower hown' (b' := w.heap.size) (by omega)) hgrow; have hr2 := hown'.kept (grownBy_setCell' w2 w.heap.size (.slice (some ⟨g', 0, none⟩) ((pre.filter dif).length + 1) cap')) (.inr (hv1.not_row (by decide) hown').symm); have kk := kpt_append (T := TZ) (Bs := w.heap.size + 1) (by omega) hu (by omega) rfl rfl (by decide) hro (fun g hg => by have := (row_type hro g hg).1; omega) hgrow (v' := .slice (some ⟨g', 0, none⟩) ((pre.filter dif).length + 1) cap'); have hcv := hv1.cell; have hfv := hv1.frozen)
          refine ⟨hk2.from _, kk, ⟨⟨_, hv2, ?_, trivial⟩, hBV.trans hb2⟩⟩
          rw [dif_yes _ _ (by simp [dif]), rowC_snoc, List.length_append]; exact hr2
      | true =>
        cases has with
        | false =>
          gi_wp2_with (gi_at_builtin; refine wpListIn_append_own _ rfl _ _ 114 rfl (w.heap.size + 2) 113 i0 (.agg #[.int .i64 0, .int .i64 0, .int .i64 0, .bool false, .bool false]) 5 32 Try.underlying114 hi hz0 hz1 hz2 rfl (by decide) _ _ _ rfl (hro.alloc _) ⟨V.heap.size, 0, none⟩ 1 1 [.int .i64 k, .int .i64 o, .int .i64 nw, .bool true, .bool false] rfl rfl (cell_new5 _ _ _ _ _ _ _) (by intro u hu; simp at hu; rcases hu with rfl | rfl | rfl | rfl | rfl <;> rfl) (by unfold maxLen; omega) (by omega) (by simp; omega) ?_; intro v' w2 hown' hgrow _; obtain ⟨g', cap', rfl⟩ := ownsRow_succ hown'; obtain ⟨hv1, hv2, _, hk2, hb2⟩ := hu.appended (by decide) (own_lower hro (b' := w.heap.size) (by omega)) (by omega) (Nat.le_refl _) (own_lower hown' (b' := w.heap.size) (by omega)) hgrow; have hr2 := hown'.kept (grownBy_setCell' w2 w.heap.size (.slice (some ⟨g', 0, none⟩) ((pre.filter dif).length + 1) cap')) (.inr (hv1.not_row (by decide) hown').symm); have kk := kpt_append (T := TZ) (Bs := w.heap.size + 1) (by omega) hu (by omega) rfl rfl (by decide) hro (fun g hg => by have := (row_type hro g hg).1; omega) hgrow (v' := .slice (some ⟨g', 0, none⟩) ((pre.filter dif).length + 1) cap'); have hcv := hv1.cell; have hfv := hv1.frozen)
          refine ⟨hk2.from _, kk, ⟨⟨_, hv2, ?_, trivial⟩, hBV.trans hb2⟩⟩
          rw [dif_yes _ _ (by simp [dif]), rowC_snoc, List.length_append]; exact hr2
        | true =>
          gi_wp2_with (gi_at_builtin; refine wpListIn_append_own _ rfl _ _ 114 rfl (w.heap.size + 2) 113 i0 (.agg #[.int .i64 0, .int .i64 0, .int .i64 0, .bool false, .bool false]) 5 32 Try.underlying114 hi hz0 hz1 hz2 rfl (by decide) _ _ _ rfl (hro.alloc _) ⟨V.heap.size, 0, none⟩ 1 1 [.int .i64 k, .int .i64 o, .int .i64 nw, .bool true, .bool true] rfl rfl (cell_new5 _ _ _ _ _ _ _) (by intro u hu; simp at hu; rcases hu with rfl | rfl | rfl | rfl | rfl <;> rfl) (by unfold maxLen; omega) (by omega) (by simp; omega) ?_; intro v' w2 hown' hgrow _; obtain ⟨g', cap', rfl⟩ := ownsRow_succ hown'; obtain ⟨hv1, hv2, _, hk2, hb2⟩ := hu.appended (by decide) (own_lower hro (b' := w.heap.size) (by omega)) (by omega) (Nat.le_refl _) (own_lower hown' (b' := w.heap.size) (by omega)) hgrow; have hr2 := hown'.kept (grownBy_setCell' w2 w.heap.size (.slice (some ⟨g', 0, none⟩) ((pre.filter dif).length + 1) cap')) (.inr (hv1.not_row (by decide) hown').symm); have kk := kpt_append (T := TZ) (Bs := w.heap.size + 1) (by omega) hu (by omega) rfl rfl (by decide) hro (fun g hg => by have := (row_type hro g hg).1; omega) hgrow (v' := .slice (some ⟨g', 0, none⟩) ((pre.filter dif).length + 1) cap'); have hcv := hv1.cell; have hfv := hv1.frozen)
          refine ⟨hk2.from _, kk, ⟨⟨_, hv2, ?_, trivial⟩, hBV.trans hb2⟩⟩
          rw [dif_yes _ _ (by simp [dif, he]), rowC_snoc, List.length_append]; exact hr2
  case done =>
    rintro D xs W hD rfl ⟨⟨v, hv, hrow, _⟩, hB⟩ hK
    simp only [World.size_alloc] at hD
    have hc := hv.cell
    gi_wp2
    refine ⟨by simp, .inl ⟨_, _, rfl, run_takeDeferred hK, ?_⟩⟩
    refine ⟨v, by simp [results, Try.results81, go_sem], v, rfl, ownsRow_putObj (own_lower hrow (by omega)) _ hK rfl, hB.trans (belowK_b (w := w) (Nat.le_refl _) W D _ _ (by omega) hK rfl rfl)⟩
  case stop =>
    rintro D c pre W _ _ h _
    exact h.elim
theorem diff_any (A B : Option Addr) (ca cb : Nat) (la lb : List Pr) (hla : la.length ≤ 1000) (hlb : lb.length ≤ 1000) (hca : la.length ≤ ca ∧ ca ≤ maxLen) (hcb : lb.length ≤ cb ∧ cb ≤ maxLen) (w : World) (hPa : PrAt w A la) (hPb : PrAt w B lb) :
    Calls Try.prog 81 #[.slice A la.length ca, .slice B lb.length cb] w (DiffRet la lb w) := callsIn_wide.1 (diff_in A B ca cb la lb hla hlb hca hcb w hPa hPb)
end Go.Proofs.Ytbkpokipibgdfaa
