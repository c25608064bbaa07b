/- Layer 8: the texts H2 H5 H3 H4 H6 H7 Ha H8 H9. -/
import Derived.Test.YtbkpokipibgdfaaNB
import Derived.Test.YtbkpokipibgdfaaNA
import Derived.Laws.Tables
import Derived.Laws.Rows
import Derived.Deep.WholeRow
import Derived.Deep.DeepCutAuto

/- Layer 7: pairs, Merge, Diff. -/
namespace Go.Proofs.Ytbkpokipibgdfaa
open Go.RowKit Go.Shelf Go.Lib

attribute [local go_sem] Oper.semAt_some

theorem pairs_any (n : Nat) (hn : 1 ≤ n) (Ba Bb : Nat) (A B : Option Addr) (ca cb : Nat) (la lb : List Pr) (hla : la.length ≤ 1000) (hlb : lb.length ≤ 1000) (hca : la.length ≤ ca ∧ ca ≤ maxLen) (hcb : lb.length ≤ cb ∧ cb ≤ maxLen) (n0 : Nat) (w0 w : World)
    (hn0 : w0.heap.size ≤ n0) (hPa : PrAt w0 A la) (hPb : PrAt w0 B lb) (ha : Boxed w Ba 26 (.slice A la.length ca)) (hb : Boxed w Bb 26 (.slice B lb.length cb)) :
    SeqG TZ Ba Fence.wide n Try.prog 93 #[.pointer (some ⟨Ba, 0, none⟩), .pointer (some ⟨Bb, 0, none⟩)] (fun x => #[chV x]) (fun xs => xs = pairs la lb) (fun pre => pre <+: pairs la lb) (pairs la lb).length (fun W => Below n0 w0 W) w := by
  intro L J Jx W hw hJ hJx hG hY h0
  exact pairs_gen n hn L Ba Bb A B ca cb la lb hla hlb hca hcb J Jx n0 w0 W hn0 hPa hPb hJ hG (boxed_below ha hw) (boxed_below hb hw) hY h0
set_option maxRecDepth 100000 in
theorem pairsF_any (A B : Option Addr) (na ca nb cb : Nat) (w : World) :
    Calls Try.prog 78 #[.slice A na ca, .slice B nb cb] w fun e w' => e = .returned (.func (.func 93) #[] #[.pointer (some ⟨w.heap.size, 0, none⟩), .pointer (some ⟨w.heap.size + 1, 0, none⟩)]) ∧ w' = (w.alloc (.cells #[.slice A na ca] 26)).alloc (.cells #[.slice B nb cb] 26) := by
  go_enter Try.func78, Try.ntmps78
  go_wp2
  go_ret
  exact ⟨rfl, rfl⟩
theorem info57 : (Try.prog.info? 55).map (fun i => (i.zero, i.size, i.bytes)) = some (some (.agg #[.int .i64 0, .int .i64 0]), 2, 16) := by kernel_rfl
def rowP (l : List Pr) : List Value := l.flatMap fun x => [.int .i64 x.1, .int .i64 x.2]
theorem rowP_snoc (l : List Pr) (x : Pr) : rowP (l ++ [x]) = rowP l ++ [.int .i64 x.1, .int .i64 x.2] := by simp [rowP]
theorem cell_new2 (w : World) (a b : Value) (t : TypeId) : ∀ j u, [a, b][j]? = some u → (w.alloc (.cells #[a, b] t)).cell? ((⟨w.heap.size, 0, none⟩ : Addr).add j) = some u := by
  intro j u hj
  match j, hj with
  | 0, hj => simp at hj; subst hj; simp [Addr.add]
  | 1, hj => simp at hj; subst hj; simp [Addr.add]
theorem pairs_len (a b : List Pr) : (pairs a b).length ≤ a.length + b.length := by
  induction a generalizing b with
  | nil =>
    induction b with
    | nil => rw [pairs_nil]; simp
    | cons y b ih => rw [pairs_right]; simp at *; omega
  | cons x a iha =>
    induction b with
    | nil => rw [pairs_left]; have := iha []; simp at *; omega
    | cons y b ihb =>
      by_cases h1 : y.1 = x.1
      · rw [pairs_both _ _ _ _ h1]; have := iha b; simp at *; omega
      · by_cases h2 : x.1 < y.1
        · rw [pairs_lt _ _ _ _ h2]; have := iha (y :: b); simp at *; omega
        · rw [pairs_gt _ _ _ _ (by omega)]; simp at *; omega
/-- What Merge makes of a change. -/
def mrg (x : Ch) : Pr := (x.1, if x.2.2.2.2 = true then x.2.2.1 else x.2.1)
/-- What Merge hands back. -/
def MergeRet (la lb : List Pr) (w : World) (e : Ending) (w' : World) : Prop :=
  ∃ v, e = .returned v ∧ w'.ownsRow w.heap.size 55 2 v (pairs la lb).length (rowP ((pairs la lb).map mrg)) ∧ Below w.heap.size w w'

set_option maxRecDepth 100000 in
set_option maxHeartbeats 4000000 in
theorem merge_in (A B : Option Addr) (ca cb : Nat) (la lb : List Pr) (hla : la.length ≤ 1000) (hlb : lb.length ≤ 1000) (hca : la.length ≤ ca ∧ ca ≤ maxLen) (hcb : lb.length ≤ cb ∧ cb ≤ maxLen) (w : World) (hPa : PrAt w A la) (hPb : PrAt w B lb) :
    CallsIn Fence.wide 6 Try.prog 56 #[.slice A la.length ca, .slice B lb.length cb] w (MergeRet la lb w) := by
  obtain ⟨i0, hi, hz0, hz1, hz2⟩ := info_parts info57
  have hpl := pairs_len la lb
  have cP := fun na ca nb cb w' => pairsF_any A B na ca nb cb w'
  refine callsIn_of_wp_marks Try.func56 rfl trivial ?_ rfl
  simp only [Try.ntmps56, List.size_toArray, List.length_cons, List.length_nil, Nat.reduceAdd, Nat.reduceSub, Array.replicate_succ, Array.replicate_zero, List.push_toArray, List.append_toArray, List.nil_append, List.cons_append]
  gi_wp2_with (refine ⟨trivial, ?_⟩; gi_at_call 78; refine (callsIn_wide.2 (cP _ _ _ _ _)).mono ?_; rintro e w2 ⟨rfl, rfl⟩)
  have hB0 : Below w.heap.size w (((w.alloc (.cells #[.slice none 0 0] 26)).alloc (.cells #[.slice A la.length ca] 26)).alloc (.cells #[.slice B lb.length cb] 26)) := (((Below.refl _ w).alloc (Nat.le_refl _) _).alloc (by simp) _).alloc (by simp; omega) _
  have bN := ((Boxed.new w 26 (.slice none 0 0)).alloc (.cells #[.slice A la.length ca] 26)).alloc (.cells #[.slice B lb.length cb] 26)
  have bA := (Boxed.new (w.alloc (.cells #[.slice none 0 0] 26)) 26 (.slice A la.length ca)).alloc (.cells #[.slice B lb.length cb] 26)
  have bB := Boxed.new ((w.alloc (.cells #[.slice none 0 0] 26)).alloc (.cells #[.slice A la.length ca] 26)) 26 (.slice B lb.length cb)
  rw [World.size_alloc] at bA
  rw [World.size_alloc, World.size_alloc] at bB
  have hr0 : (((w.alloc (.cells #[.slice none 0 0] 26)).alloc (.cells #[.slice A la.length ca] 26)).alloc (.cells #[.slice B lb.length cb] 26)).ownsRow w.heap.size 55 2 (.slice none 0 0) 0 [] := World.ownsRow_nil _ _ _ _
  refine rangeG1 (T := TZ) (Bs := w.heap.size + 1) (G := fun W => Below w.heap.size w W) rfl (by decide) (gf := 93) (lb := #[.pointer (some ⟨w.heap.size + 1, 0, none⟩), .pointer (some ⟨w.heap.size + 1 + 1, 0, none⟩)]) rfl trivial (enters_of Try.func93 (by kernel_rfl) rfl)
    (by simp) (pairs_any 5 (by decide) (w.heap.size + 1) (w.heap.size + 1 + 1) A B ca cb la lb hla hlb hca hcb w.heap.size w _ (Nat.le_refl _) hPa hPb bA bB)
    (fun (pre : List Ch) W => (∃ v, Boxed W w.heap.size 26 v ∧ W.ownsRow (w.heap.size + 2) 55 2 v pre.length (rowP (pre.map mrg)) ∧ True) ∧ Below w.heap.size w W) (fun _ _ _ => False) (fun _ _ h => h.2)
    (OwnT.and (OwnT.row rfl rfl 2 (fun (pre : List Ch) => pre.length) (fun (pre : List Ch) => rowP (pre.map mrg)) (fun _ _ => True)) (OwnT.below (Nat.le_refl _) (by simp; omega))) (fun _ _ _ _ _ hs _ _ => hs)
    ⟨⟨_, bN, World.ownsRow_nil _ _ _ _, trivial⟩, hB0⟩ ?round ?done ?stop
  case round =>
    clear bN bA bB hB0 hr0 cP
    rintro l pre x W ⟨⟨v, hv, hrow, _⟩, hB⟩ hlt _ hl hlW
    have hW1 := hB.size
    simp only [World.size_alloc] at hl
    have hBs : w.heap.size + 1 < W.heap.size := by omega
    unfold chV
    obtain ⟨k, o, nw, had, has⟩ := x
    dsimp only
    gi_wp2
    refine ⟨(KeepsOthers.alloc _ _).from _, Kpt.alloc (by omega) _, ⟨⟨v, hv.alloc _, hrow.alloc _, trivial⟩, hB.alloc (by omega) _⟩, ?_⟩
    rintro V hg ⟨⟨u, hu, hro, _⟩, hBV⟩
    have hVs := hg.size
    simp only [World.size_alloc] at hVs
    have hc0 : V.cell? ⟨W.heap.size, 0, none⟩ = some (.int .i64 k) := hg.cell (by simp) (fun e => by simp at e; omega)
    have hc1 : V.cell? ⟨W.heap.size, 1, none⟩ = some (.int .i64 o) := hg.cell (by simp) (fun e => by simp at e; omega)
    have hc2 : V.cell? ⟨W.heap.size, 2, none⟩ = some (.int .i64 nw) := hg.cell (by simp) (fun e => by simp at e; omega)
    have hc4 : V.cell? ⟨W.heap.size, 4, none⟩ = some (.bool has) := hg.cell (by simp) (fun e => by simp at e; omega)
    have hc := hu.cell
    have hpl2 : pre.length ≤ 2000 := by omega
    clear hv hrow hB hg
    cases has with
    | false =>
      gi_wp2_with (gi_at_builtin; refine wpListIn_append_own _ rfl _ _ 26 rfl (w.heap.size + 2) 55 i0 (.agg #[.int .i64 0, .int .i64 0]) 2 16 Try.underlying26 hi hz0 hz1 hz2 rfl (by decide) _ _ _ rfl (hro.alloc _) ⟨V.heap.size, 0, none⟩ 1 1 [.int .i64 k, .int .i64 o] rfl rfl (cell_new2 _ _ _ _) (by intro u hu; simp at hu; rcases hu with rfl | rfl <;> rfl) (by unfold maxLen; omega) (by omega) (by simp; omega) ?_; intro v' w2 hown' hgrow _; obtain ⟨g', cap', rfl⟩ := ownsRow_succ hown'; obtain ⟨hv1, hv2, _, hk2, hb2⟩ := hu.appended (by decide) (own_lower hro (b' := w.heap.size) (by omega)) (by omega) (Nat.le_refl _) (own_lower hown' (b' := w.heap.size) (by omega)) hgrow; have hr2 := hown'.kept (grownBy_setCell' w2 w.heap.size (.slice (some ⟨g', 0, none⟩) (pre.length + 1) cap')) (.inr (hv1.not_row (by decide) hown').symm); have kk := kpt_append (T := TZ) (Bs := w.heap.size + 1) (by omega) hu (by omega) rfl rfl (by decide) hro (fun g hg => by have := (row_type hro g hg).1; omega) hgrow (v' := .slice (some ⟨g', 0, none⟩) (pre.length + 1) cap'); have hcv := hv1.cell; have hfv := hv1.frozen)
      refine ⟨hk2.from _, kk, ⟨⟨_, hv2, ?_, trivial⟩, hBV.trans hb2⟩⟩
      rw [List.map_append, List.map_singleton, rowP_snoc, List.length_append]; exact hr2
    | true =>
      gi_wp2_with (gi_at_builtin; refine wpListIn_append_own _ rfl _ _ 26 rfl (w.heap.size + 2) 55 i0 (.agg #[.int .i64 0, .int .i64 0]) 2 16 Try.underlying26 hi hz0 hz1 hz2 rfl (by decide) _ _ _ rfl (hro.alloc _) ⟨V.heap.size, 0, none⟩ 1 1 [.int .i64 k, .int .i64 nw] rfl rfl (cell_new2 _ _ _ _) (by intro u hu; simp at hu; rcases hu with rfl | rfl <;> rfl) (by unfold maxLen; omega) (by omega) (by simp; omega) ?_; intro v' w2 hown' hgrow _; obtain ⟨g', cap', rfl⟩ := ownsRow_succ hown'; obtain ⟨hv1, hv2, _, hk2, hb2⟩ := hu.appended (by decide) (own_lower hro (b' := w.heap.size) (by omega)) (by omega) (Nat.le_refl _) (own_lower hown' (b' := w.heap.size) (by omega)) hgrow; have hr2 := hown'.kept (grownBy_setCell' w2 w.heap.size (.slice (some ⟨g', 0, none⟩) (pre.length + 1) cap')) (.inr (hv1.not_row (by decide) hown').symm); have kk := kpt_append (T := TZ) (Bs := w.heap.size + 1) (by omega) hu (by omega) rfl rfl (by decide) hro (fun g hg => by have := (row_type hro g hg).1; omega) hgrow (v' := .slice (some ⟨g', 0, none⟩) (pre.length + 1) cap'); have hcv := hv1.cell; have hfv := hv1.frozen)
      refine ⟨hk2.from _, kk, ⟨⟨_, hv2, ?_, trivial⟩, hBV.trans hb2⟩⟩
      rw [List.map_append, List.map_singleton, rowP_snoc, List.length_append]; exact hr2
  case done =>
    rintro D xs W hD rfl ⟨⟨v, hv, hrow, _⟩, hB⟩ hK
    simp only [World.size_alloc] at hD
    have hc := hv.cell
    gi_wp2
    refine ⟨by simp, .inl ⟨_, _, rfl, run_takeDeferred hK, ?_⟩⟩
    refine ⟨v, by simp [results, Try.results56, go_sem], v, rfl, ownsRow_putObj (own_lower hrow (by omega)) _ hK rfl, hB.trans (belowK_b (w := w) (Nat.le_refl _) W D _ _ (by omega) hK rfl rfl)⟩
  case stop =>
    rintro D c pre W _ _ h _
    exact h.elim
theorem merge_any (A B : Option Addr) (ca cb : Nat) (la lb : List Pr) (hla : la.length ≤ 1000) (hlb : lb.length ≤ 1000) (hca : la.length ≤ ca ∧ ca ≤ maxLen) (hcb : lb.length ≤ cb ∧ cb ≤ maxLen) (w : World) (hPa : PrAt w A la) (hPb : PrAt w B lb) :
    Calls Try.prog 56 #[.slice A la.length ca, .slice B lb.length cb] w (MergeRet la lb w) := callsIn_wide.1 (merge_in A B ca cb la lb hla hlb hca hcb w hPa hPb)
end Go.Proofs.Ytbkpokipibgdfaa

/- Layer 7: Diff. -/
namespace Go.Proofs.Ytbkpokipibgdfaa
open Go.RowKit Go.Shelf Go.Lib

attribute [local go_sem] Oper.semAt_some

/-- Changes as cells; which of them Diff keeps. -/
def rowC (l : List Ch) : List Value := l.flatMap fun x => [.int .i64 x.1, .int .i64 x.2.1, .int .i64 x.2.2.1, .bool x.2.2.2.1, .bool x.2.2.2.2]
theorem rowC_snoc (l : List Ch) (x : Ch) : rowC (l ++ [x]) = rowC l ++ [.int .i64 x.1, .int .i64 x.2.1, .int .i64 x.2.2.1, .bool x.2.2.2.1, .bool x.2.2.2.2] := by simp [rowC]
def dif (x : Ch) : Bool := x.2.2.2.1 != x.2.2.2.2 || x.2.1 != x.2.2.1
theorem dif_yes (l : List Ch) (x : Ch) (h : dif x = true) : (l ++ [x]).filter dif = l.filter dif ++ [x] := by rw [List.filter_append]; simp [h]
theorem dif_no (l : List Ch) (x : Ch) (h : dif x = false) : (l ++ [x]).filter dif = l.filter dif := by rw [List.filter_append]; simp [h]
theorem info64 : (Try.prog.info? 113).map (fun i => (i.zero, i.size, i.bytes)) = some (some (.agg #[.int .i64 0, .int .i64 0, .int .i64 0, .bool false, .bool false]), 5, 32) := by kernel_rfl
theorem cell_new5 (w : World) (a b c d e : Value) (t : TypeId) : ∀ j u, [a, b, c, d, e][j]? = some u → (w.alloc (.cells #[a, b, c, d, e] t)).cell? ((⟨w.heap.size, 0, none⟩ : Addr).add j) = some u := by
  intro j u hj
  match j, hj with
  | 0, hj => simp at hj; subst hj; simp [Addr.add]
  | 1, hj => simp at hj; subst hj; simp [Addr.add]
  | 2, hj => simp at hj; subst hj; simp [Addr.add]
  | 3, hj => simp at hj; subst hj; simp [Addr.add]
  | 4, hj => simp at hj; subst hj; simp [Addr.add]
/-- What Diff hands back. -/
def DiffRet (la lb : List Pr) (w : World) (e : Ending) (w' : World) : Prop :=
  ∃ v, e = .returned v ∧ w'.ownsRow w.heap.size 113 5 v ((pairs la lb).filter dif).length (rowC ((pairs la lb).filter dif)) ∧ Below w.heap.size w w'

set_option maxRecDepth 100000 in
set_option maxHeartbeats 4000000 in
theorem diff_in (A B : Option Addr) (ca cb : Nat) (la lb : List Pr) (hla : la.length ≤ 1000) (hlb : lb.length ≤ 1000) (hca : la.length ≤ ca ∧ ca ≤ maxLen) (hcb : lb.length ≤ cb ∧ cb ≤ maxLen) (w : World) (hPa : PrAt w A la) (hPb : PrAt w B lb) :
    CallsIn Fence.wide 6 Try.prog 81 #[.slice A la.length ca, .slice B lb.length cb] w (DiffRet la lb w) := by
  obtain ⟨i0, hi, hz0, hz1, hz2⟩ := info_parts info64
  have hpl := pairs_len la lb
  have cP := fun na ca nb cb w' => pairsF_any A B na ca nb cb w'
  refine callsIn_of_wp_marks Try.func81 rfl trivial ?_ rfl
  simp only [Try.ntmps81, List.size_toArray, List.length_cons, List.length_nil, Nat.reduceAdd, Nat.reduceSub, Array.replicate_succ, Array.replicate_zero, List.push_toArray, List.append_toArray, List.nil_append, List.cons_append]
  gi_wp2_with (refine ⟨trivial, ?_⟩; gi_at_call 78; refine (callsIn_wide.2 (cP _ _ _ _ _)).mono ?_; rintro e w2 ⟨rfl, rfl⟩)
  have hB0 : Below w.heap.size w (((w.alloc (.cells #[.slice none 0 0] 114)).alloc (.cells #[.slice A la.length ca] 26)).alloc (.cells #[.slice B lb.length cb] 26)) := (((Below.refl _ w).alloc (Nat.le_refl _) _).alloc (by simp) _).alloc (by simp; omega) _
  have bN := ((Boxed.new w 114 (.slice none 0 0)).alloc (.cells #[.slice A la.length ca] 26)).alloc (.cells #[.slice B lb.length cb] 26)
  have bA := (Boxed.new (w.alloc (.cells #[.slice none 0 0] 114)) 26 (.slice A la.length ca)).alloc (.cells #[.slice B lb.length cb] 26)
  have bB := Boxed.new ((w.alloc (.cells #[.slice none 0 0] 114)).alloc (.cells #[.slice A la.length ca] 26)) 26 (.slice B lb.length cb)
  rw [World.size_alloc] at bA
  rw [World.size_alloc, World.size_alloc] at bB
  have hr0 : (((w.alloc (.cells #[.slice none 0 0] 114)).alloc (.cells #[.slice A la.length ca] 26)).alloc (.cells #[.slice B lb.length cb] 26)).ownsRow w.heap.size 113 5 (.slice none 0 0) 0 [] := World.ownsRow_nil _ _ _ _
  refine rangeG1 (T := TZ) (Bs := w.heap.size + 1) (G := fun W => Below w.heap.size w W) rfl (by decide) (gf := 93) (lb := #[.pointer (some ⟨w.heap.size + 1, 0, none⟩), .pointer (some ⟨w.heap.size + 1 + 1, 0, none⟩)]) rfl trivial (enters_of Try.func93 (by kernel_rfl) rfl)
    (by simp) (pairs_any 5 (by decide) (w.heap.size + 1) (w.heap.size + 1 + 1) A B ca cb la lb hla hlb hca hcb w.heap.size w _ (Nat.le_refl _) hPa hPb bA bB)
    (fun (pre : List Ch) W => (∃ v, Boxed W w.heap.size 114 v ∧ W.ownsRow (w.heap.size + 2) 113 5 v (pre.filter dif).length (rowC (pre.filter dif)) ∧ True) ∧ Below w.heap.size w W) (fun _ _ _ => False) (fun _ _ h => h.2)
    (OwnT.and (OwnT.row rfl rfl 5 (fun (pre : List Ch) => (pre.filter dif).length) (fun (pre : List Ch) => rowC (pre.filter dif)) (fun _ _ => True)) (OwnT.below (Nat.le_refl _) (by simp; omega))) (fun _ _ _ _ _ hs _ _ => hs)
    ⟨⟨_, bN, World.ownsRow_nil _ _ _ _, trivial⟩, hB0⟩ ?round ?done ?stop
  case round =>
    clear bN bA bB hB0 hr0 cP
    rintro l pre x W ⟨⟨v, hv, hrow, _⟩, hB⟩ hlt _ hl hlW
    have hW1 := hB.size
    simp only [World.size_alloc] at hl
    have hBs : w.heap.size + 1 < W.heap.size := by omega
    unfold chV
    obtain ⟨k, o, nw, had, has⟩ := x
    dsimp only
    gi_wp2
    refine ⟨(KeepsOthers.alloc _ _).from _, Kpt.alloc (by omega) _, ⟨⟨v, hv.alloc _, hrow.alloc _, trivial⟩, hB.alloc (by omega) _⟩, ?_⟩
    rintro V hg ⟨⟨u, hu, hro, _⟩, hBV⟩
    have hVs := hg.size
    simp only [World.size_alloc] at hVs
    have hc0 : V.cell? ⟨W.heap.size, 0, none⟩ = some (.int .i64 k) := hg.cell (by simp) (fun e => by simp at e; omega)
    have hc1 : V.cell? ⟨W.heap.size, 1, none⟩ = some (.int .i64 o) := hg.cell (by simp) (fun e => by simp at e; omega)
    have hc2 : V.cell? ⟨W.heap.size, 2, none⟩ = some (.int .i64 nw) := hg.cell (by simp) (fun e => by simp at e; omega)
    have hc4 : V.cell? ⟨W.heap.size, 4, none⟩ = some (.bool has) := hg.cell (by simp) (fun e => by simp at e; omega)
    have hc := hu.cell
    have hpl2 : (pre.filter dif).length ≤ 2000 := by have := List.length_filter_le dif pre; omega
    have hc3 : V.cell? ⟨W.heap.size, 3, none⟩ = some (.bool had) := hg.cell (by simp) (fun e => by simp at e; omega)
    clear hv hrow hB hg
    by_cases he : o = nw
    · subst he
      cases had with
      | false =>
        cases has with
        | false =>
          gi_wp2
          refine ⟨KeepsFrom.refl _ _, Kpt.refl _, ⟨u, hu, ?_, trivial⟩, hBV⟩
          rw [dif_no _ _ (by simp [dif])]; exact hro
        | true =>
          gi_wp2_with (gi_at_builtin; refine wpListIn_append_own _ rfl _ _ 114 rfl (w.heap.size + 2) 113 i0 (.agg #[.int .i64 0, .int .i64 0, .int .i64 0, .bool false, .bool false]) 5 32 Try.underlying114 hi hz0 hz1 hz2 rfl (by decide) _ _ _ rfl (hro.alloc _) ⟨V.heap.size, 0, none⟩ 1 1 [.int .i64 k, .int .i64 o, .int .i64 o, .bool false, .bool true] rfl rfl (cell_new5 _ _ _ _ _ _ _) (by intro u hu; simp at hu; rcases hu with rfl | rfl | rfl | rfl | rfl <;> rfl) (by unfold maxLen; omega) (by omega) (by simp; omega) ?_; intro v' w2 hown' hgrow _; obtain ⟨g', cap', rfl⟩ := ownsRow_succ hown'; obtain ⟨hv1, hv2, _, hk2, hb2⟩ := hu.appended (by decide) (own_lower hro (b' := w.heap.size) (by omega)) (by omega) (Nat.le_refl _) (own_lower hown' (b' := w.heap.size) (by omega)) hgrow; have hr2 := hown'.kept (grownBy_setCell' w2 w.heap.size (.slice (some ⟨g', 0, none⟩) ((pre.filter dif).length + 1) cap')) (.inr (hv1.not_row (by decide) hown').symm); have kk := kpt_append (T := TZ) (Bs := w.heap.size + 1) (by omega) hu (by omega) rfl rfl (by decide) hro (fun g hg => by have := (row_type hro g hg).1; omega) hgrow (v' := .slice (some ⟨g', 0, none⟩) ((pre.filter dif).length + 1) cap'); have hcv := hv1.cell; have hfv := hv1.frozen)
          refine ⟨hk2.from _, kk, ⟨⟨_, hv2, ?_, trivial⟩, hBV.trans hb2⟩⟩
          rw [dif_yes _ _ (by simp [dif]), rowC_snoc, List.length_append]; exact hr2
      | true =>
        cases has with
        | false =>
          gi_wp2_with (gi_at_builtin; refine wpListIn_append_own _ rfl _ _ 114 rfl (w.heap.size + 2) 113 i0 (.agg #[.int .i64 0, .int .i64 0, .int .i64 0, .bool false, .bool false]) 5 32 Try.underlying114 hi hz0 hz1 hz2 rfl (by decide) _ _ _ rfl (hro.alloc _) ⟨V.heap.size, 0, none⟩ 1 1 [.int .i64 k, .int .i64 o, .int .i64 o, .bool true, .bool false] rfl rfl (cell_new5 _ _ _ _ _ _ _) (by intro u hu; simp at hu; rcases hu with rfl | rfl | rfl | rfl | rfl <;> rfl) (by unfold maxLen; omega) (by omega) (by simp; omega) ?_; intro v' w2 hown' hgrow _; obtain ⟨g', cap', rfl⟩ := ownsRow_succ hown'; obtain ⟨hv1, hv2, _, hk2, hb2⟩ := hu.appended (by decide) (own_lower hro (b' := w.heap.size) (by omega)) (by omega) (Nat.le_refl _) (own_lower hown' (b' := w.heap.size) (by omega)) hgrow; have hr2 := hown'.kept (grownBy_setCell' w2 w.heap.size (.slice (some ⟨g', 0, none⟩) ((pre.filter dif).length + 1) cap')) (.inr (hv1.not_row (by decide) hown').symm); have kk := kpt_append (T := TZ) (Bs := w.heap.size + 1) (by omega) hu (by omega) rfl rfl (by decide) hro (fun g hg => by have := (row_type hro g hg).1; omega) hgrow (v' := .slice (some ⟨g', 0, none⟩) ((pre.filter dif).length + 1) cap'); have hcv := hv1.cell; have hfv := hv1.frozen)
          refine ⟨hk2.from _, kk, ⟨⟨_, hv2, ?_, trivial⟩, hBV.trans hb2⟩⟩
          rw [dif_yes _ _ (by simp [dif]), rowC_snoc, List.length_append]; exact hr2
        | true =>
          gi_wp2
          refine ⟨KeepsFrom.refl _ _, Kpt.refl _, ⟨u, hu, ?_, trivial⟩, hBV⟩
          rw [dif_no _ _ (by simp [dif])]; exact hro
    · have heb : (o == nw) = false := neB he
      cases had with
      | false =>
        cases has with
        | false =>
          gi_wp2_with (gi_at_builtin; refine wpListIn_append_own _ rfl _ _ 114 rfl (w.heap.size + 2) 113 i0 (.agg #[.int .i64 0, .int .i64 0, .int .i64 0, .bool false, .bool false]) 5 32 Try.underlying114 hi hz0 hz1 hz2 rfl (by decide) _ _ _ rfl (hro.alloc _) ⟨V.heap.size, 0, none⟩ 1 1 [.int .i64 k, .int .i64 o, .int .i64 nw, .bool false, .bool false] rfl rfl (cell_new5 _ _ _ _ _ _ _) (by intro u hu; simp at hu; rcases hu with rfl | rfl | rfl | rfl | rfl <;> rfl) (by unfold maxLen; omega) (by omega) (by simp; omega) ?_; intro v' w2 hown' hgrow _; obtain ⟨g', cap', rfl⟩ := ownsRow_succ hown'; obtain ⟨hv1, hv2, _, hk2, hb2⟩ := hu.appended (by decide) (own_lower hro (b' := w.heap.size) (by omega)) (by omega) (Nat.le_refl _) (own_lower hown' (b' := w.heap.size) (by omega)) hgrow; have hr2 := hown'.kept (grownBy_setCell' w2 w.heap.size (.slice (some ⟨g', 0, none⟩) ((pre.filter dif).length + 1) cap')) (.inr (hv1.not_row (by decide) hown').symm); have kk := kpt_append (T := TZ) (Bs := w.heap.size + 1) (by omega) hu (by omega) rfl rfl (by decide) hro (fun g hg => by have := (row_type hro g hg).1; omega) hgrow (v' := .slice (some ⟨g', 0, none⟩) ((pre.filter dif).length + 1) cap'); have hcv := hv1.cell; have hfv := hv1.frozen)
          refine ⟨hk2.from _, kk, ⟨⟨_, hv2, ?_, trivial⟩, hBV.trans hb2⟩⟩
          rw [dif_yes _ _ (by simp [dif, he]), rowC_snoc, List.length_append]; exact hr2
        | true =>
          gi_wp2_with (gi_at_builtin; refine wpListIn_append_own _ rfl _ _ 114 rfl (w.heap.size + 2) 113 i0 (.agg #[.int .i64 0, .int .i64 0, .int .i64 0, .bool false, .bool false]) 5 32 Try.underlying114 hi hz0 hz1 hz2 rfl (by decide) _ _ _ rfl (hro.alloc _) ⟨V.heap.size, 0, none⟩ 1 1 [.int .i64 k, .int .i64 o, .int .i64 nw, .bool false, .bool true] rfl rfl (cell_new5 _ _ _ _ _ _ _) (by intro u hu; simp at hu; rcases hu with rfl | rfl | rfl | rfl | rfl <;> rfl) (by unfold maxLen; omega) (by omega) (by simp; omega) ?_; intro v' w2 hown' hgrow _; obtain ⟨g', cap', rfl⟩ := ownsRow_succ hown'; obtain ⟨hv1, hv2, _, hk2, hb2⟩ := hu.appended (by decide) (own_lower hro (b' := w.heap.size) (by omega)) (by omega) (Nat.le_refl _) (own_lower hown' (b' := w.heap.size) (by omega)) hgrow; have hr2 := hown'.kept (grownBy_setCell' w2 w.heap.size (.slice (some ⟨g', 0, none⟩) ((pre.filter dif).length + 1) cap')) (.inr (hv1.not_row (by decide) hown').symm); have kk := kpt_append (T := TZ) (Bs := w.heap.size + 1) (by omega) hu (by omega) rfl rfl (by decide) hro (fun g hg => by have := (row_type hro g hg).1; omega) hgrow (v' := .slice (some ⟨g', 0, none⟩) ((pre.filter dif).length + 1) cap'); have hcv := hv1.cell; have hfv := hv1.frozen)
          refine ⟨hk2.from _, kk, ⟨⟨_, hv2, ?_, trivial⟩, hBV.trans hb2⟩⟩
          rw [dif_yes _ _ (by simp [dif]), rowC_snoc, List.length_append]; exact hr2
      | true =>
        cases has with
        | false =>
          gi_wp2_with (gi_at_builtin; refine wpListIn_append_own _ rfl _ _ 114 rfl (w.heap.size + 2) 113 i0 (.agg #[.int .i64 0, .int .i64 0, .int .i64 0, .bool false, .bool false]) 5 32 Try.underlying114 hi hz0 hz1 hz2 rfl (by decide) _ _ _ rfl (hro.alloc _) ⟨V.heap.size, 0, none⟩ 1 1 [.int .i64 k, .int .i64 o, .int .i64 nw, .bool true, .bool false] rfl rfl (cell_new5 _ _ _ _ _ _ _) (by intro u hu; simp at hu; rcases hu with rfl | rfl | rfl | rfl | rfl <;> rfl) (by unfold maxLen; omega) (by omega) (by simp; omega) ?_; intro v' w2 hown' hgrow _; obtain ⟨g', cap', rfl⟩ := ownsRow_succ hown'; obtain ⟨hv1, hv2, _, hk2, hb2⟩ := hu.appended (by decide) (own_lower hro (b' := w.heap.size) (by omega)) (by omega) (Nat.le_refl _) (own_lower hown' (b' := w.heap.size) (by omega)) hgrow; have hr2 := hown'.kept (grownBy_setCell' w2 w.heap.size (.slice (some ⟨g', 0, none⟩) ((pre.filter dif).length + 1) cap')) (.inr (hv1.not_row (by decide) hown').symm); have kk := kpt_append (T := TZ) (Bs := w.heap.size + 1) (by omega) hu (by omega) rfl rfl (by decide) hro (fun g hg => by have := (row_type hro g hg).1; omega) hgrow (v' := .slice (some ⟨g', 0, none⟩) ((pre.filter dif).length + 1) cap'); have hcv := hv1.cell; have hfv := hv1.frozen)
          refine ⟨hk2.from _, kk, ⟨⟨_, hv2, ?_, trivial⟩, hBV.trans hb2⟩⟩
          rw [dif_yes _ _ (by simp [dif]), rowC_snoc, List.length_append]; exact hr2
        | true =>
          gi_wp2_with (gi_at_builtin; refine wpListIn_append_own _ rfl _ _ 114 rfl (w.heap.size + 2) 113 i0 (.agg #[.int .i64 0, .int .i64 0, .int .i64 0, .bool false, .bool false]) 5 32 Try.underlying114 hi hz0 hz1 hz2 rfl (by decide) _ _ _ rfl (hro.alloc _) ⟨V.heap.size, 0, none⟩ 1 1 [.int .i64 k, .int .i64 o, .int .i64 nw, .bool true, .bool true] rfl rfl (cell_new5 _ _ _ _ _ _ _) (by intro u hu; simp at hu; rcases hu with rfl | rfl | rfl | rfl | rfl <;> rfl) (by unfold maxLen; omega) (by omega) (by simp; omega) ?_; intro v' w2 hown' hgrow _; obtain ⟨g', cap', rfl⟩ := ownsRow_succ hown'; obtain ⟨hv1, hv2, _, hk2, hb2⟩ := hu.appended (by decide) (own_lower hro (b' := w.heap.size) (by omega)) (by omega) (Nat.le_refl _) (own_lower hown' (b' := w.heap.size) (by omega)) hgrow; have hr2 := hown'.kept (grownBy_setCell' w2 w.heap.size (.slice (some ⟨g', 0, none⟩) ((pre.filter dif).length + 1) cap')) (.inr (hv1.not_row (by decide) hown').symm); have kk := kpt_append (T := TZ) (Bs := w.heap.size + 1) (by omega) hu (by omega) rfl rfl (by decide) hro (fun g hg => by have := (row_type hro g hg).1; omega) hgrow (v' := .slice (some ⟨g', 0, none⟩) ((pre.filter dif).length + 1) cap'); have hcv := hv1.cell; have hfv := hv1.frozen)
          refine ⟨hk2.from _, kk, ⟨⟨_, hv2, ?_, trivial⟩, hBV.trans hb2⟩⟩
          rw [dif_yes _ _ (by simp [dif, he]), rowC_snoc, List.length_append]; exact hr2
  case done =>
    rintro D xs W hD rfl ⟨⟨v, hv, hrow, _⟩, hB⟩ hK
    simp only [World.size_alloc] at hD
    have hc := hv.cell
    gi_wp2
    refine ⟨by simp, .inl ⟨_, _, rfl, run_takeDeferred hK, ?_⟩⟩
    refine ⟨v, by simp [results, Try.results81, go_sem], v, rfl, ownsRow_putObj (own_lower hrow (by omega)) _ hK rfl, hB.trans (belowK_b (w := w) (Nat.le_refl _) W D _ _ (by omega) hK rfl rfl)⟩
  case stop =>
    rintro D c pre W _ _ h _
    exact h.elim
theorem diff_any (A B : Option Addr) (ca cb : Nat) (la lb : List Pr) (hla : la.length ≤ 1000) (hlb : lb.length ≤ 1000) (hca : la.length ≤ ca ∧ ca ≤ maxLen) (hcb : lb.length ≤ cb ∧ cb ≤ maxLen) (w : World) (hPa : PrAt w A la) (hPb : PrAt w B lb) :
    Calls Try.prog 81 #[.slice A la.length ca, .slice B lb.length cb] w (DiffRet la lb w) := callsIn_wide.1 (diff_in A B ca cb la lb hla hlb hca hcb w hPa hPb)
end Go.Proofs.Ytbkpokipibgdfaa

/- Layer 7: the table of keys; comparing. -/
namespace Go.Proofs.Ytbkpokipibgdfaa
open Go.RowKit Go.Lib

set_option maxRecDepth 100000 in
theorem nan_any (x : Int) (w : World) : Calls Try.prog 102 #[.int .i64 x] w fun e w' => e = .returned (.bool false) ∧ w = w' := by
  go_enter Try.func102, Try.ntmps102
  go_wp2
  go_ret
  exact ⟨by simp, rfl⟩
def cmpI (x y : Int) : Int := if x < y then -1 else if y < x then 1 else 0
set_option maxRecDepth 100000 in
theorem cmp_any (x y : Int) (w : World) : Calls Try.prog 98 #[.int .i64 x, .int .i64 y] w fun e w' => e = .returned (.int .i64 (cmpI x y)) ∧ w = w' := by
  unfold cmpI
  by_cases h1 : x < y
  · rw [if_pos h1]
    go_enter Try.func98, Try.ntmps98
    go_wp2_with (go_at_call 102; refine (nan_any _ _).mono ?_; rintro e w' ⟨rfl, rfl⟩)
    go_ret
    exact ⟨rfl, rfl⟩
  · rw [if_neg h1]
    by_cases h2 : y < x
    · rw [if_pos h2]
      go_enter Try.func98, Try.ntmps98
      go_wp2_with (go_at_call 102; refine (nan_any _ _).mono ?_; rintro e w' ⟨rfl, rfl⟩)
      go_ret
      exact ⟨rfl, rfl⟩
    · rw [if_neg h2]
      go_enter Try.func98, Try.ntmps98
      go_wp2_with (go_at_call 102; refine (nan_any _ _).mono ?_; rintro e w' ⟨rfl, rfl⟩)
      go_ret
      exact ⟨rfl, rfl⟩
theorem elem_any (x : Int) (w : World) : Calls Try.prog 70 #[.int .i64 x] w fun e w' => e = .returned (.bool (decide (1 ≤ x) && decide (x ≤ 10))) ∧ w = w' := by
  by_cases h1 : 1 ≤ x
  · by_cases h2 : x ≤ 10
    · go_enter Try.func70, Try.ntmps70
      go_wp2
      go_ret
      exact ⟨by simp [h1, h2], rfl⟩
    · go_enter Try.func70, Try.ntmps70
      go_wp2
      go_ret
      exact ⟨by simp [h2], rfl⟩
  · go_enter Try.func70, Try.ntmps70
    go_wp2
    go_ret
    exact ⟨by simp; omega, rfl⟩
end Go.Proofs.Ytbkpokipibgdfaa

/- Layer 7: the table of keys. -/
namespace Go.Proofs.Ytbkpokipibgdfaa
open Go.RowKit Go.Lib

abbrev Row := Int × ByteArray × Int × Int × Int × Int
/-- The rows: key, name, group, least, greatest, preset value. -/
def tabP : List Row := [
  (1, ⟨#[99, 104, 97, 114, 97, 99, 116, 101, 114, 45, 115, 116, 121, 108, 101]⟩, 1, 0, 1073741824, 0),
  (2, ⟨#[98, 111, 108, 100]⟩, 1, 0, 1, 0),
  (3, ⟨#[105, 116, 97, 108, 105, 99]⟩, 1, 0, 1, 0),
  (4, ⟨#[117, 110, 100, 101, 114, 108, 105, 110, 101]⟩, 1, 0, 3, 0),
  (5, ⟨#[115, 105, 122, 101]⟩, 1, 2, 1638, 22),
  (6, ⟨#[99, 111, 108, 111, 114]⟩, 1, 0, 16777215, 0),
  (7, ⟨#[102, 111, 110, 116]⟩, 1, 0, 63, 0),
  (8, ⟨#[108, 97, 110, 103, 117, 97, 103, 101]⟩, 1, 0, 255, 0),
  (9, ⟨#[114, 97, 105, 115, 101]⟩, 1, -400, 400, 0),
  (10, ⟨#[104, 105, 100, 100, 101, 110]⟩, 1, 0, 1, 0),
  (20, ⟨#[112, 97, 114, 97, 103, 114, 97, 112, 104, 45, 115, 116, 121, 108, 101]⟩, 2, 0, 1073741824, 0),
  (21, ⟨#[97, 108, 105, 103, 110]⟩, 2, 0, 3, 0),
  (22, ⟨#[108, 101, 102, 116]⟩, 2, -31680, 31680, 0),
  (23, ⟨#[114, 105, 103, 104, 116]⟩, 2, -31680, 31680, 0),
  (24, ⟨#[102, 105, 114, 115, 116]⟩, 2, -31680, 31680, 0),
  (25, ⟨#[98, 101, 102, 111, 114, 101]⟩, 2, 0, 31680, 0),
  (26, ⟨#[97, 102, 116, 101, 114]⟩, 2, 0, 31680, 0),
  (27, ⟨#[108, 101, 97, 100, 105, 110, 103]⟩, 2, 0, 31680, 0),
  (28, ⟨#[107, 101, 101, 112, 45, 110, 101, 120, 116]⟩, 2, 0, 1, 0),
  (29, ⟨#[107, 101, 101, 112, 45, 108, 105, 110, 101, 115]⟩, 2, 0, 1, 0),
  (30, ⟨#[119, 105, 100, 111, 119]⟩, 2, 0, 1, 1),
  (31, ⟨#[112, 97, 103, 101, 45, 98, 101, 102, 111, 114, 101]⟩, 2, 0, 1, 0),
  (32, ⟨#[111, 117, 116, 108, 105, 110, 101]⟩, 2, 0, 9, 0),
  (33, ⟨#[108, 105, 115, 116]⟩, 2, 0, 1073741824, 0),
  (34, ⟨#[108, 101, 118, 101, 108]⟩, 2, 1, 9, 1),
  (35, ⟨#[114, 101, 115, 116, 97, 114, 116]⟩, 2, 0, 32767, 0),
  (36, ⟨#[116, 97, 98, 45, 115, 116, 111, 112]⟩, 2, 1, 31680, 720),
  (37, ⟨#[104, 121, 112, 104, 101, 110, 97, 116, 101]⟩, 2, 0, 1, 0),
  (40, ⟨#[112, 97, 103, 101, 45, 119, 105, 100, 116, 104]⟩, 3, 720, 31680, 12240),
  (41, ⟨#[112, 97, 103, 101, 45, 104, 101, 105, 103, 104, 116]⟩, 3, 720, 31680, 15840),
  (42, ⟨#[116, 111, 112]⟩, 3, 0, 31680, 1440),
  (43, ⟨#[98, 111, 116, 116, 111, 109]⟩, 3, 0, 31680, 1440),
  (44, ⟨#[105, 110, 110, 101, 114]⟩, 3, 0, 31680, 1440),
  (45, ⟨#[111, 117, 116, 101, 114]⟩, 3, 0, 31680, 1440),
  (46, ⟨#[102, 105, 114, 115, 116, 45, 112, 97, 103, 101]⟩, 3, 0, 32767, 0),
  (47, ⟨#[112, 97, 103, 101, 45, 102, 111, 114, 109, 97, 116]⟩, 3, 1, 6, 1),
  (50, ⟨#[104, 101, 97, 100, 101, 114]⟩, 4, 0, 1, 0),
  (51, ⟨#[99, 97, 110, 116, 45, 115, 112, 108, 105, 116]⟩, 4, 0, 1, 0),
  (52, ⟨#[114, 111, 119, 45, 104, 101, 105, 103, 104, 116]⟩, 4, 0, 31680, 0),
  (60, ⟨#[99, 111, 108, 117, 109, 110, 45, 115, 112, 97, 110]⟩, 5, 1, 32, 1),
  (61, ⟨#[118, 101, 114, 116, 105, 99, 97, 108, 45, 109, 101, 114, 103, 101]⟩, 5, 0, 2, 0),
  (62, ⟨#[99, 101, 108, 108, 45, 119, 105, 100, 116, 104]⟩, 5, 0, 31680, 0),
  (63, ⟨#[115, 104, 97, 100, 101]⟩, 5, 0, 16777215, 16777215),
  (70, ⟨#[116, 97, 98, 108, 101, 45, 119, 105, 100, 116, 104]⟩, 6, 0, 31680, 0),
  (71, ⟨#[116, 97, 98, 108, 101, 45, 97, 108, 105, 103, 110]⟩, 6, 0, 2, 0)]
def rowC6 (r : Row) : List Value := [.int .i64 r.1, .string r.2.1, .int .i64 r.2.2.1, .int .i64 r.2.2.2.1, .int .i64 r.2.2.2.2.1, .int .i64 r.2.2.2.2.2]
def rowV (r : Row) : Value := .agg (rowC6 r).toArray
def cellsT : Array Value := (tabP.flatMap rowC6).toArray
theorem built70 (k : Int) (nm : ByteArray) (g lo hi d : Int) : Program.built Try.prog 118 [(0, .int .i64 k), (1, .string nm), (2, .int .i64 g), (3, .int .i64 lo), (4, .int .i64 hi), (5, .int .i64 d)] = some (rowC6 (k, nm, g, lo, hi, d)).toArray := by kernel_rfl
def mkRow (pos : String) (x : Nat × Row) : Oper :=
  { dst := some x.1, op := .build 118 #[(0, .const (.int .i64 x.2.1)), (1, .const (.string x.2.2.1)), (2, .const (.int .i64 x.2.2.2.1)), (3, .const (.int .i64 x.2.2.2.2.1)), (4, .const (.int .i64 x.2.2.2.2.2.1)), (5, .const (.int .i64 x.2.2.2.2.2.2))], type := 118, pos := pos, after := #[], guard := none }
def putAll (a : Act) (l : List (Nat × Row)) : Act := l.foldl (fun a x => a.put (some x.1) (rowV x.2)) a
theorem wpList_rows {ops : Array Oper} {Q : Exit → Act → World → Prop} {rest : List Oper} {w : World} (pos : String)
    (l : List (Nat × Row)) (a : Act) (h : wpList Try.prog ops Q rest (putAll a l) w) : wpList Try.prog ops Q (l.map (mkRow pos) ++ rest) a w := by
  induction l generalizing a with
  | nil => exact h
  | cons x l ih =>
    obtain ⟨i, k, nm, g, lo, hi, d⟩ := x
    have e := built70 k nm g lo hi d
    refine wpList_build rfl 118 _ rfl (by simpa [Act.eval] using congrArg Option.isSome e) ?_
    have e' : (Program.built Try.prog 118 ((#[(0, Operand.const (.int .i64 k)), (1, .const (.string nm)), (2, .const (.int .i64 g)), (3, .const (.int .i64 lo)), (4, .const (.int .i64 hi)), (5, .const (.int .i64 d))] : Array (Nat × Operand)).map fun (i, x) => (i, a.eval x)).toList).getD #[] = (rowC6 (k, nm, g, lo, hi, d)).toArray := by
      simpa [Act.eval] using congrArg (·.getD #[]) e
    rw [e']
    exact ih _ h
theorem putAll_defers (a : Act) (l : List (Nat × Row)) : (putAll a l).defers = a.defers := by
  unfold putAll
  induction l generalizing a with
  | nil => rfl
  | cons x l ih => rw [List.foldl_cons, ih]; rfl
theorem putAll_size (a : Act) (l : List (Nat × Row)) : (putAll a l).tmps.size = a.tmps.size := by
  unfold putAll
  induction l generalizing a with
  | nil => rfl
  | cons x l ih => rw [List.foldl_cons, ih]; simp [Act.put]
theorem putAll_get (l : List Row) (i0 : Nat) (a : Act) (h : i0 + l.length ≤ a.tmps.size) (k : Nat) :
    (putAll a ((l.zipIdx i0).map fun x => (x.2, x.1))).tmps[k]? = if i0 ≤ k ∧ k < i0 + l.length then (l[k - i0]?).map rowV else a.tmps[k]? := by
  induction l generalizing i0 a with
  | nil =>
    rw [if_neg (by simp only [List.length_nil]; omega)]; rfl
  | cons s l ih =>
    have hl : (s :: l).length = l.length + 1 := rfl
    have e : putAll a (((s :: l).zipIdx i0).map fun x => (x.2, x.1)) = putAll (a.put (some i0) (rowV s)) ((l.zipIdx (i0 + 1)).map fun x => (x.2, x.1)) := rfl
    have hsz : (a.put (some i0) (rowV s)).tmps.size = a.tmps.size := by simp [Act.put]
    rw [e, ih (i0 + 1) _ (by rw [hsz]; omega)]
    by_cases h1 : k = i0
    · subst h1
      rw [if_neg (by omega), if_pos (by omega), Nat.sub_self]
      simp [Act.put, Array.getElem?_setIfInBounds]
      omega
    · by_cases h2 : i0 + 1 ≤ k ∧ k < i0 + 1 + l.length
      · rw [if_pos h2, if_pos (by omega)]
        have e2 : k - i0 = (k - (i0 + 1)) + 1 := by omega
        rw [e2, List.getElem?_cons_succ]
      · rw [if_neg h2, if_neg (by omega)]
        simp [Act.put, Ne.symm h1]
noncomputable def opsT : List Oper := match Try.f95.body with
  | some (.seq _ (.seq (.region _ o _) _)) => o.toList
  | _ => []
def slotsT : List (Nat × Row) := (tabP.zipIdx 1).map fun x => (x.2, x.1)
noncomputable def lastT : Oper := (opsT.drop 45).headD { dst := none, op := .assign (.const undef), type := 0, pos := "", after := #[], guard := none }
noncomputable def endT : Oper := (opsT.drop 46).headD { dst := none, op := .assign (.const undef), type := 0, pos := "", after := #[], guard := none }
set_option maxRecDepth 1000000 in
theorem opsT_eq : opsT = slotsT.map (mkRow "table.go:33") ++ [lastT, endT] := by kernel_rfl
noncomputable def partsT : Array (Nat × Operand) := match lastT.op with
  | .build _ p => p
  | _ => #[]
set_option maxRecDepth 1000000 in
theorem lastT_op : lastT.op = .build 126 partsT := by kernel_rfl
theorem lastT_guard : lastT.guard = none := by kernel_rfl
theorem lastT_dst : lastT.dst = some 46 := by kernel_rfl
theorem endT_op : endT.op = .store 126 (.tmp 0) (.tmp 46) := by kernel_rfl
theorem endT_guard : endT.guard = none := by kernel_rfl
theorem endT_dst : endT.dst = none := by kernel_rfl
set_option maxRecDepth 1000000 in
theorem partsT_eq : partsT.toList = (List.range 45).map fun i => (i, Operand.tmp (i + 1)) := by kernel_rfl
set_option maxRecDepth 1000000 in
theorem builtT : Program.built Try.prog 126 (((tabP.map rowV).zipIdx 0).map fun x => (x.2, x.1)) = some cellsT := by kernel_rfl
set_option maxRecDepth 1000000 in
theorem sizeT : (Try.prog.info? 126).map (·.size) = some 270 := by kernel_rfl
set_option maxRecDepth 1000000 in
theorem cellsT_size : cellsT.size = 270 := by kernel_rfl
set_option maxRecDepth 1000000 in
theorem cellsT_one : cellsT.all (·.oneCell') = true := by kernel_rfl
theorem parts_rows (a : Act) (l : List Row) (parts : Array (Nat × Operand)) (n : Nat) (hn : l.length = n) (hp : parts.toList = (List.range n).map fun i => (i, Operand.tmp (i + 1)))
    (ha : ∀ k (h : k < l.length), a.tmps[k + 1]? = some (rowV l[k])) : (parts.map fun (i, x) => (i, a.eval x)).toList = ((l.map rowV).zipIdx 0).map fun x => (x.2, x.1) := by
  rw [Array.toList_map, hp]
  apply List.ext_getElem
  · simp [hn]
  · intro k h1 h2
    have hk : k < l.length := by simpa using h2
    have e := ha k hk
    simp only [List.getElem_map, List.getElem_range, List.getElem_zipIdx, Nat.zero_add]
    have : a.eval (Operand.tmp (k + 1)) = rowV l[k] := by
      simp [Act.eval, e]
    rw [this]

set_option maxRecDepth 1000000 in
set_option maxHeartbeats 4000000 in
theorem table_any (w : World) : Calls Try.prog 95 #[] w fun e w' => e = .returned (.agg cellsT) ∧ Below w.heap.size w w' := by
  go_enter Try.func95, Try.ntmps95
  go_upto_region 1 with (fail)
  refine wp_region_list ?_
  change wpList Try.prog _ _ opsT _ _
  rw [opsT_eq]
  refine wpList_rows "table.go:33" slotsT _ ?_
  have hsz : ∀ a : Act, (putAll a slotsT).tmps.size = a.tmps.size := fun a => putAll_size a slotsT
  have e0 : ∀ a : Act, a.tmps.size = 47 → (putAll a slotsT).tmps[0]? = a.tmps[0]? := fun a ha => by
    unfold slotsT
    rw [putAll_get tabP 1 a (by rw [ha]; show 1 + 45 ≤ 47; omega) 0, if_neg (by omega)]
  have h0 : ∀ (a : Act) (v : Value), a.tmps.size = 47 → ((putAll a slotsT).put (some 46) v).eval (.tmp 0) = a.tmps[0]?.getD undef := fun a v ha => by
    have h1 := e0 a ha
    simp [Act.eval, Act.put, h1]
  have h46 : ∀ (a : Act) (v : Value), a.tmps.size = 47 → ((putAll a slotsT).put (some 46) v).eval (.tmp 46) = v := fun a v ha => by
    have h1 := hsz a
    simp [Act.eval, Act.put, h1, ha]
  have hn0 : ∀ (a : Act) (v u : Value), a.tmps.size = 47 → (((putAll a slotsT).put (some 46) v).put none u).tmps.getD 0 undef = a.tmps[0]?.getD undef := fun a v u ha => by
    have h1 := e0 a ha
    simp [Act.put, h1]
  have hdf : ∀ (a : Act) (v u : Value), ((a.put (some 46) v).put none u).defers = a.defers := fun _ _ _ => rfl
  refine wpList_build lastT_guard 126 partsT lastT_op ?_ ?_
  · rw [parts_rows _ tabP partsT 45 rfl partsT_eq (fun k hk => ?_), builtT]; rfl
    have hk' : k < 45 := hk
    unfold slotsT
    rw [putAll_get tabP 1 _ (by show 1 + 45 ≤ 47; omega) (k + 1), if_pos ⟨by omega, by show k + 1 < 1 + 45; omega⟩, Nat.add_sub_cancel, List.getElem?_eq_getElem hk]
    rfl
  · rw [parts_rows _ tabP partsT 45 rfl partsT_eq (fun k hk => ?_), builtT]
    · rw [lastT_dst]
      refine wpList_store_row endT_guard 126 (.tmp 0) (.tmp 46) endT_op w.heap.size cellsT ?_ ?_ 126 _ (heap_alloc_last w _) (by rw [sizeT, cellsT_size]) ?_ cellsT_one (wpList_nil ?_)
      · rw [h0 _ _ (by rfl)]; rfl
      · rw [h46 _ _ (by rfl)]; rfl
      · rw [cellsT_size]; kernel_rfl
      · rename_i Q' K hK
        rw [World.setRow_alloc_new]
        refine hK _ _ (wp_ret (bodyPost_ret (v := .agg cellsT) ?_ ?_ ⟨rfl, (Below.refl _ w).alloc (Nat.le_refl _) _⟩))
        · rw [endT_dst]
          refine results_cell_row Try.results95 _ _ w.heap.size 126 cellsT (0, 0) _ ?_ (heap_alloc_last w _) Try.underlying126 rfl (by rw [sizeT, cellsT_size])
          rw [hn0 _ _ _ (by rfl)]; rfl
        · rw [endT_dst, hdf, putAll_defers]
    · have hk' : k < 45 := hk
      unfold slotsT
      rw [putAll_get tabP 1 _ (by show 1 + 45 ≤ 47; omega) (k + 1), if_pos ⟨by omega, by show k + 1 < 1 + 45; omega⟩, Nat.add_sub_cancel, List.getElem?_eq_getElem hk]
      rfl
end Go.Proofs.Ytbkpokipibgdfaa

/- Layer 7: the search over the rows of the table. -/
namespace Go.Proofs.Ytbkpokipibgdfaa
open Go.RowKit Go.Lib

theorem cmpI_neg (x y : Int) : cmpI x y < 0 ↔ x < y := by
  unfold cmpI
  split
  · omega
  · split <;> omega
theorem cmpI_zero (x y : Int) : cmpI x y = 0 ↔ x = y := by
  unfold cmpI
  split
  · omega
  · split <;> omega
/-- Rows in memory. -/
def RowAt (w : World) (g : Nat) (l : List Row) : Prop := g < w.heap.size ∧ ∀ k (h : k < l.length),
  w.cell? ⟨g, k * 6, none⟩ = some (.int .i64 l[k].1) ∧ w.cell? ⟨g, k * 6 + 1, none⟩ = some (.string l[k].2.1) ∧ w.cell? ⟨g, k * 6 + 2, none⟩ = some (.int .i64 l[k].2.2.1) ∧
  w.cell? ⟨g, k * 6 + 3, none⟩ = some (.int .i64 l[k].2.2.2.1) ∧ w.cell? ⟨g, k * 6 + 4, none⟩ = some (.int .i64 l[k].2.2.2.2.1) ∧ w.cell? ⟨g, k * 6 + 5, none⟩ = some (.int .i64 l[k].2.2.2.2.2)
def SortR (l : List Row) : Prop := ∀ i j (hi : i < l.length) (hj : j < l.length), i < j → l[i].1 < l[j].1
theorem SortR.le {l : List Row} (h : SortR l) (i j : Nat) (hi : i < l.length) (hj : j < l.length) (hij : i ≤ j) : l[i].1 ≤ l[j].1 := by
  rcases Nat.lt_or_eq_of_le hij with h1 | h1
  · exact Int.le_of_lt (h i j hi hj h1)
  · subst h1; exact Int.le_refl _
def PartR (l : List Row) (p : Int) (i : Nat) : Prop := i ≤ l.length ∧ (∀ k (h : k < l.length), k < i → l[k].1 < p) ∧ (∀ k (h : k < l.length), i ≤ k → p ≤ l[k].1)
def FoundR (l : List Row) (p : Int) (w : World) (e : Ending) (w' : World) : Prop := ∃ i : Nat, PartR l p i ∧ Below w.heap.size w w' ∧ e = .returned (.tuple #[.int .i64 i, .bool (decide (∃ h : i < l.length, l[i].1 = p))])

set_option maxRecDepth 100000 in
theorem rcmp_any (k : Int) (nm : ByteArray) (g lo hi d p : Int) (w : World) :
    Calls Try.prog 97 #[.agg #[.int .i64 k, .string nm, .int .i64 g, .int .i64 lo, .int .i64 hi, .int .i64 d], .int .i64 p] w fun e w' => e = .returned (.int .i64 (cmpI k p)) ∧ Below w.heap.size w w' := by
  go_enter Try.func97, Try.ntmps97
  go_wp2_with (go_at_call 98; refine (cmp_any _ _ _).mono ?_; rintro e w' ⟨rfl, rfl⟩)
  go_ret
  exact ⟨rfl, (Below.refl _ w).alloc (Nat.le_refl _) _⟩

set_option maxRecDepth 100000 in
set_option maxHeartbeats 4000000 in
theorem rsearch_any (l : List Row) (hup : SortR l) (g : Nat) (p : Int) (w : World) (hl : l.length ≤ 1000) (hR : RowAt w g l) :
    Calls Try.prog 96 #[.slice (some ⟨g, 0, none⟩) l.length l.length, .int .i64 p, .func (.func 97) #[] #[]] w (FoundR l p w) := by
  have U := Go.Lib.hid hup
  have hg := hR.1
  clear hup
  obtain ⟨n, hn⟩ : ∃ n, l.length = n := ⟨_, rfl⟩
  have N := Go.Lib.hid hn
  rw [hn] at hl ⊢
  clear hn
  go_enter Try.func96, Try.ntmps96
  go_wp2
  go_loopg [9, 10] n (fun kx s9 s10 wr => ∃ lo hi : Nat, s9 = .int .i64 lo ∧ s10 = .int .i64 hi ∧ lo ≤ hi ∧ hi ≤ n ∧ hi - lo ≤ kx ∧ Hid (Below w.heap.size w wr) ∧
    Hid ((∀ k (h : k < l.length), k < lo → l[k].1 < p) ∧ (∀ k (h : k < l.length), hi ≤ k → p ≤ l[k].1)))
  case atStart => exact ⟨0, n, rfl, rfl, Nat.zero_le _, Nat.le_refl _, by omega, Go.Lib.hid (Below.refl _ _), Go.Lib.hid ⟨fun k h h' => by omega, fun k h h' => by have := N.out; omega⟩⟩
  case round =>
    obtain ⟨lo, hi, rfl, rfl, hlh, hin, hgg, HB, I⟩ := hrel
    by_cases hlt : lo < hi
    · have hm : (lo + hi) / 2 < l.length := by rw [N.out]; omega
      obtain ⟨h0, h1, h2, h3, h4, h5⟩ := hR.2 ((lo + hi) / 2) hm
      have c0 := (HB.out.cell (p := ⟨g, (lo + hi) / 2 * 6, none⟩) hg).trans h0
      have c1 := (HB.out.cell (p := ⟨g, (lo + hi) / 2 * 6 + 1, none⟩) hg).trans h1
      have c2 := (HB.out.cell (p := ⟨g, (lo + hi) / 2 * 6 + 2, none⟩) hg).trans h2
      have c3 := (HB.out.cell (p := ⟨g, (lo + hi) / 2 * 6 + 3, none⟩) hg).trans h3
      have c4 := (HB.out.cell (p := ⟨g, (lo + hi) / 2 * 6 + 4, none⟩) hg).trans h4
      have c5 := (HB.out.cell (p := ⟨g, (lo + hi) / 2 * 6 + 5, none⟩) hg).trans h5
      clear h0 h1 h2 h3 h4 h5
      generalize hy : l[(lo + hi) / 2] = y at c0 c1 c2 c3 c4 c5
      have Y := Go.Lib.hid hy
      clear hy
      obtain ⟨ya, yb, yc, yd, ye, yf⟩ := y
      dsimp only at c0 c1 c2 c3 c4 c5
      have hc := rcmp_any ya yb yc yd ye yf p wr
      generalize hv : cmpI ya p = v at hc
      have V := Go.Lib.hid hv
      clear hv
      by_cases hyx : v < 0
      · go_wp2_with (go_at_call 97; refine hc.mono ?_; rintro e w' ⟨rfl, hb⟩)
        go_roundg (hi - ((lo + hi) / 2 + 1))
        case measure => omega
        case rel =>
          refine ⟨(lo + hi) / 2 + 1, hi, by rw [show ((lo : Int) + (hi : Int)) / 2 + 1 = (((lo + hi) / 2 + 1 : Nat) : Int) by omega], rfl, by omega, hin, Nat.le_refl _, Go.Lib.hid (HB.out.trans (hb.mono HB.out.size)), Go.Lib.hid ⟨fun k h h' => ?_, I.out.2⟩⟩
          have e1 := U.out.le k ((lo + hi) / 2) h hm (by omega)
          have e2 := (cmpI_neg ya p).1 (by rw [V.out]; exact hyx)
          rw [Y.out] at e1
          dsimp only at e1 e2
          omega
      · go_wp2_with (go_at_call 97; refine hc.mono ?_; rintro e w' ⟨rfl, hb⟩)
        go_roundg ((lo + hi) / 2 - lo)
        case measure => omega
        case rel =>
          refine ⟨lo, (lo + hi) / 2, rfl, by rw [show ((lo : Int) + (hi : Int)) / 2 = (((lo + hi) / 2 : Nat) : Int) by omega], by omega, by omega, Nat.le_refl _, Go.Lib.hid (HB.out.trans (hb.mono HB.out.size)), Go.Lib.hid ⟨I.out.1, fun k h h' => ?_⟩⟩
          have e1 := U.out.le ((lo + hi) / 2) k hm h h'
          have e2 := (not_congr (cmpI_neg ya p)).1 (by rw [V.out]; omega)
          rw [Y.out] at e1
          dsimp only at e1 e2
          omega
    · obtain rfl : lo = hi := by omega
      have PH : Hid (PartR l p lo) := Go.Lib.hid ⟨by rw [N.out]; exact hin, I.out.1, I.out.2⟩
      by_cases hn : lo < n
      · have hm : lo < l.length := by rw [N.out]; omega
        obtain ⟨h0, h1, h2, h3, h4, h5⟩ := hR.2 lo hm
        have c0 := (HB.out.cell (p := ⟨g, lo * 6, none⟩) hg).trans h0
        have c1 := (HB.out.cell (p := ⟨g, lo * 6 + 1, none⟩) hg).trans h1
        have c2 := (HB.out.cell (p := ⟨g, lo * 6 + 2, none⟩) hg).trans h2
        have c3 := (HB.out.cell (p := ⟨g, lo * 6 + 3, none⟩) hg).trans h3
        have c4 := (HB.out.cell (p := ⟨g, lo * 6 + 4, none⟩) hg).trans h4
        have c5 := (HB.out.cell (p := ⟨g, lo * 6 + 5, none⟩) hg).trans h5
        clear h0 h1 h2 h3 h4 h5
        generalize hy : l[lo] = y at c0 c1 c2 c3 c4 c5
        have Y := Go.Lib.hid hy
        clear hy
        obtain ⟨ya, yb, yc, yd, ye, yf⟩ := y
        dsimp only at c0 c1 c2 c3 c4 c5
        have hc := rcmp_any ya yb yc yd ye yf p wr
        have Z := Go.Lib.hid (cmpI_zero ya p)
        generalize hv : cmpI ya p = v at hc Z
        clear hv
        by_cases hyx : v = 0
        · go_wp2_with (go_at_call 97; refine hc.mono ?_; rintro e w' ⟨rfl, hb⟩)
          go_ret2
          refine ⟨lo, PH.out, HB.out.trans (hb.mono HB.out.size), ?_⟩
          rw [decide_eq_true (show ∃ h : lo < l.length, l[lo].1 = p from ⟨hm, by rw [Y.out]; exact Z.out.1 hyx⟩)]
          simp
        · go_wp2_with (go_at_call 97; refine hc.mono ?_; rintro e w' ⟨rfl, hb⟩)
          go_ret2
          refine ⟨lo, PH.out, HB.out.trans (hb.mono HB.out.size), ?_⟩
          rw [decide_eq_false (show ¬ ∃ h : lo < l.length, l[lo].1 = p from fun ⟨_, h⟩ => hyx (Z.out.2 (by rw [Y.out] at h; exact h)))]
          simp [hyx]
      · go_wp2
        go_ret2
        refine ⟨lo, PH.out, HB.out, ?_⟩
        rw [decide_eq_false (show ¬ ∃ h : lo < l.length, l[lo].1 = p from fun ⟨h, _⟩ => by have := N.out; omega)]
        simp
end Go.Proofs.Ytbkpokipibgdfaa

/- Layer 7: find. -/
namespace Go.Proofs.Ytbkpokipibgdfaa
open Go.RowKit Go.Lib

theorem tab_sort : SortR tabP := by
  have h : ∀ i : Fin 45, ∀ j : Fin 45, i < j → (tabP[i.val]'i.isLt).1 < (tabP[j.val]'j.isLt).1 := by decide +kernel
  intro i j hi hj hij
  exact h ⟨i, hi⟩ ⟨j, hj⟩ hij
theorem rowC6_len (r : Row) : (rowC6 r).length = 6 := rfl
theorem rows_get (l : List Row) : ∀ k (h : k < l.length) j, j < 6 → (l.flatMap rowC6)[k * 6 + j]? = (rowC6 l[k])[j]? := by
  induction l with
  | nil => intro k h; simp at h
  | cons a l ih =>
    intro k h j hj
    rw [List.flatMap_cons]
    cases k with
    | zero => rw [Nat.zero_mul, Nat.zero_add, List.getElem?_append_left (by rw [rowC6_len]; exact hj)]; rfl
    | succ k =>
      rw [List.getElem?_append_right (by rw [rowC6_len]; omega), rowC6_len, show (k + 1) * 6 + j - 6 = k * 6 + j by omega]
      exact ih k (by simpa using h) j hj
theorem tab_rows {w : World} {g : Nat} (hg : w.heap[g]? = some (.cells cellsT 126 (0, 0))) : RowAt w g tabP := by
  refine ⟨(Array.getElem?_eq_some_iff.1 hg).1, fun k hk => ?_⟩
  have key : ∀ j, j < 6 → w.cell? ⟨g, k * 6 + j, none⟩ = (rowC6 tabP[k])[j]? := fun j hj => by
    rw [cell_of_row w g _ _ _ _ hg]
    unfold cellsT
    rw [List.getElem?_toArray]
    exact rows_get tabP k hk j hj
  exact ⟨key 0 (by omega), key 1 (by omega), key 2 (by omega), key 3 (by omega), key 4 (by omega), key 5 (by omega)⟩
theorem found_yes {l : List Row} (hs : SortR l) {p : Int} {w w' : World} {e : Ending} (h : FoundR l p w e w') (hx : ∃ r ∈ l, r.1 = p) :
    ∃ i, ∃ h : i < l.length, l[i].1 = p ∧ Below w.heap.size w w' ∧ e = .returned (.tuple #[.int .i64 (i : Nat), .bool true]) := by
  obtain ⟨i, ⟨h1, h2, h3⟩, hb, rfl⟩ := h
  obtain ⟨r, hr, hp⟩ := hx
  obtain ⟨k, hk, rfl⟩ := List.mem_iff_getElem.1 hr
  have hki : ¬ k < i := fun h => by have := h2 k hk h; omega
  have hil : i < l.length := by omega
  have h4 := h3 i hil (Nat.le_refl _)
  have h5 := hs.le i k hil hk (by omega)
  have e1 : l[i].1 = p := by omega
  exact ⟨i, hil, e1, hb, by rw [decide_eq_true (show ∃ h : i < l.length, l[i].1 = p from ⟨hil, e1⟩)]⟩
theorem found_no {l : List Row} {p : Int} {w w' : World} {e : Ending} (h : FoundR l p w e w') (hx : ¬ ∃ r ∈ l, r.1 = p) :
    ∃ i : Nat, Below w.heap.size w w' ∧ e = .returned (.tuple #[.int .i64 (i : Nat), .bool false]) := by
  obtain ⟨i, _, hb, rfl⟩ := h
  exact ⟨i, hb, by rw [decide_eq_false (fun ⟨h, e⟩ => hx ⟨l[i], List.getElem_mem h, e⟩)]⟩

theorem store_tab (w : World) : (storeCells ⟨w.heap.size, 0, none⟩ cellsT.toList 0).run Try.prog (w.alloc (.cells Try.zeroCells126 126)) = .ok () (w.alloc (.cells cellsT 126)) :=
  run_storeCells_new w 126 _ cellsT (by rw [sizeT, cellsT_size]) (by rw [cellsT_size]; kernel_rfl) cellsT_one

section
variable {W : World} {b : Nat} {t : TypeId} {v0 v1 v2 v3 v4 v5 : Value}
theorem ObjAt.s0 (h : ObjAt W b #[v0, v1, v2, v3, v4, v5] t) : W.cell? ⟨b, 0, none⟩ = some v0 := h.get rfl
theorem ObjAt.s1 (h : ObjAt W b #[v0, v1, v2, v3, v4, v5] t) : W.cell? ⟨b, 1, none⟩ = some v1 := h.get rfl
theorem ObjAt.s2 (h : ObjAt W b #[v0, v1, v2, v3, v4, v5] t) : W.cell? ⟨b, 2, none⟩ = some v2 := h.get rfl
theorem ObjAt.s3 (h : ObjAt W b #[v0, v1, v2, v3, v4, v5] t) : W.cell? ⟨b, 3, none⟩ = some v3 := h.get rfl
theorem ObjAt.s4 (h : ObjAt W b #[v0, v1, v2, v3, v4, v5] t) : W.cell? ⟨b, 4, none⟩ = some v4 := h.get rfl
theorem ObjAt.s5 (h : ObjAt W b #[v0, v1, v2, v3, v4, v5] t) : W.cell? ⟨b, 5, none⟩ = some v5 := h.get rfl
end
theorem ObjAt.set' {W : World} {b : Nat} {c : Array Value} {t : TypeId} (h : ObjAt W b c t) (k : Nat) (v : Value) : ObjAt (W.setCell ⟨b, k, none⟩ v) b (c.modify k (fun _ => v)) t := by
  obtain ⟨hlt, hk⟩ := Array.getElem?_eq_some_iff.1 h
  show (W.heap.modify b _)[b]? = _
  rw [Array.getElem?_eq_getElem (by rw [Array.size_modify]; exact hlt), Array.getElem_modify_self, hk]
  rfl
theorem set6 {W : World} {b : Nat} {t : TypeId} {u0 u1 u2 u3 u4 u5 : Value} (h : ObjAt W b #[u0, u1, u2, u3, u4, u5] t) (v0 v1 v2 v3 v4 v5 : Value) :
    ObjAt ((((((W.setCell ⟨b, 0, none⟩ v0).setCell ⟨b, 1, none⟩ v1).setCell ⟨b, 2, none⟩ v2).setCell ⟨b, 3, none⟩ v3).setCell ⟨b, 4, none⟩ v4).setCell ⟨b, 5, none⟩ v5) b #[v0, v1, v2, v3, v4, v5] t :=
  (((((h.set' 0 v0).set' 1 v1).set' 2 v2).set' 3 v3).set' 4 v4).set' 5 v5
theorem set6_below {n : Nat} {w0 W : World} (h : Below n w0 W) {b : Nat} (hb : n ≤ b) (v0 v1 v2 v3 v4 v5 : Value) :
    Below n w0 ((((((W.setCell ⟨b, 0, none⟩ v0).setCell ⟨b, 1, none⟩ v1).setCell ⟨b, 2, none⟩ v2).setCell ⟨b, 3, none⟩ v3).setCell ⟨b, 4, none⟩ v4).setCell ⟨b, 5, none⟩ v5) :=
  (((((h.setCell (p := ⟨b, 0, none⟩) hb _).setCell (p := ⟨b, 1, none⟩) hb _).setCell (p := ⟨b, 2, none⟩) hb _).setCell (p := ⟨b, 3, none⟩) hb _).setCell (p := ⟨b, 4, none⟩) hb _).setCell (p := ⟨b, 5, none⟩) hb _

set_option maxRecDepth 100000 in
set_option maxHeartbeats 4000000 in
theorem find_no (p : Int) (hx : ¬ ∃ r ∈ tabP, r.1 = p) (w : World) :
    Calls Try.prog 88 #[.int .i64 p] w fun e w' => e = .returned (.tuple #[.agg #[.int .i64 0, .string ⟨#[]⟩, .int .i64 0, .int .i64 0, .int .i64 0, .int .i64 0], .int .i64 4]) ∧ Below w.heap.size w w' := by
  have cT := fun w' => table_any w'
  have cS : ∀ g w', RowAt w' g tabP → Calls Try.prog 96 #[.slice (some ⟨g, 0, none⟩) 45 45, .int .i64 p, .func (.func 97) #[] #[]] w' fun e w'' => ∃ i : Nat, Below w'.heap.size w' w'' ∧ e = .returned (.tuple #[.int .i64 (i : Nat), .bool false]) :=
    fun g w' hR => (rsearch_any tabP tab_sort g p w' (by decide) hR).mono fun e w'' h => found_no h hx
  have hst := fun w' => store_tab w'
  have hsz := cellsT_size
  have o2 := ObjAt.new w #[.int .i64 0, .string ⟨#[]⟩, .int .i64 0, .int .i64 0, .int .i64 0, .int .i64 0] 118
  have B0 : Below w.heap.size w (w.alloc (.cells #[.int .i64 0, .string ⟨#[]⟩, .int .i64 0, .int .i64 0, .int .i64 0, .int .i64 0] 118)) := (Below.refl _ w).alloc (Nat.le_refl _) _
  clear hx
  go_enter Try.func88, Try.ntmps88
  go_wp2_with (first
    | (go_at_call 95; (with_reducible refine (cT _).mono ?_); rintro e w1 ⟨rfl, hb1⟩)
    | (go_at_call 96; (with_reducible refine (cS _ _ (tab_rows (heap_alloc_last w1 (.cells cellsT 126)))).mono ?_); rintro e w2 ⟨i, hb2, rfl⟩; have o3 := ((o2.below hb1).alloc (.cells cellsT 126)).below hb2; have s0 := o3.s0; have s1 := o3.s1; have s2 := o3.s2; have s3 := o3.s3; have s4 := o3.s4; have s5 := o3.s5; have f0 := o3.frozen 0; have f1 := o3.frozen 1; have f2 := o3.frozen 2; have f3 := o3.frozen 3; have f4 := o3.frozen 4; have f5 := o3.frozen 5; have bb := (B0.trans (hb1.mono (by simp))).alloc (by have := hb1.size; simp at this; omega) (.cells cellsT 126); have bb2 := bb.trans (hb2.mono (by have := hb1.size; simp at this; simp; omega))))
  have q := set6 o3 (.int .i64 0) (.string ⟨#[]⟩) (.int .i64 0) (.int .i64 0) (.int .i64 0) (.int .i64 0)
  have q0 := q.s0
  have q1 := q.s1
  have q2 := q.s2
  have q3 := q.s3
  have q4 := q.s4
  have q5 := q.s5
  exact bodyPost_ret (v := .tuple #[.agg #[.int .i64 0, .string ⟨#[]⟩, .int .i64 0, .int .i64 0, .int .i64 0, .int .i64 0], .int .i64 4]) (by simp [results, Try.results88, go_sem, q0, q1, q2, q3, q4, q5]) rfl ⟨rfl, set6_below bb2 (Nat.le_refl _) _ _ _ _ _ _⟩

end Go.Proofs.Ytbkpokipibgdfaa

/- Layer 7: find, of a key. -/
namespace Go.Proofs.Ytbkpokipibgdfaa
open Go.RowKit Go.Lib

set_option maxRecDepth 100000 in
set_option maxHeartbeats 4000000 in
theorem find_yes (p : Int) (hx : ∃ r ∈ tabP, r.1 = p) (w : World) :
    Calls Try.prog 88 #[.int .i64 p] w fun e w' => (∃ r ∈ tabP, r.1 = p ∧ e = .returned (.tuple #[.agg #[.int .i64 r.1, .string r.2.1, .int .i64 r.2.2.1, .int .i64 r.2.2.2.1, .int .i64 r.2.2.2.2.1, .int .i64 r.2.2.2.2.2], .int .i64 0])) ∧ Below w.heap.size w w' := by
  have cT := fun w' => table_any w'
  have cS : ∀ g w', RowAt w' g tabP → Calls Try.prog 96 #[.slice (some ⟨g, 0, none⟩) 45 45, .int .i64 p, .func (.func 97) #[] #[]] w' fun e w'' => ∃ i, ∃ h : i < tabP.length, tabP[i].1 = p ∧ Below w'.heap.size w' w'' ∧ e = .returned (.tuple #[.int .i64 (i : Nat), .bool true]) :=
    fun g w' hR => (rsearch_any tabP tab_sort g p w' (by decide) hR).mono fun e w'' h => found_yes tab_sort h hx
  have hst := fun w' => store_tab w'
  have hsz := cellsT_size
  have o2 := ObjAt.new w #[.int .i64 0, .string ⟨#[]⟩, .int .i64 0, .int .i64 0, .int .i64 0, .int .i64 0] 118
  have B0 : Below w.heap.size w (w.alloc (.cells #[.int .i64 0, .string ⟨#[]⟩, .int .i64 0, .int .i64 0, .int .i64 0, .int .i64 0] 118)) := (Below.refl _ w).alloc (Nat.le_refl _) _
  clear hx
  go_enter Try.func88, Try.ntmps88
  go_wp2_with (first
    | (go_at_call 95; (with_reducible refine (cT _).mono ?_); rintro e w1 ⟨rfl, hb1⟩)
    | (go_at_call 96; (with_reducible refine (cS _ _ (tab_rows (heap_alloc_last w1 (.cells cellsT 126)))).mono ?_); rintro e w2 ⟨i, hi, hk, hb2, rfl⟩; have o3 := ((o2.below hb1).alloc (.cells cellsT 126)).below hb2; have s0 := o3.s0; have s1 := o3.s1; have s2 := o3.s2; have s3 := o3.s3; have s4 := o3.s4; have s5 := o3.s5; have f0 := o3.frozen 0; have f1 := o3.frozen 1; have f2 := o3.frozen 2; have f3 := o3.frozen 3; have f4 := o3.frozen 4; have f5 := o3.frozen 5; have bb := (B0.trans (hb1.mono (by simp))).alloc (by have := hb1.size; simp at this; omega) (.cells cellsT 126); have bb2 := bb.trans (hb2.mono (by have := hb1.size; simp at this; simp; omega)); have RW := (tab_rows (heap_alloc_last w1 (.cells cellsT 126))); obtain ⟨c0, c1, c2, c3, c4, c5⟩ := RW.2 i hi; have d0 := (hb2.cell (p := ⟨w1.heap.size, i * 6, none⟩) RW.1).trans c0; have d1 := (hb2.cell (p := ⟨w1.heap.size, i * 6 + 1, none⟩) RW.1).trans c1; have d2 := (hb2.cell (p := ⟨w1.heap.size, i * 6 + 2, none⟩) RW.1).trans c2; have d3 := (hb2.cell (p := ⟨w1.heap.size, i * 6 + 3, none⟩) RW.1).trans c3; have d4 := (hb2.cell (p := ⟨w1.heap.size, i * 6 + 4, none⟩) RW.1).trans c4; have d5 := (hb2.cell (p := ⟨w1.heap.size, i * 6 + 5, none⟩) RW.1).trans c5; have hmem : tabP[i] ∈ tabP := List.getElem_mem hi; have MEM := Go.Lib.hid hmem; have hi45 : i < 45 := hi; have hne : ¬ w1.heap.size = w.heap.size := (by have := hb1.size; simp at this; omega); have hne2 : ¬ w.heap.size = w1.heap.size := (fun h => hne h.symm); clear c0 c1 c2 c3 c4 c5 RW hmem; generalize hr : tabP[i] = r at d0 d1 d2 d3 d4 d5 hk MEM; clear hr; obtain ⟨ra, rb, rc, rd, re, rf⟩ := r; dsimp only at d0 d1 d2 d3 d4 d5 hk; have HK := Go.Lib.hid hk; clear hk))
  have q := set6 o3 (.int .i64 ra) (.string rb) (.int .i64 rc) (.int .i64 rd) (.int .i64 re) (.int .i64 rf)
  have q0 := q.s0
  have q1 := q.s1
  have q2 := q.s2
  have q3 := q.s3
  have q4 := q.s4
  have q5 := q.s5
  exact bodyPost_ret (v := .tuple #[.agg #[.int .i64 ra, .string rb, .int .i64 rc, .int .i64 rd, .int .i64 re, .int .i64 rf], .int .i64 0]) (by simp [results, Try.results88, go_sem, q0, q1, q2, q3, q4, q5]) rfl ⟨⟨_, MEM.out, HK.out, rfl⟩, set6_below bb2 (Nat.le_refl _) _ _ _ _ _ _⟩

end Go.Proofs.Ytbkpokipibgdfaa

/- Layer 7: the search over properties. -/
namespace Go.Proofs.Ytbkpokipibgdfaa
open Go.RowKit Go.Lib

def SortP (l : List Pr) : Prop := ∀ i j (hi : i < l.length) (hj : j < l.length), i < j → l[i].1 < l[j].1
theorem SortP.le {l : List Pr} (h : SortP l) (i j : Nat) (hi : i < l.length) (hj : j < l.length) (hij : i ≤ j) : l[i].1 ≤ l[j].1 := by
  rcases Nat.lt_or_eq_of_le hij with h1 | h1
  · exact Int.le_of_lt (h i j hi hj h1)
  · subst h1; exact Int.le_refl _
def PartP (l : List Pr) (p : Int) (i : Nat) : Prop := i ≤ l.length ∧ (∀ k (h : k < l.length), k < i → l[k].1 < p) ∧ (∀ k (h : k < l.length), i ≤ k → p ≤ l[k].1)
def FoundP (l : List Pr) (p : Int) (w : World) (e : Ending) (w' : World) : Prop := ∃ i : Nat, PartP l p i ∧ Below w.heap.size w w' ∧ e = .returned (.tuple #[.int .i64 i, .bool (decide (∃ h : i < l.length, l[i].1 = p))])

set_option maxRecDepth 100000 in
theorem pcmp_any (k v p : Int) (w : World) :
    Calls Try.prog 104 #[.agg #[.int .i64 k, .int .i64 v], .int .i64 p] w fun e w' => e = .returned (.int .i64 (cmpI k p)) ∧ Below w.heap.size w w' := by
  go_enter Try.func104, Try.ntmps104
  go_wp2_with (go_at_call 98; refine (cmp_any _ _ _).mono ?_; rintro e w' ⟨rfl, rfl⟩)
  go_ret
  exact ⟨rfl, (Below.refl _ w).alloc (Nat.le_refl _) _⟩

set_option maxRecDepth 100000 in
set_option maxHeartbeats 4000000 in
theorem psearch_any (l : List Pr) (hup : SortP l) (A : Option Addr) (c : Nat) (p : Int) (w : World) (hl : l.length ≤ 1000) (hA : PrAt w A l) :
    Calls Try.prog 103 #[.slice A l.length c, .int .i64 p, .func (.func 104) #[] #[]] w (FoundP l p w) := by
  have U := Go.Lib.hid hup
  have HA := Go.Lib.hid hA
  clear hA
  clear hup
  obtain ⟨n, hn⟩ : ∃ n, l.length = n := ⟨_, rfl⟩
  have N := Go.Lib.hid hn
  rw [hn] at hl ⊢
  clear hn
  go_enter Try.func103, Try.ntmps103
  go_wp2
  go_loopg [9, 10] n (fun kx s9 s10 wr => ∃ lo hi : Nat, s9 = .int .i64 lo ∧ s10 = .int .i64 hi ∧ lo ≤ hi ∧ hi ≤ n ∧ hi - lo ≤ kx ∧ Hid (Below w.heap.size w wr) ∧
    Hid ((∀ k (h : k < l.length), k < lo → l[k].1 < p) ∧ (∀ k (h : k < l.length), hi ≤ k → p ≤ l[k].1)))
  case atStart => exact ⟨0, n, rfl, rfl, Nat.zero_le _, Nat.le_refl _, by omega, Go.Lib.hid (Below.refl _ _), Go.Lib.hid ⟨fun k h h' => by omega, fun k h h' => by have := N.out; omega⟩⟩
  case round =>
    obtain ⟨lo, hi, rfl, rfl, hlh, hin, hgg, HB, I⟩ := hrel
    by_cases hlt : lo < hi
    · have hm : (lo + hi) / 2 < l.length := by rw [N.out]; omega
      rcases HA.out with hA0 | ⟨g, o, rfl, hg, hcl⟩
      · rw [hA0] at hm; exact absurd hm (Nat.not_lt_zero _)
      obtain ⟨h0, h1⟩ := hcl ((lo + hi) / 2) hm
      have c0 := (HB.out.cell (p := ⟨g, o + (lo + hi) / 2 * 2, none⟩) hg).trans h0
      have c1 := (HB.out.cell (p := ⟨g, o + (lo + hi) / 2 * 2 + 1, none⟩) hg).trans h1
      clear h0 h1 hcl
      generalize hy : l[(lo + hi) / 2] = y at c0 c1
      have Y := Go.Lib.hid hy
      clear hy
      obtain ⟨ya, yb⟩ := y
      dsimp only at c0 c1
      have hc := pcmp_any ya yb p wr
      generalize hv : cmpI ya p = v at hc
      have V := Go.Lib.hid hv
      clear hv
      by_cases hyx : v < 0
      · go_wp2_with (go_at_call 104; refine hc.mono ?_; rintro e w' ⟨rfl, hb⟩)
        go_roundg (hi - ((lo + hi) / 2 + 1))
        case measure => omega
        case rel =>
          refine ⟨(lo + hi) / 2 + 1, hi, by rw [show ((lo : Int) + (hi : Int)) / 2 + 1 = (((lo + hi) / 2 + 1 : Nat) : Int) by omega], rfl, by omega, hin, Nat.le_refl _, Go.Lib.hid (HB.out.trans (hb.mono HB.out.size)), Go.Lib.hid ⟨fun k h h' => ?_, I.out.2⟩⟩
          have e1 := U.out.le k ((lo + hi) / 2) h hm (by omega)
          have e2 := (cmpI_neg ya p).1 (by rw [V.out]; exact hyx)
          rw [Y.out] at e1
          dsimp only at e1 e2
          omega
      · go_wp2_with (go_at_call 104; refine hc.mono ?_; rintro e w' ⟨rfl, hb⟩)
        go_roundg ((lo + hi) / 2 - lo)
        case measure => omega
        case rel =>
          refine ⟨lo, (lo + hi) / 2, rfl, by rw [show ((lo : Int) + (hi : Int)) / 2 = (((lo + hi) / 2 : Nat) : Int) by omega], by omega, by omega, Nat.le_refl _, Go.Lib.hid (HB.out.trans (hb.mono HB.out.size)), Go.Lib.hid ⟨I.out.1, fun k h h' => ?_⟩⟩
          have e1 := U.out.le ((lo + hi) / 2) k hm h h'
          have e2 := (not_congr (cmpI_neg ya p)).1 (by rw [V.out]; omega)
          rw [Y.out] at e1
          dsimp only at e1 e2
          omega
    · obtain rfl : lo = hi := by omega
      have PH : Hid (PartP l p lo) := Go.Lib.hid ⟨by rw [N.out]; exact hin, I.out.1, I.out.2⟩
      by_cases hn : lo < n
      · have hm : lo < l.length := by rw [N.out]; omega
        rcases HA.out with hA0 | ⟨g, o, rfl, hg, hcl⟩
        · rw [hA0] at hm; exact absurd hm (Nat.not_lt_zero _)
        obtain ⟨h0, h1⟩ := hcl lo hm
        have c0 := (HB.out.cell (p := ⟨g, o + lo * 2, none⟩) hg).trans h0
        have c1 := (HB.out.cell (p := ⟨g, o + lo * 2 + 1, none⟩) hg).trans h1
        clear h0 h1 hcl
        generalize hy : l[lo] = y at c0 c1
        have Y := Go.Lib.hid hy
        clear hy
        obtain ⟨ya, yb⟩ := y
        dsimp only at c0 c1
        have hc := pcmp_any ya yb p wr
        have Z := Go.Lib.hid (cmpI_zero ya p)
        generalize hv : cmpI ya p = v at hc Z
        clear hv
        by_cases hyx : v = 0
        · go_wp2_with (go_at_call 104; refine hc.mono ?_; rintro e w' ⟨rfl, hb⟩)
          go_ret2
          refine ⟨lo, PH.out, HB.out.trans (hb.mono HB.out.size), ?_⟩
          rw [decide_eq_true (show ∃ h : lo < l.length, l[lo].1 = p from ⟨hm, by rw [Y.out]; exact Z.out.1 hyx⟩)]
          simp
        · go_wp2_with (go_at_call 104; refine hc.mono ?_; rintro e w' ⟨rfl, hb⟩)
          go_ret2
          refine ⟨lo, PH.out, HB.out.trans (hb.mono HB.out.size), ?_⟩
          rw [decide_eq_false (show ¬ ∃ h : lo < l.length, l[lo].1 = p from fun ⟨_, h⟩ => hyx (Z.out.2 (by rw [Y.out] at h; exact h)))]
          simp [hyx]
      · go_wp2
        go_ret2
        refine ⟨lo, PH.out, HB.out, ?_⟩
        rw [decide_eq_false (show ¬ ∃ h : lo < l.length, l[lo].1 = p from fun ⟨h, _⟩ => by have := N.out; omega)]
        simp
end Go.Proofs.Ytbkpokipibgdfaa

/- Layer 7: groups of elements. -/
namespace Go.Proofs.Ytbkpokipibgdfaa
open Go.RowKit Go.Lib

/-- Whether elements of a kind have the keys of a group. -/
def hasG (e g : Int) : Bool := if e = 1 ∨ e = 4 ∨ e = 5 ∨ e = 6 then g == 1 else if e = 2 then g == 2 || g == 1 else if e = 3 then g == 3 else if e = 7 then g == 6 else if e = 9 then g == 4 else if e = 10 then g == 5 else false

theorem ret_bool' {a b : Bool} (h : a = b) : Ending.returned (.bool a) = .returned (.bool b) := by rw [h]
set_option maxRecDepth 100000 in
set_option maxHeartbeats 4000000 in
theorem hasG_any (e g : Int) (w : World) : Calls Try.prog 89 #[.int .i64 e, .int .i64 g] w fun x w' => x = .returned (.bool (hasG e g)) ∧ w = w' := by
  by_cases h1 : e = 1
  · subst h1
    go_enter Try.func89, Try.ntmps89
    go_wp2
    go_ret
    exact ⟨ret_bool' (by simp [hasG]), rfl⟩
  by_cases h4 : e = 4
  · subst h4
    go_enter Try.func89, Try.ntmps89
    go_wp2
    go_ret
    exact ⟨ret_bool' (by simp [hasG]), rfl⟩
  by_cases h5 : e = 5
  · subst h5
    go_enter Try.func89, Try.ntmps89
    go_wp2
    go_ret
    exact ⟨ret_bool' (by simp [hasG]), rfl⟩
  by_cases h6 : e = 6
  · subst h6
    go_enter Try.func89, Try.ntmps89
    go_wp2
    go_ret
    exact ⟨ret_bool' (by simp [hasG]), rfl⟩
  by_cases h2 : e = 2
  · subst h2
    by_cases hg : g = 2
    · subst hg
      go_enter Try.func89, Try.ntmps89
      go_wp2
      go_ret
      exact ⟨ret_bool' (by simp [hasG]), rfl⟩
    · have hgb : (g == 2) = false := neB hg
      go_enter Try.func89, Try.ntmps89
      go_wp2
      go_ret
      exact ⟨ret_bool' (by simp [hasG, hg]), rfl⟩
  by_cases h3 : e = 3
  · subst h3
    go_enter Try.func89, Try.ntmps89
    go_wp2
    go_ret
    exact ⟨ret_bool' (by simp [hasG]), rfl⟩
  by_cases h7 : e = 7
  · subst h7
    go_enter Try.func89, Try.ntmps89
    go_wp2
    go_ret
    exact ⟨ret_bool' (by simp [hasG]), rfl⟩
  by_cases h9 : e = 9
  · subst h9
    go_enter Try.func89, Try.ntmps89
    go_wp2
    go_ret
    exact ⟨ret_bool' (by simp [hasG]), rfl⟩
  by_cases h10 : e = 10
  · subst h10
    go_enter Try.func89, Try.ntmps89
    go_wp2
    go_ret
    exact ⟨ret_bool' (by simp [hasG]), rfl⟩
  have b1 : (e == 1) = false := neB h1
  have b4 : (e == 4) = false := neB h4
  have b5 : (e == 5) = false := neB h5
  have b6 : (e == 6) = false := neB h6
  have b2 : (e == 2) = false := neB h2
  have b3 : (e == 3) = false := neB h3
  have b7 : (e == 7) = false := neB h7
  have b9 : (e == 9) = false := neB h9
  have b10 : (e == 10) = false := neB h10
  go_enter Try.func89, Try.ntmps89
  go_wp2
  go_ret
  exact ⟨ret_bool' (by simp [hasG, h1, h4, h5, h6, h2, h3, h7, h9, h10]), rfl⟩
end Go.Proofs.Ytbkpokipibgdfaa
