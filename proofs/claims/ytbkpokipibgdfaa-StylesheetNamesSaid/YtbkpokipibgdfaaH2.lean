/- Layer 7: pairs, Merge, Diff. -/
import Derived.Test.YtbkpokipibgdfaaH1
namespace Go.Proofs.Ytbkpokipibgdfaa
open Go.RowKit Go.Shelf Go.Lib

attribute [local go_sem] Oper.semAt_some

theorem pairs_any (n : Nat) (hn : 1 ≤ n) (Ba Bb : Nat) (A B : Option Addr) (ca cb : Nat) (la lb : List Pr) (hla : la.length ≤ 1000) (hlb : lb.length ≤ 1000) (hca : la.length ≤ ca ∧ ca ≤ maxLen) (hcb : lb.length ≤ cb ∧ cb ≤ maxLen) (n0 : Nat) (w0 w : World)
    (hn0 : w0.heap.size ≤ n0) (hPa : PrAt w0 A la) (hPb : PrAt w0 B lb) (ha : Boxed w Ba 26 (.slice A la.length ca)) (hb : Boxed w Bb 26 (.slice B lb.length cb)) :
    SeqG TZ Ba Fence.wide n Try.prog 93 #[.pointer (some ⟨Ba, 0, none⟩), .pointer (some ⟨Bb, 0, none⟩)] (fun x => #[chV x]) (fun xs => xs = pairs la lb) (fun pre => pre <+: pairs la lb) (pairs la lb).length (fun W => Below n0 w0 W) w := by
  intro L J Jx W hw hJ hJx hG hY h0
  exact pairs_gen n hn L Ba Bb A B ca cb la lb hla hlb hca hcb J Jx n0 w0 W hn0 hPa hPb hJ hG (boxed_below ha hw) (boxed_below hb hw) hY h0
set_option maxRecDepth 100000 in
theorem pairsF_any (A B : Option Addr) (na ca nb cb : Nat) (w : World) :
    Calls Try.prog 78 #[.slice A na ca, .slice B nb cb] w fun e w' => e = .returned (.func (.func 93) #[] #[.pointer (some ⟨w.heap.size, 0, none⟩), .pointer (some ⟨w.heap.size + 1, 0, none⟩)]) ∧ w' = (w.alloc (.cells #[.slice A na ca] 26)).alloc (.cells #[.slice B nb cb] 26) := by
  go_enter Try.func78, Try.ntmps78
  go_wp2
  go_ret
  exact ⟨rfl, rfl⟩
theorem info57 : (Try.prog.info? 55).map (fun i => (i.zero, i.size, i.bytes)) = some (some (.agg #[.int .i64 0, .int .i64 0]), 2, 16) := by kernel_rfl
def rowP (l : List Pr) : List Value := l.flatMap fun x => [.int .i64 x.1, .int .i64 x.2]
theorem rowP_snoc (l : List Pr) (x : Pr) : rowP (l ++ [x]) = rowP l ++ [.int .i64 x.1, .int .i64 x.2] := by simp [rowP]
theorem cell_new2 (w : World) (a b : Value) (t : TypeId) : ∀ j u, [a, b][j]? = some u → (w.alloc (.cells #[a, b] t)).cell? ((⟨w.heap.size, 0, none⟩ : Addr).add j) = some u := by
  intro j u hj
  match j, hj with
  | 0, hj => simp at hj; subst hj; simp [Addr.add]
  | 1, hj => simp at hj; subst hj; simp [Addr.add]
theorem pairs_len (a b : List Pr) : (pairs a b).length ≤ a.length + b.length := by
  induction a generalizing b with
  | nil =>
    induction b with
    | nil => rw [pairs_nil]; simp
    | cons y b ih => rw [pairs_right]; simp at *; omega
  | cons x a iha =>
    induction b with
    | nil => rw [pairs_left]; have := iha []; simp at *; omega
    | cons y b ihb =>
      by_cases h1 : y.1 = x.1
      · rw [pairs_both _ _ _ _ h1]; have := iha b; simp at *; omega
      · by_cases h2 : x.1 < y.1
        · rw [pairs_lt _ _ _ _ h2]; have := iha (y :: b); simp at *; omega
        · rw [pairs_gt _ _ _ _ (by omega)]; simp at *; omega
/-- What Merge makes of a change. -/
def mrg (x : Ch) : Pr := (x.1, if x.2.2.2.2 = true then x.2.2.1 else x.2.1)
/-- What Merge hands back. -/
def MergeRet (la lb : List Pr) (w : World) (e : Ending) (w' : World) : Prop :=
  ∃ v, e = .returned v ∧ w'.ownsRow w.heap.size 55 2 v (pairs la lb).length (rowP ((pairs la lb).map mrg)) ∧ Below w.heap.size w w'

set_option maxRecDepth 100000 in
set_option maxHeartbeats 4000000 in
theorem merge_in (A B : Option Addr) (ca cb : Nat) (la lb : List Pr) (hla : la.length ≤ 1000) (hlb : lb.length ≤ 1000) (hca : la.length ≤ ca ∧ ca ≤ maxLen) (hcb : lb.length ≤ cb ∧ cb ≤ maxLen) (w : World) (hPa : PrAt w A la) (hPb : PrAt w B lb) :
    CallsIn Fence.wide 6 Try.prog 56 #[.slice A la.length ca, .slice B lb.length cb] w (MergeRet la lb w) := by
  obtain ⟨i0, hi, hz0, hz1, hz2⟩ := info_parts info57
  have hpl := pairs_len la lb
  have cP := fun na ca nb cb w' => pairsF_any A B na ca nb cb w'
  refine callsIn_of_wp_marks Try.func56 rfl trivial ?_ rfl
  simp only [Try.ntmps56, List.size_toArray, List.length_cons, List.length_nil, Nat.reduceAdd, Nat.reduceSub, Array.replicate_succ, Array.replicate_zero, List.push_toArray, List.append_toArray, List.nil_append, List.cons_append]
  gi_wp2_with (refine ⟨trivial, ?_⟩; gi_at_call 78; refine (callsIn_wide.2 (cP _ _ _ _ _)).mono ?_; rintro e w2 ⟨rfl, rfl⟩)
  have hB0 : Below w.heap.size w (((w.alloc (.cells #[.slice none 0 0] 26)).alloc (.cells #[.slice A la.length ca] 26)).alloc (.cells #[.slice B lb.length cb] 26)) := (((Below.refl _ w).alloc (Nat.le_refl _) _).alloc (by simp) _).alloc (by simp; omega) _
  have bN := ((Boxed.new w 26 (.slice none 0 0)).alloc (.cells #[.slice A la.length ca] 26)).alloc (.cells #[.slice B lb.length cb] 26)
  have bA := (Boxed.new (w.alloc (.cells #[.slice none 0 0] 26)) 26 (.slice A la.length ca)).alloc (.cells #[.slice B lb.length cb] 26)
  have bB := Boxed.new ((w.alloc (.cells #[.slice none 0 0] 26)).alloc (.cells #[.slice A la.length ca] 26)) 26 (.slice B lb.length cb)
  rw [World.size_alloc] at bA
  rw [World.size_alloc, World.size_alloc] at bB
  have hr0 : (((w.alloc (.cells #[.slice none 0 0] 26)).alloc (.cells #[.slice A la.length ca] 26)).alloc (.cells #[.slice B lb.length cb] 26)).ownsRow w.heap.size 55 2 (.slice none 0 0) 0 [] := World.ownsRow_nil _ _ _ _
  refine rangeG1 (T := TZ) (Bs := w.heap.size + 1) (G := fun W => Below w.heap.size w W) rfl (by decide) (gf := 93) (lb := #[.pointer (some ⟨w.heap.size + 1, 0, none⟩), .pointer (some ⟨w.heap.size + 1 + 1, 0, none⟩)]) rfl trivial (enters_of Try.func93 (by kernel_rfl) rfl)
    (by simp) (pairs_any 5 (by decide) (w.heap.size + 1) (w.heap.size + 1 + 1) A B ca cb la lb hla hlb hca hcb w.heap.size w _ (Nat.le_refl _) hPa hPb bA bB)
    (fun (pre : List Ch) W => (∃ v, Boxed W w.heap.size 26 v ∧ W.ownsRow (w.heap.size + 2) 55 2 v pre.length (rowP (pre.map mrg)) ∧ True) ∧ Below w.heap.size w W) (fun _ _ _ => False) (fun _ _ h => h.2)
    (OwnT.and (OwnT.row rfl rfl 2 (fun (pre : List Ch) => pre.length) (fun (pre : List Ch) => rowP (pre.map mrg)) (fun _ _ => True)) (OwnT.below (Nat.le_refl _) (by simp; omega))) (fun _ _ _ _ _ hs _ _ => hs)
    ⟨⟨_, bN, World.ownsRow_nil _ _ _ _, trivial⟩, hB0⟩ ?round ?done ?stop
  case round =>
    clear bN bA bB hB0 hr0 cP
    rintro l pre x W ⟨⟨v, hv, hrow, _⟩, hB⟩ hlt _ hl hlW
    have hW1 := hB.size
    simp only [World.size_alloc] at hl
    have hBs : w.heap.size + 1 < W.heap.size := by omega
    unfold chV
    obtain ⟨k, o, nw, had, has⟩ := x
    dsimp only
    gi_wp2
    refine ⟨(KeepsOthers.alloc _ _).from _, Kpt.alloc (by omega) _, ⟨⟨v, hv.alloc _, hrow.alloc _, trivial⟩, hB.alloc (by omega) _⟩, ?_⟩
    rintro V hg ⟨⟨u, hu, hro, _⟩, hBV⟩
    have hVs := hg.size
    simp only [World.size_alloc] at hVs
    have hc0 : V.cell? ⟨W.heap.size, 0, none⟩ = some (.int .i64 k) := hg.cell (by simp) (fun e => by simp at e; omega)
    have hc1 : V.cell? ⟨W.heap.size, 1, none⟩ = some (.int .i64 o) := hg.cell (by simp) (fun e => by simp at e; omega)
    have hc2 : V.cell? ⟨W.heap.size, 2, none⟩ = some (.int .i64 nw) := hg.cell (by simp) (fun e => by simp at e; omega)
    have hc4 : V.cell? ⟨W.heap.size, 4, none⟩ = some (.bool has) := hg.cell (by simp) (fun e => by simp at e; omega)
    have hc := hu.cell
    have hpl2 : pre.length ≤ 2000 := by omega
    clear hv hrow hB hg
    cases has with
    | false =>
      gi_wp2_with (gi_at_builtin; refine wpListIn_append_own _ rfl _ _ 26 rfl (w.heap.size + 2) 55 i0 (.agg #[.int .i64 0, .int .i64 0]) 2 16 Try.underlying26 hi hz0 hz1 hz2 rfl (by decide) _ _ _ rfl (hro.alloc _) ⟨V.heap.size, 0, none⟩ 1 1 [.int .i64 k, .int .i64 o] rfl rfl (cell_new2 _ _ _ _) (by intro u hu; simp at hu; rcases hu with rfl | rfl <;> rfl) (by unfold maxLen; omega) (by omega) (by simp; omega) ?_; intro v' w2 hown' hgrow _; obtain ⟨g', cap', rfl⟩ := ownsRow_succ hown'; obtain ⟨hv1, hv2, _, hk2, hb2⟩ := hu.appended (by decide) (own_lower hro (b' := w.heap.size) (by omega)) (by omega) (Nat.le_refl _) (own_lower hown' (b' := w.heap.size) (by omega)) hgrow; have hr2 := hown'.kept (grownBy_setCell' w2 w.heap.size (.slice (some ⟨g', 0, none⟩) (pre.length + 1) cap')) (.inr (hv1.not_row (by decide) hown').symm); have kk := kpt_append (T := TZ) (Bs := w.heap.size + 1) (by omega) hu (by omega) rfl rfl (by decide) hro (fun g hg => by have := (row_type hro g hg).1; omega) hgrow (v' := .slice (some ⟨g', 0, none⟩) (pre.length + 1) cap'); have hcv := hv1.cell; have hfv := hv1.frozen)
      refine ⟨hk2.from _, kk, ⟨⟨_, hv2, ?_, trivial⟩, hBV.trans hb2⟩⟩
      rw [List.map_append, List.map_singleton, rowP_snoc, List.length_append]; exact hr2
    | true =>
      gi_wp2_with (gi_at_builtin; refine wpListIn_append_own _ rfl _ _ 26 rfl (w.heap.size + 2) 55 i0 (.agg #[.int .i64 0, .int .i64 0]) 2 16 Try.underlying26 hi hz0 hz1 hz2 rfl (by decide) _ _ _ rfl (hro.alloc _) ⟨V.heap.size, 0, none⟩ 1 1 [.int .i64 k, .int .i64 nw] rfl rfl (cell_new2 _ _ _ _) (by intro u hu; simp at hu; rcases hu with rfl | rfl <;> rfl) (by unfold maxLen; omega) (by omega) (by simp; omega) ?_; intro v' w2 hown' hgrow _; obtain ⟨g', cap', rfl⟩ := ownsRow_succ hown'; obtain ⟨hv1, hv2, _, hk2, hb2⟩ := hu.appended (by decide) (own_lower hro (b' := w.heap.size) (by omega)) (by omega) (Nat.le_refl _) (own_lower hown' (b' := w.heap.size) (by omega)) hgrow; have hr2 := hown'.kept (grownBy_setCell' w2 w.heap.size (.slice (some ⟨g', 0, none⟩) (pre.length + 1) cap')) (.inr (hv1.not_row (by decide) hown').symm); have kk := kpt_append (T := TZ) (Bs := w.heap.size + 1) (by omega) hu (by omega) rfl rfl (by decide) hro (fun g hg => by have := (row_type hro g hg).1; omega) hgrow (v' := .slice (some ⟨g', 0, none⟩) (pre.length + 1) cap'); have hcv := hv1.cell; have hfv := hv1.frozen)
      refine ⟨hk2.from _, kk, ⟨⟨_, hv2, ?_, trivial⟩, hBV.trans hb2⟩⟩
      rw [List.map_append, List.map_singleton, rowP_snoc, List.length_append]; exact hr2
  case done =>
    rintro D xs W hD rfl ⟨⟨v, hv, hrow, _⟩, hB⟩ hK
    simp only [World.size_alloc] at hD
    have hc := hv.cell
    gi_wp2
    refine ⟨by simp, .inl ⟨_, _, rfl, run_takeDeferred hK, ?_⟩⟩
    refine ⟨v, by simp [results, Try.results56, go_sem], v, rfl, ownsRow_putObj (own_lower hrow (by omega)) _ hK rfl, hB.trans (belowK_b (w := w) (Nat.le_refl _) W D _ _ (by omega) hK rfl rfl)⟩
  case stop =>
    rintro D c pre W _ _ h _
    exact h.elim
theorem merge_any (A B : Option Addr) (ca cb : Nat) (la lb : List Pr) (hla : la.length ≤ 1000) (hlb : lb.length ≤ 1000) (hca : la.length ≤ ca ∧ ca ≤ maxLen) (hcb : lb.length ≤ cb ∧ cb ≤ maxLen) (w : World) (hPa : PrAt w A la) (hPb : PrAt w B lb) :
    Calls Try.prog 56 #[.slice A la.length ca, .slice B lb.length cb] w (MergeRet la lb w) := callsIn_wide.1 (merge_in A B ca cb la lb hla hlb hca hcb w hPa hPb)
end Go.Proofs.Ytbkpokipibgdfaa
