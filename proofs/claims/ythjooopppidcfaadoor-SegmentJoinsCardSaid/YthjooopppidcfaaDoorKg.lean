/- Layer 3: the program's Tokens. -/
import Derived.Test.YthjooopppidcfaaDoorKf
namespace Go.Proofs.YthjooopppidcfaaDoor
open Go.RowKit Go.Shelf Go.Lib
open Gc

attribute [local go_sem] Oper.semAt_some

theorem info34 : (Tryd.prog.info? 34).map (fun i => (i.zero, i.size, i.bytes)) = some (some (.agg #[.int .i64 0, .int .i64 0, .int .i64 0]), 3, 24) := by kernel_rfl
def rowT (l : List (Int × Nat × Nat)) : List Value := l.flatMap fun x => [.int .i64 x.1, .int .i64 (x.2.1 : Nat), .int .i64 (x.2.2 : Nat)]
theorem rowT_snoc (l : List (Int × Nat × Nat)) (x : Int × Nat × Nat) : rowT (l ++ [x]) = rowT l ++ [.int .i64 x.1, .int .i64 (x.2.1 : Nat), .int .i64 (x.2.2 : Nat)] := by simp [rowT]
theorem utok_len (P : List Nat) : (utok P).length ≤ P.length := by
  have key : ∀ (l : List (Int × Nat × Nat)) (i n : Nat), Chain n i l → i + l.length ≤ n := by
    intro l
    induction l with
    | nil => intro i n h; have : i = n := h; simp; omega
    | cons a l ih => intro i n h; obtain ⟨h1, h2, h3⟩ := h; have := ih _ _ h3; simp; omega
  have := key _ _ _ (utok_chain P)
  omega
theorem TxtAt.below {w w' : World} {Bs : Nat} {P : List Nat} (h : TxtAt w Bs P) (hb : Below w.heap.size w w') : TxtAt w' Bs P := by
  obtain ⟨A, pc, cv, h1, h2, h3⟩ := h
  have hB : Bs < w.heap.size := (Array.getElem?_eq_some_iff.1 h1).1
  exact ⟨A, pc, cv, (hb.block Bs hB).trans h1, h2.below hb (Nat.le_refl _), h3.below hb⟩
theorem TxtAt.lt {w : World} {Bs : Nat} {P : List Nat} (h : TxtAt w Bs P) : Bs < w.heap.size := by
  obtain ⟨A, pc, cv, h1, _⟩ := h
  exact (Array.getElem?_eq_some_iff.1 h1).1

/-- The tokens in memory. -/
def TokList (P : List Nat) (w : World) (e : Ending) (w' : World) : Prop := ∃ v, e = .returned v ∧ w'.ownsRow w.heap.size 34 3 v (utok P).length (rowT (utok P)) ∧ Below w.heap.size w w'

set_option maxRecDepth 100000 in
set_option maxHeartbeats 2000000 in
theorem appendSeq_in (Bs : Nat) (P : List Nat) (hP : P.length ≤ 1000) (w : World) (hT : TxtAt w Bs P) :
    CallsIn Fence.wide 6 Tryd.prog 58 #[.slice none 0 0, .func (.func 59) #[] #[.pointer (some ⟨Bs, 0, none⟩)]] w (TokList P w) := by
  obtain ⟨i0, hi, hz0, hz1, hz2⟩ := info_parts info34
  have hBs := hT.lt
  have hul := utok_len P
  refine callsIn_of_wp_marks Tryd.func58 rfl trivial ?_ rfl
  simp only [Tryd.ntmps58, List.size_toArray, List.length_cons, List.length_nil, Nat.reduceAdd, Nat.reduceSub, Array.replicate_succ, Array.replicate_zero, List.push_toArray, List.append_toArray, List.nil_append, List.cons_append]
  gi_wp2
  have hB0 : Below w.heap.size w (w.alloc (.cells #[.slice none 0 0] 26)) := (Below.refl _ w).alloc (Nat.le_refl _) _
  have bN := Boxed.new w 26 (.slice none 0 0)
  have hr0 : (w.alloc (.cells #[.slice none 0 0] 26)).ownsRow w.heap.size 34 3 (.slice none 0 0) 0 [] := World.ownsRow_nil _ _ _ _
  refine rangeT1 (T := TC) (Bs := Bs) rfl (by decide) (gf := 59) (lb := #[.pointer (some ⟨Bs, 0, none⟩)]) rfl trivial (enters_of Tryd.func59 (by kernel_rfl) rfl)
    (by simp; omega) (toks_any 5 (by decide) Bs P hP _ (hT.below hB0))
    (fun pre W => (∃ v, Boxed W w.heap.size 26 v ∧ W.ownsRow w.heap.size 34 3 v pre.length (rowT pre) ∧ True) ∧ Below w.heap.size w W) (fun _ _ _ => False)
    (OwnT.and (OwnT.row rfl rfl 3 (fun pre => pre.length) (fun pre => rowT pre) (fun _ _ => True)) (OwnT.below (Nat.le_refl _) (by simp))) (fun _ _ _ _ _ hs _ _ => hs)
    ⟨⟨_, bN, hr0, trivial⟩, hB0⟩ ?round ?done ?stop
  case round =>
    rintro l pre x W ⟨⟨v, hv, hrow, _⟩, hB⟩ hlt hl hlW
    unfold tokV
    have hW1 := hB.size
    obtain ⟨kd, f, t⟩ := x
    dsimp only
    gi_wp2
    refine ⟨(KeepsOthers.alloc _ _).from _, Kpt.alloc (by omega) _, ⟨⟨v, hv.alloc _, hrow.alloc _, trivial⟩, hB.alloc hW1 _⟩, ?_⟩
    rintro V hg ⟨⟨u, hu, hro, _⟩, hBV⟩
    have hc0 : V.cell? ⟨W.heap.size, 0, none⟩ = some (.int .i64 kd) := hg.cell (by simp) (fun e => by simp at e; omega)
    have hc1 : V.cell? ⟨W.heap.size, 1, none⟩ = some (.int .i64 (f : Nat)) := hg.cell (by simp) (fun e => by simp at e; omega)
    have hc2 : V.cell? ⟨W.heap.size, 2, none⟩ = some (.int .i64 (t : Nat)) := hg.cell (by simp) (fun e => by simp at e; omega)
    have hc := hu.cell
    have hpl : pre.length ≤ 1000 := by omega
    have hBs2 := hBV.size
    clear hv hrow hB
    gi_wp2_with (gi_at_builtin; refine wpListIn_append_own _ rfl _ _ 26 rfl w.heap.size 34 i0 (.agg #[.int .i64 0, .int .i64 0, .int .i64 0]) 3 24 Tryd.underlying26 hi hz0 hz1 hz2 rfl (by decide) _ _ _ rfl (hro.alloc _) ⟨V.heap.size, 0, none⟩ 1 1 [.int .i64 kd, .int .i64 (f : Nat), .int .i64 (t : Nat)] rfl rfl (cell_new3 _ _ _ _ _) (by intro u hu; simp at hu; rcases hu with rfl | rfl | rfl <;> rfl) (by unfold maxLen; omega) (by omega) (by simp; omega) ?_; intro v' w2 hown' hgrow _; obtain ⟨g', cap', rfl⟩ := ownsRow_succ hown'; obtain ⟨hv1, hv2, hr2, hk2, hb2⟩ := hu.appended (by decide) hro hBV.size (by omega) hown' hgrow; have kk := kpt_append (T := TC) (Bs := Bs) (by omega) hu (by omega) rfl rfl (by decide) hro (fun g hg => by have := (row_type hro g hg).1; omega) hgrow (v' := .slice (some ⟨g', 0, none⟩) (pre.length + 1) cap'); have hc1 := hv1.cell; have hf1 := hv1.frozen)
    refine ⟨hk2.from _, kk, ⟨⟨_, hv2, ?_, trivial⟩, hBV.trans hb2⟩⟩
    rw [rowT_snoc, List.length_append]; exact hr2
  case done =>
    rintro D xs W hD rfl ⟨⟨v, hv, hrow, _⟩, hB⟩ hK
    have hc := hv.cell
    gi_wp2
    refine ⟨by simp, .inl ⟨_, _, rfl, run_takeDeferred hK, ?_⟩⟩
    refine ⟨v, by simp [results, Tryd.results58, go_sem], v, rfl, ownsRow_putObj hrow _ hK rfl, hB.trans (belowK_b (w := w) (Nat.le_refl _) W D _ _ ?_ hK rfl rfl)⟩
    simp at hD
    omega
  case stop =>
    rintro D c pre W _ _ h _
    exact h.elim
end Go.Proofs.YthjooopppidcfaaDoor
