/- Layer 6: slices.AppendSeq (83), Collect (70), primaries (46). -/
import Derived.Test.YtknbglcmjggkjaaKE
import Derived.Test.YtknbglcmjggkjaaU3
namespace Go.Proofs.Ytknbglcmjggkjaa
open Go.RowKit Go.Shelf Go.Lib Co

attribute [local go_sem] Oper.semAt_some
theorem growR_of_below {w W : World} (h : Below w.heap.size w W) : GrowR w W none := ⟨h.os, h.tape, h.output, h.size, fun k hk _ => h.block k hk⟩
set_option maxRecDepth 100000 in
set_option maxHeartbeats 8000000 in
theorem appendSeq_in {lb : Array Value} {ws : List Nat} (w : World) (hw : 0 < w.heap.size) (hl : ws.length ≤ 90000)
    (hseq : ∀ (Bs : Nat) (w' : World), SeqG T0 Bs Fence.wide 5 Try.prog 79 lb wEnc (fun xs => xs = ws) (fun pre => pre <+: ws) ws.length (fun W => GrowR w W none) w') :
    CallsIn Fence.wide 6 Try.prog 83 #[.slice none 0 0, .func (.func 79) #[] lb] w (IntsOwn ws w) := by
  obtain ⟨i0, hi, hz0, hz1, hz2⟩ := info_parts Cp.intInfo
  have HS := Go.Lib.hid hseq
  clear hseq
  refine callsIn_of_wp_marks Try.func83 rfl trivial ?_ rfl
  simp only [Try.ntmps83, List.size_toArray, List.length_cons, List.length_nil, Nat.reduceAdd, Nat.reduceSub, Array.replicate_succ, Array.replicate_zero, List.push_toArray, List.append_toArray, List.nil_append, List.cons_append]
  gi_wp2
  have hB0 : Below w.heap.size w (w.alloc (.cells #[.slice none 0 0] 51)) := (Below.refl _ w).alloc (Nat.le_refl _) _
  have bN := Boxed.new w 51 (.slice none 0 0)
  have hr0 : (w.alloc (.cells #[.slice none 0 0] 51)).ownsRow w.heap.size 3 1 (.slice none 0 0) 0 [] := World.ownsRow_nil _ _ _ _
  have hsz : (w.alloc (.cells #[.slice none 0 0] 51)).heap.size = w.heap.size + 1 := by simp
  generalize w.alloc (.cells #[.slice none 0 0] 51) = W0 at *
  refine rangeG1 (T := T0) (Bs := 0) (G := fun W => GrowR w W none) rfl (by decide) (gf := 79) (lb := lb) rfl trivial (enters_of Try.func79 (by kernel_rfl) rfl)
    (by omega) (HS.out 0 W0)
    (fun (pre : List Nat) W => (∃ u, Boxed W w.heap.size 51 u ∧ W.ownsRow w.heap.size 3 1 u pre.length (Cp.ints pre) ∧ True) ∧ Below w.heap.size w W) (fun _ _ _ => False)
    (fun _ W h => growR_of_below h.2)
    (OwnT.and (OwnT.row rfl rfl 1 (fun (pre : List Nat) => pre.length) (fun (pre : List Nat) => Cp.ints pre) (fun _ _ => True)) (OwnT.below (Nat.le_refl _) hB0.size)) (fun _ _ _ _ _ hs _ _ => hs)
    ⟨⟨_, bN, hr0, trivial⟩, hB0⟩ ?round ?done ?stop
  case round =>
    clear bN hr0 hB0
    rintro l' pre x W ⟨⟨u, h1, h2, h3⟩, hB⟩ hlt hpre hl' hlW
    gi_wp2
    refine ⟨KeepsFrom.refl _ _, Kpt.refl _, ⟨⟨u, h1, h2, h3⟩, hB⟩, ?_⟩
    rintro V hg ⟨⟨u, hu, hro, _⟩, hBV⟩
    have hc := hu.cell
    have hpl : pre.length ≤ 90000 := by
      have := hpre.length_le
      simp at this
      omega
    have hBs2 := hBV.size
    clear h1 h2 h3 hB
    gi_wp2_with (gi_at_builtin; refine wpListIn_append_own _ rfl _ _ 51 rfl w.heap.size 3 i0 (.int .i64 0) 1 8 Try.underlying51 hi hz0 hz1 hz2 rfl (by decide) _ _ _ rfl (hro.alloc _) ⟨V.heap.size, 0, none⟩ 1 1 [.int .i64 ((x : Nat) : Int)] rfl rfl (cell_one_new _ _ _) (by intro u hu; simp at hu; subst hu; rfl) (by unfold maxLen; omega) (by omega) (by simp; omega) ?_; intro v' w2 hown' hgrow _; obtain ⟨g', cap', rfl⟩ := ownsRow_succ hown'; obtain ⟨hv1, hv2, hr2, hk2, hb2⟩ := hu.appended (by decide) hro hBV.size (by omega) hown' hgrow; have kk := kpt_append (T := T0) (Bs := 0) (by omega) hu (by omega) rfl rfl (by decide) hro (fun g hg => by have := (row_type hro g hg).1; omega) hgrow (v' := .slice (some ⟨g', 0, none⟩) (pre.length + 1) cap'); have hc1 := hv1.cell; have hf1 := hv1.frozen)
    refine ⟨hk2.from _, kk, ⟨⟨_, hv2, ?_, trivial⟩, hBV.trans hb2⟩⟩
    rw [Cp.ints_snoc, List.length_append]; exact hr2
  case done =>
    clear bN hr0 hB0
    rintro D xs W hD rfl ⟨⟨v, hv, hrow, _⟩, hB⟩ hK
    have hc := hv.cell
    gi_wp2
    refine ⟨by simp, .inl ⟨_, _, rfl, run_takeDeferred hK, ?_⟩⟩
    refine ⟨v, by simp [results, Try.results83, go_sem], v, rfl, ownsRow_putObj hrow _ hK rfl, hB.trans (belowK_b (w := w) (Nat.le_refl _) W D _ _ ?_ hK rfl rfl)⟩
    omega
  case stop =>
    rintro D c pre W _ _ h _
    exact h.elim
end Go.Proofs.Ytknbglcmjggkjaa
