/- Layer 5: appendRun, where the run goes on. -/
import Derived.Test.YtioehncdkdfcmaaA4
import Derived.Laws.Tables
namespace Go.Proofs.Ytioehncdkdfcmaa
open Go.RowKit Go.Lib

theorem rowR_len (l : List Rn) : (rowR l).length = l.length * 3 := by
  unfold rowR
  induction l with
  | nil => rfl
  | cons x l ih => rw [List.flatMap_cons, List.length_append, ih, List.length_cons]; simp; omega
theorem rowR_last {L : List Rn} {k : Nat} (hL : L.length = k) (a b z y : Int) : (rowR (L ++ [(a, b, z)])).set (k * 3 + 1) (.int .i64 y) = rowR (L ++ [(a, y, z)]) := by
  rw [rowR_snoc, rowR_snoc, List.set_append_right _ _ (by rw [rowR_len, hL]; omega), rowR_len, hL, show k * 3 + 1 - k * 3 = 1 by omega]
  rfl
theorem own_last {w : World} {base g k c : Nat} {L : List Rn} {a b z y : Int} (h : w.ownsRow base 34 3 (.slice (some ⟨g, 0, none⟩) (k + 1) c) (k + 1) (rowR (L ++ [(a, b, z)]))) (hL : L.length = k) :
    (w.setCell ⟨g, k * 3 + 1, none⟩ (.int .i64 y)).ownsRow base 34 3 (.slice (some ⟨g, 0, none⟩) (k + 1) c) (k + 1) (rowR (L ++ [(a, y, z)])) := by
  rcases h.2 with ⟨hv, h0⟩ | ⟨g', cap, cur, hv, hb, hg, hc1, hc2, hsz, htk⟩
  · cases hv
  · injection hv with e1 _ e2
    injection e1 with e1
    injection e1 with e1 _ _
    subst e1 e2
    have hset := rowR_last hL a b z y
    refine ⟨by rw [rowR_len, List.length_append, hL]; rfl, .inr ⟨g, c, cur.set! (k * 3 + 1) (.int .i64 y), rfl, hb, ?_, hc1, hc2, ?_, ?_⟩⟩
    · rw [setCell_eq_setRow w g (k * 3 + 1) cur 34 (0, 0) _ hg]
      exact setRow_heap w g _ _ 34 _ hg
    · simp [hsz]
    · rw [← hset, ← htk]
      simp [List.take_set]
set_option maxRecDepth 100000 in
set_option maxHeartbeats 8000000 in
theorem append_join (base g k c : Nat) (L : List Rn) (a b x y z : Int) (w : World) (hown : w.ownsRow base 34 3 (.slice (some ⟨g, 0, none⟩) (k + 1) c) (k + 1) (rowR (L ++ [(a, b, z)]))) (hL : L.length = k) (hb : base ≤ w.heap.size) (hr : x < y) (hn : k + 1 ≤ 2000000) :
    Calls Try.prog 48 #[.slice (some ⟨g, 0, none⟩) (k + 1) c, rnV (x, y, z)] w fun e w' => e = .returned (.slice (some ⟨g, 0, none⟩) (k + 1) c) ∧ w'.ownsRow base 34 3 (.slice (some ⟨g, 0, none⟩) (k + 1) c) (k + 1) (rowR (L ++ [(a, y, z)])) ∧ Below base w w' := by
  unfold rnV
  dsimp only
  have hkl : k < (L ++ [(a, b, z)]).length := by rw [List.length_append, hL]; simp
  obtain ⟨e0, e1, e2⟩ := rowR_get (L ++ [(a, b, z)]) k hkl
  have hlast : (L ++ [(a, b, z)])[k] = (a, b, z) := by rw [List.getElem_append_right (by omega)]; simp
  rw [hlast] at e1 e2
  dsimp only at e1 e2
  have hgl := (hown.lt g rfl).2
  have hgb := (hown.lt g rfl).1
  have ow0 : (w.alloc (.cells #[.int .i64 x, .int .i64 y, .int .i64 z] 34)).ownsRow base 34 3 (.slice (some ⟨g, 0, none⟩) (k + 1) c) (k + 1) (rowR (L ++ [(a, b, z)])) := hown.alloc _
  have d1 := (ow0.cellAt (k * 3 + 1) (by omega)).trans e1
  have d2 := (ow0.cellAt (k * 3 + 2) (by omega)).trans e2
  have f1 := ow0.frozenAt (k * 3 + 1)
  have b0 : Below base w (w.alloc (.cells #[.int .i64 x, .int .i64 y, .int .i64 z] 34)) := (Below.refl _ w).alloc hb _
  have hfin := fun nq => own_last (y := y) (show ((w.alloc (.cells #[.int .i64 x, .int .i64 y, .int .i64 z] 34)).drewN nq).ownsRow base 34 3 (.slice (some ⟨g, 0, none⟩) (k + 1) c) (k + 1) (rowR (L ++ [(a, b, z)])) from ow0) hL
  have hbel := fun nq => (bdrew b0 nq).setCell (p := ⟨g, k * 3 + 1, none⟩) hgb (.int .i64 y)
  have HF := Go.Lib.hid hfin
  have HB := Go.Lib.hid hbel
  clear hfin hbel b0 ow0 e0 e1 e2 hlast hkl hown
  have q1 : (0 : Int) ≤ (k : Int) := by omega
  have q2 : (k : Int) < (k : Int) + 1 := by omega
  have q4 : IntKind.i64.wrap (k : Int) = k := IntWalk.i64_in _ (by omega)
  go_enter Try.func48, Try.ntmps48
  go_wp2
  go_quiet (fail)
  have d1q : ((w.alloc (.cells #[.int .i64 x, .int .i64 y, .int .i64 z] 34)).drewN nq).cell? ⟨g, k * 3 + 1, none⟩ = some (.int .i64 b) := d1
  have f1q := f1
  go_wp2
  go_ret
  exact ⟨rfl, HF.out _, HB.out _⟩
end Go.Proofs.Ytioehncdkdfcmaa
