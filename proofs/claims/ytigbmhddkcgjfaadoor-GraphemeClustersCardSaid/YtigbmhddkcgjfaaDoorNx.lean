import Derived.Test.YtigbmhddkcgjfaaDoorMv
namespace Go.Proofs.YtigbmhddkcgjfaaDoor
open Go.RowKit Go.Shelf Go.Lib
open Gc

attribute [local go_sem] Oper.semAt_some

theorem boxed_below {W W' : World} {B : Nat} {t : TypeId} {v : Value} (h : Boxed W B t v) (hb : Below W.heap.size W W') : Boxed W' B t v := (hb.block B h.lt).trans h
theorem boxed_other {W : World} {B C : Nat} {t : TypeId} {v : Value} (h : Boxed W B t v) (hne : B ≠ C) (u : Value) : Boxed (W.setCell ⟨C, 0, none⟩ u) B t v := h.kept (grownBy_setCell' _ _ _) (by simp; exact hne)
theorem two_boxes {W : World} {B C : Nat} {t t' : TypeId} {u v : Value} (hB : Boxed W B t u) (hC : Boxed W C t' v) (hne : B ≠ C) (x y : Value) :
    Boxed ((W.setCell ⟨B, 0, none⟩ x).setCell ⟨C, 0, none⟩ y) B t x ∧ Boxed ((W.setCell ⟨B, 0, none⟩ x).setCell ⟨C, 0, none⟩ y) C t' y :=
  ⟨boxed_other (hB.set x) hne y, (boxed_other hC (Ne.symm hne) x).set y⟩

set_option maxRecDepth 100000 in
set_option maxHeartbeats 2000000 in
theorem next_err {s : ByteArray} {P : List Nat} {bad : List UInt8} (h : Str s P bad) (at' : Int) (w : World) (hT : Tabs w) (he : errOf P bad at' ≠ 0) :
    Calls Tryd.prog 24 #[.string s, .int .i64 at'] w (Pair2 (.int .i64 0) (.int .i64 (errOf P bad at')) w) := by
  have hB0 : Below w.heap.size w (((w.alloc (.cells #[.int .i64 at'] 3)).alloc (.cells #[.int .i64 0] 3)).alloc (.cells #[.int .i64 0] 27)) := (((Below.refl _ w).alloc (Nat.le_refl _) _).alloc (by simp) _).alloc (by simp; omega) _
  have cD := check_any h at' _ (hT.below hB0)
  have b4 := (Boxed.new (w.alloc (.cells #[.int .i64 at'] 3)) 3 (.int .i64 0)).alloc (.cells #[.int .i64 0] 27)
  have b5 := Boxed.new ((w.alloc (.cells #[.int .i64 at'] 3)).alloc (.cells #[.int .i64 0] 3)) 27 (.int .i64 0)
  rw [World.size_alloc] at b4
  rw [World.size_alloc, World.size_alloc] at b5
  generalize errOf P bad at' = c at he cD ⊢
  have hc0 : (c == 0) = false := by simp [he]
  clear he
  go_enter Tryd.func24, Tryd.ntmps24
  go_wp2_with (go_at_call 42; (with_reducible refine cD.mono ?_); rintro e w1 ⟨rfl, hb1⟩; have r4 := boxed_below b4 hb1; have r5 := boxed_below b5 hb1; have c4 := r4.cell; have c5 := r5.cell; have f4 := r4.frozen; have f5 := r5.frozen)
  have q := two_boxes r4 r5 (show w.heap.size + 1 ≠ w.heap.size + 1 + 1 by omega) (.int .i64 0) (.int .i64 c)
  have q4 := q.1.cell
  have q5 := q.2.cell
  have hz := hb1.size
  refine bodyPost_ret (v := .tuple #[.int .i64 0, .int .i64 c]) (by simp [results, Tryd.results24, go_sem, q4, q5]) rfl ⟨rfl, ?_⟩
  exact ((hB0.trans (hb1.mono (by simp; omega))).setCell (p := ⟨w.heap.size + 1, 0, none⟩) (by simp) _).setCell (p := ⟨w.heap.size + 1 + 1, 0, none⟩) (by simp; omega) _

set_option maxRecDepth 100000 in
set_option maxHeartbeats 2000000 in
theorem next_in {s : ByteArray} {P : List Nat} (h : Str s P []) (at' : Int) (w : World) (hT : Tabs w) (hr : 0 ≤ at' ∧ at' ≤ P.length) :
    CallsIn Fence.wide 6 Tryd.prog 24 #[.string s, .int .i64 at'] w (Pair2 (.int .i64 (nxt (cls (cp P)) at')) (.int .i64 0) w) := by
  have hB0 : Below w.heap.size w (((w.alloc (.cells #[.int .i64 at'] 3)).alloc (.cells #[.int .i64 0] 3)).alloc (.cells #[.int .i64 0] 27)) := (((Below.refl _ w).alloc (Nat.le_refl _) _).alloc (by simp) _).alloc (by simp; omega) _
  have cD := check_any h at' _ (hT.below hB0)
  rw [err_ok P at' hr] at cD
  have b3 := ((Boxed.new w 3 (.int .i64 at')).alloc (.cells #[.int .i64 0] 3)).alloc (.cells #[.int .i64 0] 27)
  have b4 := (Boxed.new (w.alloc (.cells #[.int .i64 at'] 3)) 3 (.int .i64 0)).alloc (.cells #[.int .i64 0] 27)
  have b5 := Boxed.new ((w.alloc (.cells #[.int .i64 at'] 3)).alloc (.cells #[.int .i64 0] 3)) 27 (.int .i64 0)
  rw [World.size_alloc] at b4
  rw [World.size_alloc, World.size_alloc] at b5
  refine callsIn_of_wp_marks Tryd.func24 rfl trivial ?_ rfl
  simp only [Tryd.ntmps24, List.size_toArray, List.length_cons, List.length_nil, Nat.reduceAdd, Nat.reduceSub, Array.replicate_succ, Array.replicate_zero, List.push_toArray, List.append_toArray, List.nil_append, List.cons_append]
  gi_wp2_with (first
    | (refine ⟨trivial, ?_⟩; gi_at_call 42; (with_reducible refine (callsIn_wide.2 cD).mono ?_); rintro e w1 ⟨rfl, hb1⟩)
    | (refine ⟨trivial, ?_⟩; gi_at_call 37; refine (clusters_in s _ _).mono ?_; rintro e w2 ⟨rfl, rfl⟩))
  have hz := hb1.size
  simp only [World.size_alloc] at hz
  have r3 := (boxed_below b3 hb1).alloc (.cells #[.string s] 9)
  have r4 := (boxed_below b4 hb1).alloc (.cells #[.string s] 9)
  have r5 := (boxed_below b5 hb1).alloc (.cells #[.string s] 9)
  have bS := Boxed.new w1 9 (.string s)
  have hB1 : Below w.heap.size w (w1.alloc (.cells #[.string s] 9)) := (hB0.trans (hb1.mono (by simp; omega))).alloc (by omega) _
  clear b3 b4 b5 hB0 hb1 cD
  refine rangeT1 (T := TT) (Bs := w1.heap.size) rfl (by decide) (gf := 47) (lb := #[.pointer (some ⟨w1.heap.size, 0, none⟩)]) rfl trivial (enters_of Tryd.func47 (by kernel_rfl) rfl)
    (by simp) (iter_any 5 (by decide) w1.heap.size s P h.pts h.whole h.room _ bS)
    (fun pre W => Boxed W w.heap.size 3 (.int .i64 at') ∧ Boxed W (w.heap.size + 1) 3 (.int .i64 0) ∧ Boxed W (w.heap.size + 1 + 1) 27 (.int .i64 0) ∧ AllLe pre at' ∧ Below w.heap.size w W)
    (fun c pre W => (c = .ret ∧ ∃ pre' x, pre = pre' ++ [x] ∧ AllLe pre' at' ∧ at' < (x.2 : Int) ∧ Boxed W (w.heap.size + 1) 3 (.int .i64 (x.2 : Nat)) ∧ Boxed W (w.heap.size + 1 + 1) 27 (.int .i64 0)) ∧ Below w.heap.size w W)
    (OwnT.and (OwnT.boxed rfl _) (OwnT.and (OwnT.boxed rfl _) (OwnT.and (OwnT.boxed rfl _) (OwnT.and OwnT.pure (OwnT.below (Nat.le_refl _) (by simp; omega))))))
    (fun c => OwnT.and (fun s A C row ⟨hc, pre', x, h1, h2, h3, h4, h5⟩ hg hr => ⟨hc, pre', x, h1, h2, h3, h4.kept hg (not_turned h4 rfl hr), h5.kept hg (not_turned h5 rfl hr)⟩) (OwnT.below (Nat.le_refl _) (by simp; omega)))
    ⟨r3, r4, r5, fun _ h => (by cases h), hB1⟩ ?round ?done ?stop
  case round =>
    clear r3 r4 r5 hB1
    rintro l pre x W ⟨h3, h4, h5, hle, hB⟩ hlt hl hlW
    unfold clV
    generalize s.extract (U.off P x.1) (U.off P x.2) = txt
    have hW1 := hB.size
    have hBs : w1.heap.size < W.heap.size := by simp at hl; omega
    gi_wp2
    refine ⟨(KeepsOthers.alloc _ _).from _, Kpt.alloc hBs _, ⟨h3.alloc _, h4.alloc _, h5.alloc _, hle, hB.alloc hW1 _⟩, ?_⟩
    rintro V hg ⟨h3, h4, h5, _, hBV⟩
    have hcx : V.cell? ⟨W.heap.size, 0, none⟩ = some (.int .i64 (x.2 : Nat)) := hg.cell (by simp) (fun e => by simp at e; omega)
    have hc3 := h3.cell
    have hc4 := h4.cell
    have hc5 := h5.cell
    have hf4 := h4.frozen
    have hf5 := h5.frozen
    by_cases hx : at' < (x.2 : Int)
    · gi_wp2
      have q := two_boxes h4 h5 (show w.heap.size + 1 ≠ w.heap.size + 1 + 1 by omega) (.int .i64 (x.2 : Nat)) (.int .i64 0)
      exact ⟨((KeepsOthers.setCell _ _ _).trans (KeepsOthers.setCell _ _ _)).from _, ⟨rfl, pre, x, rfl, hle, hx, q.1, q.2⟩, (hBV.setCell (p := ⟨w.heap.size + 1, 0, none⟩) (by simp) _).setCell (p := ⟨w.heap.size + 1 + 1, 0, none⟩) (by simp; omega) _⟩
    · gi_wp2
      exact ⟨KeepsFrom.refl _ _, Kpt.refl _, h3, h4, h5, hle.snoc (by omega), hBV⟩
  case done =>
    rintro D xs W hD rfl ⟨h3, h4, h5, hle, hB⟩ hK
    have hc3 := h3.cell
    have hc4 := h4.cell
    have hc5 := h5.cell
    have hf4 := h4.frozen
    have hf5 := h5.frozen
    have q := two_boxes h4 h5 (show w.heap.size + 1 ≠ w.heap.size + 1 + 1 by omega) (.int .i64 at') (.int .i64 0)
    have hBQ := (hB.setCell (p := ⟨w.heap.size + 1, 0, none⟩) (by simp) (.int .i64 at')).setCell (p := ⟨w.heap.size + 1 + 1, 0, none⟩) (by simp; omega) (.int .i64 0)
    have hK' := ((KeepsOthers.setCell W ⟨w.heap.size + 1, 0, none⟩ (.int .i64 at')).trans (KeepsOthers.setCell _ ⟨w.heap.size + 1 + 1, 0, none⟩ (.int .i64 0))).same D _ hK rfl
    gi_wp2
    refine ⟨by simp, .inl ⟨_, _, rfl, run_takeDeferred hK', ?_⟩⟩
    have q4 := cell_kept q.1.cell (grownBy_putObj' _ D (.deferred none)) (fun r e => by cases e; exact ⟨_, hK', rfl⟩)
    have q5 := cell_kept q.2.cell (grownBy_putObj' _ D (.deferred none)) (fun r e => by cases e; exact ⟨_, hK', rfl⟩)
    refine ⟨.tuple #[.int .i64 at', .int .i64 0], by simp [results, Tryd.results24, go_sem, q4, q5], by rw [nxt_all hle], hBQ.trans (belowK_b (w := w) (Nat.le_refl _) _ D _ _ (by simp at hD; omega) hK' rfl rfl)⟩
  case stop =>
    rintro D c pre W hD hpre ⟨⟨rfl, pre', x, rfl, hle, hx, h4, h5⟩, hB⟩ hK
    gi_wp2
    refine ⟨by simp, .inl ⟨_, _, rfl, run_takeDeferred hK, ?_⟩⟩
    have q4 := cell_kept h4.cell (grownBy_putObj' _ D (.deferred none)) (fun r e => by cases e; exact ⟨_, hK, rfl⟩)
    have q5 := cell_kept h5.cell (grownBy_putObj' _ D (.deferred none)) (fun r e => by cases e; exact ⟨_, hK, rfl⟩)
    refine ⟨.tuple #[.int .i64 (x.2 : Nat), .int .i64 0], by simp [results, Tryd.results24, go_sem, q4, q5], by rw [nxt_cut hle hx hpre], hB.trans (belowK_b (w := w) (Nat.le_refl _) W D _ _ (by simp at hD; omega) hK rfl rfl)⟩
theorem next_ok {s : ByteArray} {P : List Nat} (h : Str s P []) (at' : Int) (w : World) (hT : Tabs w) (hr : 0 ≤ at' ∧ at' ≤ P.length) :
    Calls Tryd.prog 24 #[.string s, .int .i64 at'] w (Pair2 (.int .i64 (nxt (cls (cp P)) at')) (.int .i64 0) w) := callsIn_wide.1 (next_in h at' w hT hr)
end Go.Proofs.YtigbmhddkcgjfaaDoor
