import Derived.Test.YtigbmhddkcgjfaaDoorBd
namespace Go.Proofs.YtigbmhddkcgjfaaDoor
open Go.RowKit Go.Shelf Go.Lib
open Gc

attribute [local go_sem] Oper.semAt_some

def lastOf (pre : List (Nat × Nat)) : Nat := (pre.getLast?.map Prod.snd).getD 0
theorem lastOf_snoc (pre : List (Nat × Nat)) (x : Nat × Nat) : lastOf (pre ++ [x]) = x.2 := by simp [lastOf]
def flo (l : List (Nat × Nat)) (at' : Int) : Nat := lastOf (l.takeWhile fun x => decide ((x.2 : Int) ≤ at'))
def nxt (l : List (Nat × Nat)) (at' : Int) : Int := match l.find? (fun x => decide (at' < (x.2 : Int))) with
  | some x => x.2
  | none => at'
def AllLe (pre : List (Nat × Nat)) (at' : Int) : Prop := ∀ x ∈ pre, (x.2 : Int) ≤ at'
theorem AllLe.snoc {pre : List (Nat × Nat)} {at' : Int} (h : AllLe pre at') {x : Nat × Nat} (hx : (x.2 : Int) ≤ at') : AllLe (pre ++ [x]) at' := by
  intro y hy
  rcases List.mem_append.1 hy with hy | hy
  · exact h y hy
  · obtain rfl : y = x := by simpa using hy
    exact hx
theorem flo_all {l : List (Nat × Nat)} {at' : Int} (h : AllLe l at') : flo l at' = lastOf l := by
  unfold flo
  have e := List.takeWhile_append_of_pos (p := fun x : Nat × Nat => decide ((x.2 : Int) ≤ at')) (l₁ := l) (l₂ := []) (fun x hx => decide_eq_true (h x hx))
  rw [List.append_nil] at e
  rw [e]; simp
theorem flo_cut {l pre : List (Nat × Nat)} {x : Nat × Nat} {at' : Int} (h : AllLe pre at') (hx : at' < (x.2 : Int)) (hl : pre ++ [x] <+: l) : flo l at' = lastOf pre := by
  obtain ⟨t, rfl⟩ := hl
  unfold flo
  rw [List.append_assoc, List.takeWhile_append_of_pos (fun y hy => decide_eq_true (h y hy))]
  rw [show [x] ++ t = x :: t from rfl, List.takeWhile_cons_of_neg (by simp; omega), List.append_nil]
theorem nxt_all {l : List (Nat × Nat)} {at' : Int} (h : AllLe l at') : nxt l at' = at' := by
  unfold nxt
  rw [List.find?_eq_none.2 (fun x hx => by have := h x hx; simp; omega)]
theorem nxt_cut {l pre : List (Nat × Nat)} {x : Nat × Nat} {at' : Int} (h : AllLe pre at') (hx : at' < (x.2 : Int)) (hl : pre ++ [x] <+: l) : nxt l at' = x.2 := by
  obtain ⟨t, rfl⟩ := hl
  unfold nxt
  rw [List.append_assoc, List.find?_append, List.find?_eq_none.2 (fun y hy => by have := h y hy; simp; omega)]
  simp [hx]

set_option maxRecDepth 100000 in
set_option maxHeartbeats 2000000 in
theorem floor_in {s : ByteArray} {P : List Nat} (h : Str s P []) (at' : Int) (w : World) : CallsIn Fence.wide 6 Tryd.prog 43 #[.string s, .int .i64 at'] w (IntPost (flo (cls (cp P)) at' : Nat) w) := by
  refine callsIn_of_wp_marks Tryd.func43 rfl trivial ?_ rfl
  simp only [Tryd.ntmps43, List.size_toArray, List.length_cons, List.length_nil, Nat.reduceAdd, Nat.reduceSub, Array.replicate_succ, Array.replicate_zero, List.push_toArray, List.append_toArray, List.nil_append, List.cons_append]
  gi_wp2_with (refine ⟨trivial, ?_⟩; gi_at_call 37; refine (clusters_in s _ _).mono ?_; rintro e w2 ⟨rfl, rfl⟩)
  have hB0 : Below w.heap.size w (((w.alloc (.cells #[.int .i64 at'] 3)).alloc (.cells #[.int .i64 0] 3)).alloc (.cells #[.string s] 9)) := (((Below.refl _ w).alloc (Nat.le_refl _) _).alloc (by simp) _).alloc (by simp; omega) _
  have bA := Boxed.new w 3 (.int .i64 at')
  have bG := Boxed.new (w.alloc (.cells #[.int .i64 at'] 3)) 3 (.int .i64 0)
  have bS := Boxed.new ((w.alloc (.cells #[.int .i64 at'] 3)).alloc (.cells #[.int .i64 0] 3)) 9 (.string s)
  rw [World.size_alloc] at bG
  rw [World.size_alloc, World.size_alloc] at bS
  refine rangeT1 (T := TT) (Bs := w.heap.size + 1 + 1) rfl (by decide) (gf := 47) (lb := #[.pointer (some ⟨w.heap.size + 1 + 1, 0, none⟩)]) rfl trivial (enters_of Tryd.func47 (by kernel_rfl) rfl)
    (by simp) (iter_any 5 (by decide) (w.heap.size + 1 + 1) s P h.pts h.whole h.room _ bS)
    (fun pre W => Boxed W (w.heap.size + 1) 3 (.int .i64 (lastOf pre : Nat)) ∧ Boxed W w.heap.size 3 (.int .i64 at') ∧ AllLe pre at' ∧ Below w.heap.size w W)
    (fun c pre W => (c = .exit 0 ∧ ∃ pre' x, pre = pre' ++ [x] ∧ AllLe pre' at' ∧ at' < (x.2 : Int) ∧ Boxed W (w.heap.size + 1) 3 (.int .i64 (lastOf pre' : Nat))) ∧ Below w.heap.size w W)
    (OwnT.and (OwnT.boxed rfl _) (OwnT.and (OwnT.boxed rfl _) (OwnT.and OwnT.pure (OwnT.below (Nat.le_refl _) (by simp; omega)))))
    (fun c => OwnT.and (fun s A C row ⟨hc, pre', x, h1, h2, h3, h4⟩ hg hr => ⟨hc, pre', x, h1, h2, h3, h4.kept hg (not_turned h4 rfl hr)⟩) (OwnT.below (Nat.le_refl _) (by simp; omega)))
    ⟨bG.alloc _, (bA.alloc _).alloc _, fun _ h => (by cases h), hB0⟩ ?round ?done ?stop
  case round =>
    rintro l pre x W ⟨hG, hA, hle, hB⟩ hlt hl hlW
    unfold clV
    generalize s.extract (U.off P x.1) (U.off P x.2) = txt
    have hW1 := hB.size
    have hBs : w.heap.size + 1 + 1 < W.heap.size := by simp at hl; omega
    gi_wp2
    refine ⟨(KeepsOthers.alloc _ _).from _, Kpt.alloc hBs _, ⟨hG.alloc _, hA.alloc _, hle, hB.alloc hW1 _⟩, ?_⟩
    rintro V hg ⟨hG, hA, _, hBV⟩
    have hcx : V.cell? ⟨W.heap.size, 0, none⟩ = some (.int .i64 (x.2 : Nat)) := hg.cell (by simp) (fun e => by simp at e; omega)
    have hcG := hG.cell
    have hcA := hA.cell
    have hfG := hG.frozen
    have hVs : w.heap.size + 1 + 1 < V.heap.size := by have := hg.size; simp at this; omega
    by_cases hx : at' < (x.2 : Int)
    · gi_wp2
      exact ⟨KeepsFrom.refl _ _, ⟨rfl, pre, x, rfl, hle, hx, hG⟩, hBV⟩
    · gi_wp2
      refine ⟨(KeepsOthers.setCell _ _ _).from _, Kpt.boxed hVs hG (by omega) rfl _, ?_, hA.kept (grownBy_setCell' _ _ _) (by simp), hle.snoc (by omega), hBV.setCell (p := ⟨w.heap.size + 1, 0, none⟩) (by simp) _⟩
      rw [lastOf_snoc]
      exact hG.set _
  case done =>
    rintro D xs W hD rfl ⟨hG, hA, hle, hB⟩ hK
    have hc := hG.cell
    gi_wp2
    refine ⟨by simp, .inl ⟨_, _, rfl, run_takeDeferred hK, ?_⟩⟩
    refine ⟨_, results_tmp rfl _ _ _, ?_, hB.trans (belowK_b (w := w) (Nat.le_refl _) W D _ _ ?_ hK rfl rfl)⟩
    · rw [flo_all hle]; rfl
    · simp at hD
      omega
  case stop =>
    rintro D c pre W hD hpre ⟨⟨rfl, pre', x, rfl, hle, hx, hG⟩, hB⟩ hK
    have hc := hG.cell
    gi_wp2
    refine ⟨by simp, .inl ⟨_, _, rfl, run_takeDeferred hK, ?_⟩⟩
    refine ⟨_, results_tmp rfl _ _ _, ?_, hB.trans (belowK_b (w := w) (Nat.le_refl _) W D _ _ ?_ hK rfl rfl)⟩
    · rw [flo_cut hle hx hpre]; rfl
    · simp at hD
      omega
theorem floor_any {s : ByteArray} {P : List Nat} (h : Str s P []) (at' : Int) (w : World) : Calls Tryd.prog 43 #[.string s, .int .i64 at'] w (IntPost (flo (cls (cp P)) at' : Nat) w) := callsIn_wide.1 (floor_in h at' w)
end Go.Proofs.YtigbmhddkcgjfaaDoor
