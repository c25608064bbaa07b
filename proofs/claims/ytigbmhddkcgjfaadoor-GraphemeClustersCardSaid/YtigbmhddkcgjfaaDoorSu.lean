import Derived.Test.YtigbmhddkcgjfaaDoorSt
namespace Go.Proofs.YtigbmhddkcgjfaaDoor
open Go.RowKit
open Gc
/-- The state's block: four cells. -/
def stV (s : St) : Array Value := #[.int .i64 s.last, .bool s.picture, .bool s.joined, .bool s.odd]
def StAt (w : World) (g : Nat) (s : St) : Prop := w.heap[g]? = some (.cells (stV s) 85 (0, 0))
theorem StAt.cells {w : World} {g : Nat} {s : St} (h : StAt w g s) : w.cell? ⟨g, 0, none⟩ = some (.int .i64 s.last) ∧ w.cell? ⟨g, 1, none⟩ = some (.bool s.picture) ∧ w.cell? ⟨g, 2, none⟩ = some (.bool s.joined) ∧ w.cell? ⟨g, 3, none⟩ = some (.bool s.odd) := by
  unfold StAt stV at h
  refine ⟨?_, ?_, ?_, ?_⟩ <;> simp [World.cell?, h]
theorem StAt.free {w : World} {g : Nat} {s : St} (h : StAt w g s) : ∀ i, w.frozen? ⟨g, i, none⟩ = false := by
  intro i
  unfold StAt at h
  simp [World.frozen?, h]
theorem rec_set {w : World} {g : Nat} {c : Array Value} {t : TypeId} (h : w.heap[g]? = some (.cells c t (0, 0))) (i : Nat) (v : Value) : (w.setCell ⟨g, i, none⟩ v).heap[g]? = some (.cells (c.setIfInBounds i v) t (0, 0)) := by
  obtain ⟨hlt, hk⟩ := Array.getElem?_eq_some_iff.1 h
  show (w.heap.modify g _)[g]? = _
  rw [Array.getElem?_eq_getElem (by rw [Array.size_modify]; exact hlt), Array.getElem_modify_self, hk]
  simp
theorem grown_set (W : World) (b i : Nat) (v : Value) : W.grownBy (W.setCell ⟨b, i, none⟩ v) (some b) :=
  ⟨rfl, rfl, rfl, (KeepsWalks.setCell W _ v).size, fun k _ hk => Below.heap_setCell _ _ _ k (fun e => hk (by rw [e]))⟩

theorem grown_trans {A B C : World} {row : Option Nat} (h : A.grownBy B row) (k : B.grownBy C row) : A.grownBy C row :=
  ⟨k.os.trans h.os, k.tape.trans h.tape, k.output.trans h.output, Nat.le_trans h.size k.size, fun i hi hne => (k.block i (Nat.lt_of_lt_of_le hi h.size) hne).trans (h.block i hi hne)⟩

def AddPost (g : Nat) (s : St) (w : World) (e : Ending) (w' : World) : Prop := e = .returned (.tuple #[]) ∧ StAt w' g s ∧ w.grownBy w' (some g)

theorem add_fin {w : World} {g : Nat} {s s' : St} (h : StAt w g s) {v0 v1 v2 v3 : Value} (e : stV s' = #[v0, v1, v2, v3]) :
    AddPost g s' w (.returned (.tuple #[])) ((((w.setCell ⟨g, 2, none⟩ v2).setCell ⟨g, 1, none⟩ v1).setCell ⟨g, 3, none⟩ v3).setCell ⟨g, 0, none⟩ v0) := by
  refine ⟨rfl, ?_, grown_trans (grown_trans (grown_trans (grown_set _ g _ _) (grown_set _ g _ _)) (grown_set _ g _ _)) (grown_set _ g _ _)⟩
  have h1 := rec_set (rec_set (rec_set (rec_set h 2 v2) 1 v1) 3 v3) 0 v0
  unfold StAt
  rw [h1, e]
  rfl

set_option maxHeartbeats 1000000 in
theorem add_any (g : Nat) (s : St) (c : Int) (w : World) (h : StAt w g s) : Calls Tryd.prog 49 #[.pointer (some ⟨g, 0, none⟩), .int .i64 c] w (AddPost g (s.add c) w) := by
  obtain ⟨c0, c1, c2, c3⟩ := h.cells
  have f0 := h.free 0
  have f1 := h.free 1
  have f2 := h.free 2
  have f3 := h.free 3
  have H := Go.Lib.hid h; clear h
  obtain ⟨l, p, j, o⟩ := s
  dsimp only at c0 c1 c2 c3
  cases p <;> cases o
  all_goals
    go_enter Tryd.func49, Tryd.ntmps49
    go_wp2
    all_goals
      go_end0
      refine add_fin H.out ?_
      first | (simp_all [stV, St.add]; done) | (simp_all [stV, St.add]; rfl) | (simp_all [stV, St.add]; constructor <;> (rw [Bool.eq_iff_iff]; simp; try omega))
end Go.Proofs.YtigbmhddkcgjfaaDoor
