import Derived.Test.YthjooopppidcfaaDoorMB
import Derived.Test.YthjooopppidcfaaDoorProg
import Derived.Ground.NamesProg
import Derived.WalkKit
import Derived.WalkMore
import Derived.Below
import Derived.Lib.Hide
import Derived.Laws.AppendOwn
import Derived.RangeFuncBox

namespace Go.Proofs.YthjooopppidcfaaDoor
open Go.RowKit
open Gc

theorem ret_bool {a b : Bool} (h : a = b) : Ending.returned (.bool a) = .returned (.bool b) := by rw [h]

theorem control_any (c : Int) (w : World) : Calls Tryd.prog 108 #[.int .i64 c] w fun e w' => e = .returned (.bool (Gc.control c)) ∧ w = w' := by
  generalize hK : Gc.control c = K
  unfold Gc.control at hK
  by_cases h1 : c = 1
  · subst h1
    have H := Go.Lib.hid hK; clear hK
    go_enter Tryd.func108, Tryd.ntmps108
    go_wp2
    go_ret
    exact ⟨ret_bool (by first | (rw [← H.out]; rfl) | (rw [← H.out, Bool.eq_iff_iff]; simp; done) | (rw [← H.out, Bool.eq_iff_iff]; simp; omega) | (rw [← H.out]; simp_all; done) | (rw [← H.out]; simp_all; rfl)), rfl⟩
  by_cases h2 : c = 2
  · subst h2
    have H := Go.Lib.hid hK; clear hK
    go_enter Tryd.func108, Tryd.ntmps108
    go_wp2
    go_ret
    exact ⟨ret_bool (by first | (rw [← H.out]; rfl) | (rw [← H.out, Bool.eq_iff_iff]; simp; done) | (rw [← H.out, Bool.eq_iff_iff]; simp; omega) | (rw [← H.out]; simp_all; done) | (rw [← H.out]; simp_all; rfl)), rfl⟩
  have H := Go.Lib.hid hK; clear hK
  have b1 : (c == 1) = false := by simp [h1]
  have b2 : (c == 2) = false := by simp [h2]
  go_enter Tryd.func108, Tryd.ntmps108
  go_wp2
  go_ret
  exact ⟨ret_bool (by first | (rw [← H.out]; rfl) | (rw [← H.out, Bool.eq_iff_iff]; simp; done) | (rw [← H.out, Bool.eq_iff_iff]; simp; omega) | (rw [← H.out]; simp_all; done) | (rw [← H.out]; simp_all; rfl)), rfl⟩

set_option maxHeartbeats 1000000 in
theorem syllable_any (a b : Int) (w : World) : Calls Tryd.prog 109 #[.int .i64 a, .int .i64 b] w fun e w' => e = .returned (.bool (syllable a b)) ∧ w = w' := by
  generalize hK : syllable a b = K
  unfold syllable at hK
  by_cases h1 : a = 8
  · subst h1
    have H := Go.Lib.hid hK; clear hK
    go_enter Tryd.func109, Tryd.ntmps109
    go_wp2
    all_goals (go_ret; exact ⟨ret_bool (by first | (rw [← H.out]; rfl) | (rw [← H.out, Bool.eq_iff_iff]; simp; done) | (rw [← H.out, Bool.eq_iff_iff]; simp; omega) | (rw [← H.out]; simp_all; done) | (rw [← H.out]; simp_all; rfl)), rfl⟩)
  by_cases h2 : a = 11 ∨ a = 9
  · rcases h2 with rfl | rfl
    all_goals
      have H := Go.Lib.hid hK; clear hK
      go_enter Tryd.func109, Tryd.ntmps109
      go_wp2
      all_goals (go_ret; exact ⟨ret_bool (by first | (rw [← H.out]; rfl) | (rw [← H.out, Bool.eq_iff_iff]; simp; done) | (rw [← H.out, Bool.eq_iff_iff]; simp; omega) | (rw [← H.out]; simp_all; done) | (rw [← H.out]; simp_all; rfl)), rfl⟩)
  by_cases h3 : a = 12 ∨ a = 10
  · rcases h3 with rfl | rfl
    all_goals
      have H := Go.Lib.hid hK; clear hK
      go_enter Tryd.func109, Tryd.ntmps109
      go_wp2
      all_goals (go_ret; exact ⟨ret_bool (by first | (rw [← H.out]; rfl) | (rw [← H.out, Bool.eq_iff_iff]; simp; done) | (rw [← H.out, Bool.eq_iff_iff]; simp; omega) | (rw [← H.out]; simp_all; done) | (rw [← H.out]; simp_all; rfl)), rfl⟩)
  have H := Go.Lib.hid hK; clear hK
  have n2 : ¬ a = 11 := by omega
  have n3 : ¬ a = 9 := by omega
  have n4 : ¬ a = 12 := by omega
  have n5 : ¬ a = 10 := by omega
  have b1 : (a == 8) = false := by simp [h1]
  have b2 : (a == 11) = false := by simp [n2]
  have b3 : (a == 9) = false := by simp [n3]
  have b4 : (a == 12) = false := by simp [n4]
  have b5 : (a == 10) = false := by simp [n5]
  go_enter Tryd.func109, Tryd.ntmps109
  go_wp2
  go_ret
  exact ⟨ret_bool (by first | (rw [← H.out]; rfl) | (rw [← H.out, Bool.eq_iff_iff]; simp; done) | (rw [← H.out, Bool.eq_iff_iff]; simp; omega) | (rw [← H.out]; simp_all; done) | (rw [← H.out]; simp_all; rfl)), rfl⟩

end Go.Proofs.YthjooopppidcfaaDoor

namespace Go.Proofs.YthjooopppidcfaaDoor
open Go.RowKit
open Gc
/-- The state's block: four cells. -/
def stV (s : St) : Array Value := #[.int .i64 s.last, .bool s.picture, .bool s.joined, .bool s.odd]
def StAt (w : World) (g : Nat) (s : St) : Prop := w.heap[g]? = some (.cells (stV s) 135 (0, 0))
theorem StAt.cells {w : World} {g : Nat} {s : St} (h : StAt w g s) : w.cell? ⟨g, 0, none⟩ = some (.int .i64 s.last) ∧ w.cell? ⟨g, 1, none⟩ = some (.bool s.picture) ∧ w.cell? ⟨g, 2, none⟩ = some (.bool s.joined) ∧ w.cell? ⟨g, 3, none⟩ = some (.bool s.odd) := by
  unfold StAt stV at h
  refine ⟨?_, ?_, ?_, ?_⟩ <;> simp [World.cell?, h]
theorem StAt.free {w : World} {g : Nat} {s : St} (h : StAt w g s) : ∀ i, w.frozen? ⟨g, i, none⟩ = false := by
  intro i
  unfold StAt at h
  simp [World.frozen?, h]
theorem rec_set {w : World} {g : Nat} {c : Array Value} {t : TypeId} (h : w.heap[g]? = some (.cells c t (0, 0))) (i : Nat) (v : Value) : (w.setCell ⟨g, i, none⟩ v).heap[g]? = some (.cells (c.setIfInBounds i v) t (0, 0)) := by
  obtain ⟨hlt, hk⟩ := Array.getElem?_eq_some_iff.1 h
  show (w.heap.modify g _)[g]? = _
  rw [Array.getElem?_eq_getElem (by rw [Array.size_modify]; exact hlt), Array.getElem_modify_self, hk]
  simp
theorem grown_set (W : World) (b i : Nat) (v : Value) : W.grownBy (W.setCell ⟨b, i, none⟩ v) (some b) :=
  ⟨rfl, rfl, rfl, (KeepsWalks.setCell W _ v).size, fun k _ hk => Below.heap_setCell _ _ _ k (fun e => hk (by rw [e]))⟩

theorem grown_trans {A B C : World} {row : Option Nat} (h : A.grownBy B row) (k : B.grownBy C row) : A.grownBy C row :=
  ⟨k.os.trans h.os, k.tape.trans h.tape, k.output.trans h.output, Nat.le_trans h.size k.size, fun i hi hne => (k.block i (Nat.lt_of_lt_of_le hi h.size) hne).trans (h.block i hi hne)⟩

def AddPost (g : Nat) (s : St) (w : World) (e : Ending) (w' : World) : Prop := e = .returned (.tuple #[]) ∧ StAt w' g s ∧ w.grownBy w' (some g)

theorem add_fin {w : World} {g : Nat} {s s' : St} (h : StAt w g s) {v0 v1 v2 v3 : Value} (e : stV s' = #[v0, v1, v2, v3]) :
    AddPost g s' w (.returned (.tuple #[])) ((((w.setCell ⟨g, 2, none⟩ v2).setCell ⟨g, 1, none⟩ v1).setCell ⟨g, 3, none⟩ v3).setCell ⟨g, 0, none⟩ v0) := by
  refine ⟨rfl, ?_, grown_trans (grown_trans (grown_trans (grown_set _ g _ _) (grown_set _ g _ _)) (grown_set _ g _ _)) (grown_set _ g _ _)⟩
  have h1 := rec_set (rec_set (rec_set (rec_set h 2 v2) 1 v1) 3 v3) 0 v0
  unfold StAt
  rw [h1, e]
  rfl

set_option maxHeartbeats 1000000 in
theorem add_any (g : Nat) (s : St) (c : Int) (w : World) (h : StAt w g s) : Calls Tryd.prog 102 #[.pointer (some ⟨g, 0, none⟩), .int .i64 c] w (AddPost g (s.add c) w) := by
  obtain ⟨c0, c1, c2, c3⟩ := h.cells
  have f0 := h.free 0
  have f1 := h.free 1
  have f2 := h.free 2
  have f3 := h.free 3
  have H := Go.Lib.hid h; clear h
  obtain ⟨l, p, j, o⟩ := s
  dsimp only at c0 c1 c2 c3
  cases p <;> cases o
  all_goals
    go_enter Tryd.func102, Tryd.ntmps102
    go_wp2
    all_goals
      go_end0
      refine add_fin H.out ?_
      first | (simp_all [stV, St.add]; done) | (simp_all [stV, St.add]; rfl) | (simp_all [stV, St.add]; constructor <;> (rw [Bool.eq_iff_iff]; simp; try omega))
end Go.Proofs.YthjooopppidcfaaDoor

namespace Go.Proofs.YthjooopppidcfaaDoor
open Go.RowKit
open Gc

def BoolPost (v : Bool) (w : World) (e : Ending) (w' : World) : Prop := e = .returned (.bool v) ∧ Below w.heap.size w w'
theorem BoolPost.mk {v u : Bool} (w : World) (h : v = u) : BoolPost v w (.returned (.bool u)) w := ⟨by rw [h], Below.refl _ _⟩

set_option maxRecDepth 100000 in
set_option maxHeartbeats 2000000 in
theorem boundary_any (g : Nat) (s : St) (b : Int) (w : World) (h : StAt w g s) : Calls Tryd.prog 101 #[.pointer (some ⟨g, 0, none⟩), .int .i64 b] w (BoolPost (s.boundary b) w) := by
  obtain ⟨c0, c1, c2, c3⟩ := h.cells
  clear h
  obtain ⟨l, p, j, o⟩ := s
  dsimp only at c0 c1 c2 c3
  by_cases h1 : l = 1
  · subst h1
    by_cases h2 : b = 2
    · subst h2
      have H := Go.Lib.hid (show St.boundary ⟨1, p, j, o⟩ 2 = false from rfl)
      generalize St.boundary ⟨1, p, j, o⟩ 2 = K at H ⊢
      go_enter Tryd.func101, Tryd.ntmps101
      go_wp2
      go_ret
      exact BoolPost.mk _ H.out
    · have hK : St.boundary ⟨1, p, j, o⟩ b = true := by
        unfold St.boundary
        dsimp only
        rw [if_neg (fun h => h2 h.2), if_pos]
        rfl
      have H := Go.Lib.hid hK
      generalize St.boundary ⟨1, p, j, o⟩ b = K at H ⊢
      clear hK
      have kl := fun w => control_any 1 w
      have e1 : Gc.control 1 = true := rfl
      rw [e1] at kl
      have b2 : (b == 2) = false := by simp [h2]
      clear e1
      go_enter Tryd.func101, Tryd.ntmps101
      go_wp2_with (go_at_call 108; (with_reducible refine (kl _).mono ?_); rintro e w' ⟨rfl, rfl⟩)
      go_ret
      exact BoolPost.mk _ H.out
  have kl := fun w => control_any l w
  have kb := fun w => control_any b w
  have ks := fun w => syllable_any l b w
  generalize hK : St.boundary ⟨l, p, j, o⟩ b = K
  unfold St.boundary at hK
  dsimp only at hK
  rw [if_neg (fun h => h1 h.1)] at hK
  generalize Gc.control l = cl at kl hK
  generalize Gc.control b = cb at kb hK
  generalize Gc.syllable l b = sl at ks hK
  have b1 : (l == 1) = false := by simp [h1]
  have N1 := Go.Lib.hid h1
  clear h1
  cases cl with
  | true =>
    have H := Go.Lib.hid hK; clear hK kb ks
    go_enter Tryd.func101, Tryd.ntmps101
    go_wp2_with (go_at_call 108; (with_reducible refine (kl _).mono ?_); rintro e w' ⟨rfl, rfl⟩)
    go_ret
    exact BoolPost.mk _ (by rw [← H.out]; rfl)
  | false =>
  cases cb with
  | true =>
    have H := Go.Lib.hid hK; clear hK ks
    go_enter Tryd.func101, Tryd.ntmps101
    go_wp2_with (first
      | (go_at_call 108; (with_reducible refine (kl _).mono ?_); rintro e w' ⟨rfl, rfl⟩)
      | (go_at_call 108; (with_reducible refine (kb _).mono ?_); rintro e w' ⟨rfl, rfl⟩))
    go_ret
    exact BoolPost.mk _ (by rw [← H.out]; rfl)
  | false =>
  cases sl with
  | true =>
    have H := Go.Lib.hid hK; clear hK
    go_enter Tryd.func101, Tryd.ntmps101
    go_wp2_with (first
      | (go_at_call 108; (with_reducible refine (kl _).mono ?_); rintro e w' ⟨rfl, rfl⟩)
      | (go_at_call 108; (with_reducible refine (kb _).mono ?_); rintro e w' ⟨rfl, rfl⟩)
      | (go_at_call 109; (with_reducible refine (ks _).mono ?_); rintro e w' ⟨rfl, rfl⟩))
    go_ret
    exact BoolPost.mk _ (by rw [← H.out]; rfl)
  | false =>
    rw [if_neg (by simp), if_neg (by simp)] at hK
    by_cases h4 : b = 4 ∨ b = 5 ∨ b = 7
    · rw [if_pos h4] at hK
      have H := Go.Lib.hid hK; clear hK
      rcases h4 with rfl | rfl | rfl
      all_goals
        go_enter Tryd.func101, Tryd.ntmps101
        go_wp2_with (first
          | (go_at_call 108; (with_reducible refine (kl _).mono ?_); rintro e w' ⟨rfl, rfl⟩)
          | (go_at_call 108; (with_reducible refine (kb _).mono ?_); rintro e w' ⟨rfl, rfl⟩)
          | (go_at_call 109; (with_reducible refine (ks _).mono ?_); rintro e w' ⟨rfl, rfl⟩))
        go_ret
        exact BoolPost.mk _ H.out.symm
    · rw [if_neg h4] at hK
      have n4 : (b == 4) = false := by simp; omega
      have n5 : (b == 5) = false := by simp; omega
      have n7 : (b == 7) = false := by simp; omega
      have N4 := Go.Lib.hid h4
      clear h4
      by_cases h6 : l = 6
      · subst h6
        rw [if_pos rfl] at hK
        have H := Go.Lib.hid hK; clear hK
        go_enter Tryd.func101, Tryd.ntmps101
        go_wp2_with (first
          | (go_at_call 108; (with_reducible refine (kl _).mono ?_); rintro e w' ⟨rfl, rfl⟩)
          | (go_at_call 108; (with_reducible refine (kb _).mono ?_); rintro e w' ⟨rfl, rfl⟩)
          | (go_at_call 109; (with_reducible refine (ks _).mono ?_); rintro e w' ⟨rfl, rfl⟩))
        go_ret
        exact BoolPost.mk _ H.out.symm
      · rw [if_neg h6] at hK
        have n6 : (l == 6) = false := by simp [h6]
        have N6 := Go.Lib.hid h6
        clear h6
        have H := Go.Lib.hid hK; clear hK
        cases j <;> cases o
        all_goals
          go_enter Tryd.func101, Tryd.ntmps101
          go_wp2_with (first
            | (go_at_call 108; (with_reducible refine (kl _).mono ?_); rintro e w' ⟨rfl, rfl⟩)
            | (go_at_call 108; (with_reducible refine (kb _).mono ?_); rintro e w' ⟨rfl, rfl⟩)
            | (go_at_call 109; (with_reducible refine (ks _).mono ?_); rintro e w' ⟨rfl, rfl⟩))
          all_goals
            go_ret
            exact BoolPost.mk _ (by rw [← H.out]; simp_all)
end Go.Proofs.YthjooopppidcfaaDoor
