/- Layer 12: marks of loops that have ended; boxes of areas under a range. -/
import Derived.Test.YtkdhffidkopmcaaH4
namespace Go.Proofs.Ytkdhffidkopmcaa
open Go.RowKit Go.Lib Go.Maps
open Rg (SeqG rangeG2 Kpt OwnT AbT postT)
set_option linter.unusedVariables false

/-- The marks of loops that have ended. -/
def mkD (D : Nat) : Deferred := { target := .collected D, args := #[] }
def Marks (lo : Nat) (Ds : List Nat) (W : World) : Prop := Ds.Nodup ∧ ∀ D ∈ Ds, lo ≤ D ∧ W.heap[D]? = some (.deferred (some []))
theorem leaves_marks {F : Fence} {n : Nat} {P : Program} {fn : Func} {tmps : Array Value} {R : Ending → World → Prop} {lo : Nat} (K : World → Prop) (hK : ∀ W D, K W → lo ≤ D → W.heap[D]? = some (.deferred (some [])) → K (W.putObj D (.deferred none)))
    (hR : ∀ W, K W → LeavesIn F n P fn tmps R [] .returning W) : ∀ (Ds : List Nat) (W : World), K W → Marks lo Ds W → LeavesInM F n P fn tmps R (Ds.map mkD) .returning W := by
  intro Ds
  induction Ds with
  | nil => intro W h _; exact hR W h
  | cons D Ds ih =>
    intro W h hM
    obtain ⟨h1, h2⟩ := hM
    obtain ⟨h3, h4⟩ := h2 D (List.mem_cons_self ..)
    refine ⟨by simp, .inl ⟨D, _, rfl, run_takeDeferred h4, ih _ (hK W D h h3 h4) ⟨(List.nodup_cons.1 h1).2, fun D' hD' => ?_⟩⟩⟩
    obtain ⟨h5, h6⟩ := h2 D' (List.mem_cons_of_mem _ hD')
    have hne : D' ≠ D := fun e => (List.nodup_cons.1 h1).1 (e ▸ hD')
    exact ⟨h5, (World.putObj_heap_other hne).trans h6⟩
theorem Marks.lt {lo : Nat} {Ds : List Nat} {W : World} (h : Marks lo Ds W) : ∀ D ∈ Ds, D < W.heap.size := fun D hD => (Array.getElem?_eq_some_iff.1 (h.2 D hD).2).1
theorem Marks.grown {lo : Nat} {Ds : List Nat} {W W' : World} {row : Option Nat} (h : Marks lo Ds W) (hg : W.grownBy W' row) (hr : ∀ D ∈ Ds, some D ≠ row) : Marks lo Ds W' :=
  ⟨h.1, fun D hD => ⟨(h.2 D hD).1, (hg.block D (h.lt D hD) (hr D hD)).trans (h.2 D hD).2⟩⟩
theorem Marks.alloc {lo : Nat} {Ds : List Nat} {W : World} (h : Marks lo Ds W) (o : Obj) : Marks lo Ds (W.alloc o) := h.grown (World.grownBy_alloc W o none) (fun _ _ e => by cases e)
theorem Marks.below {lo : Nat} {Ds : List Nat} {W W' : World} (h : Marks lo Ds W) (hb : Below W.heap.size W W') : Marks lo Ds W' :=
  h.grown (Rg.grown_below hb rfl) (fun _ _ e => by cases e)
theorem Marks.snoc {lo D : Nat} {Ds : List Nat} {W : World} (h : Marks lo Ds W) (hD : lo ≤ D) (hK : W.heap[D]? = some (.deferred (some []))) (hn : D ∉ Ds) : Marks lo (D :: Ds) W :=
  ⟨List.nodup_cons.2 ⟨hn, h.1⟩, fun D' hD' => by
    rcases List.mem_cons.1 hD' with rfl | hD'
    · exact ⟨hD, hK⟩
    · exact h.2 D' hD'⟩
theorem own_marks {T : TypeId → Bool} {B : Nat} {β : Type} {lo : Nat} {Ds : List Nat} (h : ∀ D ∈ Ds, D < B) : OwnT T B (fun (_ : β) W => Marks lo Ds W) := by
  rintro s A C row hM hg hr
  exact hM.grown hg (fun D hD e => by have := (hr D e.symm).1; have := h D hD; omega)
theorem below_putM {B : Nat} {w W : World} {D : Nat} (h : Below B w W) (hD : B ≤ D) (o : Obj) : Below B w (W.putObj D o) :=
  ⟨h.os, h.tape, h.output, by have := h.size; simpa [World.putObj] using this, fun k hk => (World.putObj_heap_other (by omega)).trans (h.block k hk)⟩
theorem ownsRow_putM {w : World} {base : Nat} {v : Value} {n : Nat} {xs : List Value} {e : TypeId} {sz : Nat} (h : w.ownsRow base e sz v n xs) {D : Nat} {o o' : Obj} (hD : w.heap[D]? = some o') (ho : o'.isCells = false) : (w.putObj D o).ownsRow base e sz v n xs := by
  refine h.kept (grownBy_putObj' w D o) ?_
  rcases h.2 with ⟨rfl, _⟩ | ⟨g, cap, cur, rfl, _, hg, _⟩
  · exact .inl rfl
  · refine .inr fun e => ?_
    have : g = D := by simpa [Value.ownBlock] using e
    subst this
    rw [hg] at hD; cases hD; cases ho
theorem obj_putM {w : World} {b : Nat} {c : Array Value} {t : TypeId} (h : ObjAt w b c t) {D : Nat} {o o' : Obj} (hD : w.heap[D]? = some o') (ho : o'.isCells = false) : ObjAt (w.putObj D o) b c t := by
  refine h.kept (grownBy_putObj' w D o) fun e => ?_
  have : b = D := by simpa using e
  subst this
  have h' : w.heap[b]? = some (.cells c t (0, 0)) := h
  rw [h'] at hD; cases hD; cases ho
/-- A box of four that holds some area is not what the iterator turns. -/
theorem own_area {T : TypeId → Bool} {B G : Nat} {β : Type} (ht : T 48 = false) (P : β → Ar → Prop) : OwnT T B (fun (s : β) W => ∃ z : Ar, ObjAt W G #[.int .i64 (z.t : Nat), .int .i64 (z.l : Nat), .int .i64 (z.b : Nat), .int .i64 (z.r : Nat)] 48 ∧ P s z) := by
  rintro s A C row ⟨z, h, hp⟩ hg hr
  exact ⟨z, h.kept hg (Rg.not_turned h ht hr), hp⟩
theorem grown_set (W : World) (b i : Nat) (u : Value) : W.grownBy (W.setCell ⟨b, i, none⟩ u) (some b) :=
  ⟨rfl, rfl, rfl, by simp [World.setCell], fun k hk hne => Below.heap_setCell W ⟨b, i, none⟩ u k (by rintro rfl; exact hne rfl)⟩
theorem marks_set {lo b : Nat} {Ds : List Nat} {W : World} (h : Marks lo Ds W) {c : Array Value} {t : TypeId} (ho : ObjAt W b c t) (i : Nat) (u : Value) : Marks lo Ds (W.setCell ⟨b, i, none⟩ u) := by
  refine h.grown (grown_set _ _ _ _) fun D hD e => ?_
  have : D = b := by simpa using e
  subst this
  have h' : W.heap[D]? = some (.cells c t (0, 0)) := ho
  have := (h.2 D hD).2
  rw [h'] at this; cases this
theorem marks_set4 {lo b : Nat} {Ds : List Nat} {W : World} (h : Marks lo Ds W) {u0 u1 u2 u3 : Value} {t : TypeId} (ho : ObjAt W b #[u0, u1, u2, u3] t) (v0 v1 v2 v3 : Value) : Marks lo Ds ((((W.setCell ⟨b, 0, none⟩ v0).setCell ⟨b, 1, none⟩ v1).setCell ⟨b, 2, none⟩ v2).setCell ⟨b, 3, none⟩ v3) :=
  marks_set (marks_set (marks_set (marks_set h ho 0 v0) (ho.set 0 v0) 1 v1) ((ho.set 0 v0).set 1 v1) 2 v2) (((ho.set 0 v0).set 1 v1).set 2 v2) 3 v3
theorem own_set4 {w : World} {base : Nat} {v : Value} {n : Nat} {xs : List Value} {e : TypeId} {sz b : Nat} (hv : w.ownsRow base e sz v n xs) (hne : some b ≠ v.ownBlock) (u0 u1 u2 u3 : Value) : ((((w.setCell ⟨b, 0, none⟩ u0).setCell ⟨b, 1, none⟩ u1).setCell ⟨b, 2, none⟩ u2).setCell ⟨b, 3, none⟩ u3).ownsRow base e sz v n xs :=
  own_set (own_set (own_set (own_set hv (a := ⟨b, 0, none⟩) hne u0) (a := ⟨b, 1, none⟩) hne u1) (a := ⟨b, 2, none⟩) hne u2) (a := ⟨b, 3, none⟩) hne u3
theorem obj_other4 {W : World} {b C : Nat} {c : Array Value} {t : TypeId} (h : ObjAt W b c t) (hne : b ≠ C) (u0 u1 u2 u3 : Value) : ObjAt ((((W.setCell ⟨C, 0, none⟩ u0).setCell ⟨C, 1, none⟩ u1).setCell ⟨C, 2, none⟩ u2).setCell ⟨C, 3, none⟩ u3) b c t :=
  (((h.other hne 0 u0).other hne 1 u1).other hne 2 u2).other hne 3 u3
theorem keeps_set4 (W : World) (C : Nat) (u0 u1 u2 u3 : Value) : KeepsOthers W ((((W.setCell ⟨C, 0, none⟩ u0).setCell ⟨C, 1, none⟩ u1).setCell ⟨C, 2, none⟩ u2).setCell ⟨C, 3, none⟩ u3) :=
  (((KeepsOthers.setCell _ _ _).trans (KeepsOthers.setCell _ _ _)).trans (KeepsOthers.setCell _ _ _)).trans (KeepsOthers.setCell _ _ _)
theorem kpt_set4 {T : TypeId → Bool} {Bs C : Nat} {W : World} {u0 u1 u2 u3 v0 v1 v2 v3 : Value} {t : TypeId} (hBs : Bs < W.heap.size) (h : ObjAt W C #[v0, v1, v2, v3] t) (hne : C ≠ Bs) (ht : T t = false) : Kpt T Bs W ((((W.setCell ⟨C, 0, none⟩ u0).setCell ⟨C, 1, none⟩ u1).setCell ⟨C, 2, none⟩ u2).setCell ⟨C, 3, none⟩ u3) := by
  have key : ∀ (V : World) (c : Array Value) (i : Nat) (u : Value), Bs < V.heap.size → ObjAt V C c t → Kpt T Bs V (V.setCell ⟨C, i, none⟩ u) := fun V c i u hB ho =>
    Kpt.of_grownBy hB (grown_set _ C i u) (fun r e => by
      have : C = r := by simpa using e
      subst this
      exact ⟨hne, _, ho, ht⟩)
  have h1 := h.set 0 u0
  have h2 := h1.set 1 u1
  have h3 := h2.set 2 u2
  have z : ∀ (V : World) (a : Addr) (u : Value), (V.setCell a u).heap.size = V.heap.size := fun V a u => by simp [World.setCell]
  exact (((key W _ 0 u0 hBs h).trans (key _ _ 1 u1 (by rw [z]; exact hBs) h1)).trans (key _ _ 2 u2 (by rw [z, z]; exact hBs) h2)).trans (key _ _ 3 u3 (by rw [z, z, z]; exact hBs) h3)
end Go.Proofs.Ytkdhffidkopmcaa
