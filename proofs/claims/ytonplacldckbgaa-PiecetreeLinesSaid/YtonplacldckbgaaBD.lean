/- Layer 4: writing to a Builder leaves all other blocks alone that are no rows of bytes, be they cells or not. -/
import Derived.Test.YtonplacldckbgaaBB
import Derived.Test.YtonplacldckbgaaG2
namespace Go.Proofs.Ytonplacldckbgaa
open Go.RowKit Go.Shelf Go.Lib

def KeptO (b : Nat) (w w' : World) : Prop := ∀ k o, (∀ c fr, o ≠ .cells c 5 fr) → k ≠ b → w.heap[k]? = some o → w'.heap[k]? = some o
theorem KeptO.refl (b : Nat) (w : World) : KeptO b w w := fun _ _ _ _ h => h
theorem KeptO.trans {b : Nat} {w w' w'' : World} (h : KeptO b w w') (h' : KeptO b w' w'') : KeptO b w w'' := fun k o h1 h2 h3 => h' k o h1 h2 (h k o h1 h2 h3)
theorem KeptO.setCell (w : World) (b o : Nat) (v : Value) : KeptO b w (w.setCell ⟨b, o, none⟩ v) := by
  intro k c _ h2 h3
  exact (Below.heap_setCell _ _ _ k h2).trans h3
theorem KeptO.grown {b base size n : Nat} {v : Value} {xs : List Value} {w w' : World} (h : w.ownsRowF base 5 size v n xs) (hg : w.grownBy w' v.ownBlock) : KeptO b w w' := by
  intro k o h1 h2 h3
  have hk : k < w.heap.size := (Array.getElem?_eq_some_iff.1 h3).1
  refine (hg.block k hk ?_).trans h3
  rcases h.2 with ⟨hv, _⟩ | ⟨g, cap, cur, fz, hv, hb, hgg, _⟩
  · subst hv; simp [Value.ownBlock]
  · subst hv
    intro e
    simp only [Value.ownBlock, Option.some.injEq] at e
    subst e
    rw [h3] at hgg
    cases hgg
    exact h1 _ _ rfl
theorem check_o (B b : Nat) (bs : List Value) (w : World) (h : Lib.IsBuilderF 82 5 B b bs w) :
    Calls Try.prog 57 #[.pointer (some ⟨b, 0, none⟩)] w fun e w' => e = .returned (.tuple #[]) ∧ (Lib.BuilderAtF 82 5 B b (.pointer (some ⟨b, 0, none⟩)) bs w' ∧ Below B w w' ∧ KeptO b w w') := by
  rcases h with h | h
  · refine (check_fresh b w h.cell0 h.shape h.frozen0).mono ?_
    rintro e w' ⟨rfl, rfl⟩
    exact ⟨rfl, h.used _, (Below.refl B w).setCell (p := ⟨b, 0, none⟩) h.1 _, KeptO.setCell w b 0 _⟩
  · refine (check_used b w h.cell0).mono ?_
    rintro e w' ⟨rfl, rfl⟩
    exact ⟨rfl, h, Below.refl B _, KeptO.refl b _⟩

set_option maxRecDepth 100000 in
set_option maxHeartbeats 2000000 in
theorem write_o (B b : Nat) (bs : List Value) (s : ByteArray) (w : World) (h : Lib.IsBuilderF 82 5 B b bs w) (hlen : bs.length + s.size ≤ 100000000) (hBw : B ≤ w.heap.size) :
    Calls Try.prog 45 #[.pointer (some ⟨b, 0, none⟩), .string s] w fun e w' => e = .returned (.tuple #[.int .i64 s.size, .nilIface]) ∧ (Lib.BuilderAtF 82 5 B b (.pointer (some ⟨b, 0, none⟩)) (bs ++ Lib.strCells s) w' ∧ Below B w w' ∧ KeptO b w w') := by
  obtain ⟨i0, hi, hz0, hz1, hz2⟩ := info_parts byteInfo
  go_enter Try.func45, Try.ntmps45
  go_wp2_with (go_at_call 57; refine (check_o B b bs _ h).mono ?_)
  rintro e w1 ⟨rfl, h1, hb1, hk1⟩
  have hk1 := Lib.hid hk1
  obtain ⟨hB, v, hbk, hown, hne⟩ := h1
  have c0 : w1.cell? ⟨b, 0, none⟩ = some (.pointer (some ⟨b, 0, none⟩)) := by rw [Lib.cell_of_heap hbk]; rfl
  have c1 : w1.cell? ⟨b, 1, none⟩ = some v := by rw [Lib.cell_of_heap hbk]; rfl
  go_wp2_with (at_builtin; refine Lib.wpList_append_own_stringF _ rfl _ _ 43 9 rfl B 5 i0 Try.underlying43 Try.underlying9 hi hz0 hz1 hz2 _ _ _ rfl hown s rfl ?c3 ?c4 ?c5 ?_)
  case c3 => unfold maxLen; omega
  case c4 => omega
  case c5 => have := hb1.size; omega
  intro v' w2 hown' hgrow _
  have hlt : b < w1.heap.size := (Array.getElem?_eq_some_iff.1 hbk).1
  have hb2 : w2.heap[b]? = some (.cells #[.pointer (some ⟨b, 0, none⟩), v] 82 (0, 0)) := by
    rw [hgrow.block b hlt (fun e => hne e.symm)]
    exact hbk
  have d0 : w2.cell? ⟨b, 0, none⟩ = some (.pointer (some ⟨b, 0, none⟩)) := by rw [Lib.cell_of_heap hb2]; rfl
  have d1 : w2.cell? ⟨b, 1, none⟩ = some v := by rw [Lib.cell_of_heap hb2]; rfl
  have f1 : w2.frozen? ⟨b, 1, none⟩ = false := Lib.frozen_of_heap hb2 1
  obtain ⟨ao, n', cap, rfl⟩ : ∃ ao n' cap, v' = .slice ao n' cap := by
    rcases hown'.2 with ⟨hv, _⟩ | ⟨g, cap, cur, fz, hv, _⟩
    · exact ⟨_, _, _, hv⟩
    · exact ⟨_, _, _, hv⟩
  go_wp2
  go_ret2
  refine ⟨rfl, ?_, ?_, ?_⟩
  · exact Lib.BuilderAtF.put (T := 82) (e := 5) hB hb2 (bs' := bs ++ Lib.strCells s) (by simpa [Lib.strCells_length] using hown') (by decide)
  · exact (hb1.grown hgrow (by have := hb1.size; omega) (fun k hk => (hown.lt k hk).1)).setCell (p := ⟨b, 1, none⟩) hB _
  · exact (hk1.out.trans (KeptO.grown hown hgrow)).trans (KeptO.setCell _ b 1 _)
/-- A builder abides what a range turns. -/
theorem OwnT.builder {T : TypeId → Bool} {B N b : Nat} {β : Type} (h1 : T 82 = false) (h2 : T 5 = false) (f : β → List Value) : OwnT T B (fun s W => IsBuilderF 82 5 N b (f s) W) := by
  have key : ∀ (p : Value) (s : β) (A C : World) (row : Option Nat), BuilderAtF 82 5 N b p (f s) A → A.grownBy C row → (∀ r, row = some r → B ≤ r ∧ ∃ o : Obj, A.heap[r]? = some o ∧ (mine T o = true ∨ o.isCells = false)) → BuilderAtF 82 5 N b p (f s) C := by
    rintro p s A C row ⟨hN, v, hb, hown, hne⟩ hg hr
    refine ⟨hN, v, (hg.block b (Array.getElem?_eq_some_iff.1 hb).1 (not_turned hb h1 hr)).trans hb, hown.kept hg ?_, hne⟩
    rcases hown.2 with ⟨rfl, _⟩ | ⟨g, cap, cur, fz, rfl, _, hgb, _⟩
    · exact .inl rfl
    · exact .inr (not_turned hgb h2 hr)
  rintro s A C row (h | h) hg hr
  · exact .inl (key _ s A C row h hg hr)
  · exact .inr (key _ s A C row h hg hr)
theorem keeps_o {B b : Nat} {w w' : World} (hs : w.heap.size ≤ w'.heap.size) (h : KeptO b w w') (hc : ∀ o : Obj, w.heap[b]? = some o → o.isCells = true) : KeepsFrom B w w' :=
  ⟨hs, fun k o _ hk ho => h k o (fun c fr e => by rw [e] at ho; cases ho) (fun e => by subst e; rw [hc o hk] at ho; cases ho) hk⟩
end Go.Proofs.Ytonplacldckbgaa
