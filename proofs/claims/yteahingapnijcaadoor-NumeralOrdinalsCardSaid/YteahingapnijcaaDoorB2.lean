/- Layer 9: writing to a Builder leaves all other blocks alone that are no rows of bytes. -/
import Derived.Test.YteahingapnijcaaDoorB1
namespace Go.Proofs.YteahingapnijcaaDoor
open Go.RowKit Go.Shelf Go.Lib

def KeptBut (b : Nat) (w w' : World) : Prop := ∀ k c t fr, t ≠ 5 → k ≠ b → w.heap[k]? = some (.cells c t fr) → w'.heap[k]? = some (.cells c t fr)
theorem KeptBut.refl (b : Nat) (w : World) : KeptBut b w w := fun _ _ _ _ _ _ h => h
theorem KeptBut.trans {b : Nat} {w w' w'' : World} (h : KeptBut b w w') (h' : KeptBut b w' w'') : KeptBut b w w'' := fun k c t fr h1 h2 h3 => h' k c t fr h1 h2 (h k c t fr h1 h2 h3)
theorem KeptBut.setCell (w : World) (b o : Nat) (v : Value) : KeptBut b w (w.setCell ⟨b, o, none⟩ v) := by
  intro k c t fr _ h2 h3
  have := (Below.refl 0 w).setCell (p := ⟨b, o, none⟩) (Nat.zero_le _) v
  unfold World.setCell
  simp only []
  rw [Array.getElem?_modify, if_neg (fun e => h2 e.symm)]
  exact h3
theorem KeptBut.grown {b base size n : Nat} {v : Value} {xs : List Value} {w w' : World} (h : w.ownsRowF base 5 size v n xs) (hg : w.grownBy w' v.ownBlock) : KeptBut b w w' := by
  intro k c t fr h1 h2 h3
  have hk : k < w.heap.size := (Array.getElem?_eq_some_iff.1 h3).1
  refine (hg.block k hk ?_).trans h3
  rcases h.2 with ⟨hv, _⟩ | ⟨g, cap, cur, fz, hv, hb, hgg, _⟩
  · subst hv; simp [Value.ownBlock]
  · subst hv
    intro e
    simp only [Value.ownBlock, Option.some.injEq] at e
    subst e
    rw [h3] at hgg
    cases hgg
    exact h1 rfl
theorem check_k (B b : Nat) (bs : List Value) (w : World) (h : Lib.IsBuilderF 59 5 B b bs w) :
    Calls Tryd.prog 61 #[.pointer (some ⟨b, 0, none⟩)] w fun e w' => e = .returned (.tuple #[]) ∧ (Lib.BuilderAtF 59 5 B b (.pointer (some ⟨b, 0, none⟩)) bs w' ∧ Below B w w' ∧ KeptBut b w w') := by
  rcases h with h | h
  · refine (check_fresh b w h.cell0 h.shape h.frozen0).mono ?_
    rintro e w' ⟨rfl, rfl⟩
    exact ⟨rfl, h.used _, (Below.refl B w).setCell (p := ⟨b, 0, none⟩) h.1 _, KeptBut.setCell w b 0 _⟩
  · refine (check_used b w h.cell0).mono ?_
    rintro e w' ⟨rfl, rfl⟩
    exact ⟨rfl, h, Below.refl B _, KeptBut.refl b _⟩

set_option maxRecDepth 100000 in
set_option maxHeartbeats 2000000 in
theorem write_k (B b : Nat) (bs : List Value) (s : ByteArray) (w : World) (h : Lib.IsBuilderF 59 5 B b bs w) (hlen : bs.length + s.size ≤ 100000000) (hBw : B ≤ w.heap.size) :
    Calls Tryd.prog 54 #[.pointer (some ⟨b, 0, none⟩), .string s] w fun e w' => e = .returned (.tuple #[.int .i64 s.size, .nilIface]) ∧ (Lib.BuilderAtF 59 5 B b (.pointer (some ⟨b, 0, none⟩)) (bs ++ Lib.strCells s) w' ∧ Below B w w' ∧ KeptBut b w w') := by
  obtain ⟨i0, hi, hz0, hz1, hz2⟩ := info_parts byteInfo
  go_enter Tryd.func54, Tryd.ntmps54
  go_wp2_with (go_at_call 61; refine (check_k B b bs _ h).mono ?_)
  rintro e w1 ⟨rfl, h1, hb1, hk1⟩
  have hk1 := Lib.hid hk1
  obtain ⟨hB, v, hbk, hown, hne⟩ := h1
  have c0 : w1.cell? ⟨b, 0, none⟩ = some (.pointer (some ⟨b, 0, none⟩)) := by rw [Lib.cell_of_heap hbk]; rfl
  have c1 : w1.cell? ⟨b, 1, none⟩ = some v := by rw [Lib.cell_of_heap hbk]; rfl
  go_wp2_with (at_builtin; refine Lib.wpList_append_own_stringF _ rfl _ _ 53 9 rfl B 5 i0 Tryd.underlying53 Tryd.underlying9 hi hz0 hz1 hz2 _ _ _ rfl hown s rfl ?c3 ?c4 ?c5 ?_)
  case c3 => unfold maxLen; omega
  case c4 => omega
  case c5 => have := hb1.size; omega
  intro v' w2 hown' hgrow _
  have hlt : b < w1.heap.size := (Array.getElem?_eq_some_iff.1 hbk).1
  have hb2 : w2.heap[b]? = some (.cells #[.pointer (some ⟨b, 0, none⟩), v] 59 (0, 0)) := by
    rw [hgrow.block b hlt (fun e => hne e.symm)]
    exact hbk
  have d0 : w2.cell? ⟨b, 0, none⟩ = some (.pointer (some ⟨b, 0, none⟩)) := by rw [Lib.cell_of_heap hb2]; rfl
  have d1 : w2.cell? ⟨b, 1, none⟩ = some v := by rw [Lib.cell_of_heap hb2]; rfl
  have f1 : w2.frozen? ⟨b, 1, none⟩ = false := Lib.frozen_of_heap hb2 1
  obtain ⟨ao, n', cap, rfl⟩ : ∃ ao n' cap, v' = .slice ao n' cap := by
    rcases hown'.2 with ⟨hv, _⟩ | ⟨g, cap, cur, fz, hv, _⟩
    · exact ⟨_, _, _, hv⟩
    · exact ⟨_, _, _, hv⟩
  go_wp2
  go_ret2
  refine ⟨rfl, ?_, ?_, ?_⟩
  · exact Lib.BuilderAtF.put (T := 59) (e := 5) hB hb2 (bs' := bs ++ Lib.strCells s) (by simpa [Lib.strCells_length] using hown') (by decide)
  · exact (hb1.grown hgrow (by have := hb1.size; omega) (fun k hk => (hown.lt k hk).1)).setCell (p := ⟨b, 1, none⟩) hB _
  · exact (hk1.out.trans (KeptBut.grown hown hgrow)).trans (KeptBut.setCell _ b 1 _)
end Go.Proofs.YteahingapnijcaaDoor
