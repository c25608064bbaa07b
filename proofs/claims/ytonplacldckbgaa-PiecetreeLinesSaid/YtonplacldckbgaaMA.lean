/- Layer 4: Replace (32). -/
import Derived.Test.YtonplacldckbgaaM9
namespace Go.Proofs.Ytonplacldckbgaa
open Go.RowKit Go.Lib Pt

/-- All is as it was below, but for one block. -/
structure But (b : Nat) (w w' : World) : Prop where
  os : w'.os = w.os
  tape : w'.tape = w.tape
  output : w'.output = w.output
  size : w.heap.size ≤ w'.heap.size
  block : ∀ k, k < w.heap.size → k ≠ b → w'.heap[k]? = w.heap[k]?
theorem But.of {b : Nat} {w w' : World} (h : Below w.heap.size w w') : But b w w' := ⟨h.os, h.tape, h.output, h.size, fun k hk _ => h.block k hk⟩
theorem But.trans {b : Nat} {w w' w'' : World} (h : But b w w') (k : But b w' w'') : But b w w'' :=
  ⟨k.os.trans h.os, k.tape.trans h.tape, k.output.trans h.output, Nat.le_trans h.size k.size, fun i hi hn => (k.block i (Nat.lt_of_lt_of_le hi h.size) hn).trans (h.block i hi hn)⟩
theorem But.cell {b : Nat} {w w' : World} (h : But b w w') {p : Addr} (hp : p.block < w.heap.size) (hn : p.block ≠ b) : w'.cell? p = w.cell? p := World.cell?_of_block (w := w) (h.block p.block hp hn)
theorem But.frozen {b : Nat} {w w' : World} (h : But b w w') {p : Addr} (hp : p.block < w.heap.size) (hn : p.block ≠ b) : w'.frozen? p = w.frozen? p := World.frozen?_of_block (w := w) (h.block p.block hp hn)
/-- Below a bound that the block lies above. -/
theorem But.below {b N : Nat} {w w' : World} (h : But b w w') (hN : N ≤ b) (hw : N ≤ w.heap.size) : Below N w w' := ⟨h.os, h.tape, h.output, h.size, fun k hk => h.block k (Nat.lt_of_lt_of_le hk hw) (Nat.ne_of_lt (Nat.lt_of_lt_of_le hk hN))⟩
theorem But.store {b i : Nat} {w w' : World} (h : Below w.heap.size w w') (u : Value) : But b w (w'.setCell ⟨b, i, none⟩ u) :=
  ⟨h.os, h.tape, h.output, by rw [World.size_setCell]; exact h.size, fun k hk hn => by rw [Below.heap_setCell w' ⟨b, i, none⟩ u k hn]; exact h.block k hk⟩
/-- A tree's nodes are as they were where a block of one cell alone may have changed. -/
theorem NAt.but {b : Nat} {w w' : World} (hb : But b w w') (h1 : w.cell? ⟨b, 1, none⟩ = none) {t : Tr} : ∀ {A}, NAt w t A → NAt w' t A := by
  induction t with
  | nil => exact fun h => h
  | node l p r il ir =>
    rintro A ⟨g, L, R, rfl, hg, ⟨c0, c1, c2, c3, c4, c5, c6, c7⟩, h3, h4⟩
    have hne : g ≠ b := by
      rintro rfl
      rw [h1] at c1
      cases c1
    exact ⟨g, L, R, rfl, Nat.lt_of_lt_of_le hg hb.size, ⟨(hb.cell hg hne).trans c0, (hb.cell hg hne).trans c1, (hb.cell hg hne).trans c2, (hb.cell hg hne).trans c3, (hb.cell hg hne).trans c4, (hb.cell hg hne).trans c5, (hb.cell hg hne).trans c6, (hb.cell hg hne).trans c7⟩, il h3, ir h4⟩
theorem TAt.but {b g : Nat} {w w' : World} {t : Tr} (hb : But b w w') (h1 : w.cell? ⟨b, 1, none⟩ = none) (hn : g ≠ b) (h : TAt w g t) : TAt w' g t := by
  obtain ⟨A, c0, c1, c2, c3, c4⟩ := h
  exact ⟨A, (hb.cell c3 hn).trans c0, (hb.cell c3 hn).trans c1, (hb.frozen c3 hn).trans c2, Nat.lt_of_lt_of_le c3 hb.size, NAt.but hb h1 c4⟩
/-- The tree behind a replacement. -/
def repT (t : Tr) (f k : Nat) (s : List UInt8) : Tr := aroundT (splitT t f).1 s (splitT (splitT t f).2 k).2
theorem repT_bytes (t : Tr) (f k : Nat) (s : List UInt8) : (repT t f k s).bytes = t.bytes.take f ++ s ++ t.bytes.drop (f + k) := by
  unfold repT
  rw [(aroundT_bp _ _ _).1, (splitT_bp t f).1, (splitT_bp (splitT t f).2 k).2.1, (splitT_bp t f).2.1, List.drop_drop]
theorem repT_pcs (t : Tr) (f k : Nat) (s : List UInt8) : (repT t f k s).pcs ≤ t.pcs + 3 := by
  unfold repT
  have h1 := (aroundT_bp (splitT t f).1 s (splitT (splitT t f).2 k).2).2
  have h2 := (splitT_bp t f).2.2
  have h3 := (splitT_bp (splitT t f).2 k).2.2
  omega
end Go.Proofs.Ytonplacldckbgaa
