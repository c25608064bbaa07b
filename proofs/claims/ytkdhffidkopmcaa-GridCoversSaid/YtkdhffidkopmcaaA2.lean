/- Layer 12: tables in memory; spans (37). -/
import Derived.Test.YtkdhffidkopmcaaA1
import Derived.Test.YtkdhffidkopmcaaG2
import Derived.Deep.OwnRows
import Derived.IntWalk
namespace Go.Proofs.Ytkdhffidkopmcaa
open Go.RowKit Go.Lib
set_option linter.unusedVariables false

/-- A cell's properties, and how long its flow is. -/
structure Cl where
  props : List Pr
  flow : Nat
def val (x : Cl) : Int × Int := (getV x.props 60, getV x.props 61)
/-- A cell in memory. -/
def ClAt (w : World) (g o : Nat) (x : Cl) : Prop := ∃ (a0 a2 a3 : Int) (B : Option Addr) (c : Nat) (D : Option Addr) (dn dc : Nat) (Y : Option Addr) (yn yc : Nat) (F : Option Addr) (fc : Nat),
  w.cell? ⟨g, o, none⟩ = some (.int .i64 a0) ∧ w.cell? ⟨g, o + 1, none⟩ = some (.slice B x.props.length c) ∧ w.cell? ⟨g, o + 2, none⟩ = some (.int .i64 a2) ∧ w.cell? ⟨g, o + 3, none⟩ = some (.int .i64 a3) ∧ w.cell? ⟨g, o + 4, none⟩ = some (.slice D dn dc) ∧
  w.cell? ⟨g, o + 5, none⟩ = some (.slice Y yn yc) ∧ w.cell? ⟨g, o + 6, none⟩ = some (.slice F x.flow fc) ∧ x.props.length ≤ c ∧ c ≤ maxLen ∧ PrAt w B x.props
/-- Cells in memory. -/
def CsAt (w : World) (A : Option Addr) (r : List Cl) : Prop := r = [] ∨ ∃ g o, A = some ⟨g, o, none⟩ ∧ g < w.heap.size ∧ ∀ k (h : k < r.length), ClAt w g (o + k * 7) r[k]
/-- A row in memory. -/
def RwAt (w : World) (g o : Nat) (r : List Cl) : Prop := ∃ (a1 a2 : Int) (B : Option Addr) (n c : Nat) (D : Option Addr) (dn dc : Nat) (Y : Option Addr) (yn yc : Nat) (A : Option Addr) (k : Nat),
  w.cell? ⟨g, o, none⟩ = some (.slice B n c) ∧ w.cell? ⟨g, o + 1, none⟩ = some (.int .i64 a1) ∧ w.cell? ⟨g, o + 2, none⟩ = some (.int .i64 a2) ∧ w.cell? ⟨g, o + 3, none⟩ = some (.slice D dn dc) ∧ w.cell? ⟨g, o + 4, none⟩ = some (.slice Y yn yc) ∧
  w.cell? ⟨g, o + 5, none⟩ = some (.slice A r.length k) ∧ r.length ≤ k ∧ k ≤ maxLen ∧ CsAt w A r
/-- A table in memory. -/
def TbAt (w : World) (A : Option Addr) (T : List (List Cl)) : Prop := T = [] ∨ ∃ g o, A = some ⟨g, o, none⟩ ∧ g < w.heap.size ∧ ∀ i (h : i < T.length), RwAt w g (o + i * 6) T[i]
def GoodC (x : Cl) : Prop := SortP x.props ∧ x.props.length ≤ 8 ∧ x.flow ≤ 8
def GoodR (r : List Cl) : Prop := r.length ≤ 40 ∧ ∀ x ∈ r, GoodC x
def GoodT (T : List (List Cl)) : Prop := T.length ≤ 10 ∧ ∀ r ∈ T, GoodR r
/-- A row's cells by their columns. -/
def plR (r : List Cl) : List Gd.Ce := Gd.cel 0 (r.map val)
def plT (T : List (List Cl)) : Gd.Tb := T.map plR
theorem plR_len (r : List Cl) : (plR r).length = r.length := by unfold plR; rw [Gd.cel_len, List.length_map]
theorem plT_ok (T : List (List Cl)) : Gd.TbOk (plT T) := fun L h => by
  unfold plT at h
  obtain ⟨r, _, rfl⟩ := List.mem_map.1 h
  exact Gd.cel_ok _ (by omega)
theorem ClAt.below {w w' : World} {g o : Nat} {x : Cl} (h : ClAt w g o x) (hg : g < w.heap.size) (hb : Below w.heap.size w w') : ClAt w' g o x := by
  obtain ⟨a0, a2, a3, B, c, D, dn, dc, Y, yn, yc, F, fc, c0, c1, c2, c3, c4, c5, c6, h1, h2, h⟩ := h
  exact ⟨a0, a2, a3, B, c, D, dn, dc, Y, yn, yc, F, fc, (hb.cell (p := ⟨g, o, none⟩) hg).trans c0, (hb.cell (p := ⟨g, o + 1, none⟩) hg).trans c1, (hb.cell (p := ⟨g, o + 2, none⟩) hg).trans c2, (hb.cell (p := ⟨g, o + 3, none⟩) hg).trans c3,
    (hb.cell (p := ⟨g, o + 4, none⟩) hg).trans c4, (hb.cell (p := ⟨g, o + 5, none⟩) hg).trans c5, (hb.cell (p := ⟨g, o + 6, none⟩) hg).trans c6, h1, h2, h.below hb (Nat.le_refl _)⟩
theorem CsAt.below {w w' : World} {A : Option Addr} {r : List Cl} (h : CsAt w A r) (hb : Below w.heap.size w w') : CsAt w' A r := by
  rcases h with h | ⟨g, o, h1, h2, h3⟩
  · exact .inl h
  · exact .inr ⟨g, o, h1, Nat.lt_of_lt_of_le h2 hb.size, fun k hk => (h3 k hk).below h2 hb⟩
theorem RwAt.below {w w' : World} {g o : Nat} {r : List Cl} (h : RwAt w g o r) (hg : g < w.heap.size) (hb : Below w.heap.size w w') : RwAt w' g o r := by
  obtain ⟨a1, a2, B, n, c, D, dn, dc, Y, yn, yc, A, k, c0, c1, c2, c3, c4, c5, h1, h2, h⟩ := h
  exact ⟨a1, a2, B, n, c, D, dn, dc, Y, yn, yc, A, k, (hb.cell (p := ⟨g, o, none⟩) hg).trans c0, (hb.cell (p := ⟨g, o + 1, none⟩) hg).trans c1, (hb.cell (p := ⟨g, o + 2, none⟩) hg).trans c2, (hb.cell (p := ⟨g, o + 3, none⟩) hg).trans c3,
    (hb.cell (p := ⟨g, o + 4, none⟩) hg).trans c4, (hb.cell (p := ⟨g, o + 5, none⟩) hg).trans c5, h1, h2, h.below hb⟩
theorem TbAt.below {w w' : World} {A : Option Addr} {T : List (List Cl)} (h : TbAt w A T) (hb : Below w.heap.size w w') : TbAt w' A T := by
  rcases h with h | ⟨g, o, h1, h2, h3⟩
  · exact .inl h
  · exact .inr ⟨g, o, h1, Nat.lt_of_lt_of_le h2 hb.size, fun k hk => (h3 k hk).below h2 hb⟩

/-- A row of columns. -/
def spF (L : List Gd.Ce) (j : Nat) : Value := if j % 2 = 0 then .int .i64 ((L[j / 2]?.getD (0, 0, 0)).1 : Nat) else .int .i64 ((L[j / 2]?.getD (0, 0, 0)).2.1 : Nat)
def SpAt (w : World) (b : Nat) (s : Value) (L : List Gd.Ce) : Prop := ∃ g, s = .slice (some ⟨g, 0, none⟩) L.length L.length ∧ b ≤ g ∧ w.rowIs g 43 (L.length * 2) (spF L)
theorem SpAt.cells {w : World} {b : Nat} {s : Value} {L : List Gd.Ce} (h : SpAt w b s L) : ∃ g, s = .slice (some ⟨g, 0, none⟩) L.length L.length ∧ b ≤ g ∧ g < w.heap.size ∧
    ∀ k (hk : k < L.length), w.cell? ⟨g, k * 2, none⟩ = some (.int .i64 (L[k].1 : Nat)) ∧ w.cell? ⟨g, k * 2 + 1, none⟩ = some (.int .i64 (L[k].2.1 : Nat)) := by
  obtain ⟨g, h1, h2, h3⟩ := h
  refine ⟨g, h1, h2, h3.lt, fun k hk => ⟨?_, ?_⟩⟩
  · rw [h3.cell (by omega : k * 2 < _)]
    unfold spF
    rw [if_pos (by omega), show k * 2 / 2 = k by omega, List.getElem?_eq_getElem hk]; rfl
  · rw [h3.cell (by omega : k * 2 + 1 < _)]
    unfold spF
    rw [if_neg (by omega), show (k * 2 + 1) / 2 = k by omega, List.getElem?_eq_getElem hk]; rfl
theorem SpAt.below {w w' : World} {b : Nat} {s : Value} {L : List Gd.Ce} (h : SpAt w b s L) (hb : Below w.heap.size w w') : SpAt w' b s L := by
  obtain ⟨g, h1, h2, h3⟩ := h
  exact ⟨g, h1, h2, h3.of_block (hb.block g h3.lt)⟩
theorem info43 : (Try.prog.info? 43).map (fun i => (i.zero, i.size, i.bytes)) = some (some (.agg #[.int .i64 0, .int .i64 0]), 2, 16) := by kernel_rfl
theorem make_spans (n : Nat) (h : n ≤ 1000) (w : World) : (Instr.makeSlice 25 (.int .i64 (n : Nat)) (.int .i64 (n : Nat))).run Try.prog w = .ok (.slice (some ⟨w.heap.size, 0, none⟩) n n) (w.alloc (.cells (madeCells #[.int .i64 0, .int .i64 0] (n * 2)) 43)) := by
  obtain ⟨i, hi, hzz⟩ := Option.map_eq_some_iff.1 info43
  simp only [Prod.mk.injEq] at hzz
  obtain ⟨hz, hs, hb⟩ := hzz
  have hr := run_make (P := Try.prog) w 25 43 i _ Try.underlying25 hi hz .i64 .i64 n n (by omega) (Int.le_refl _) (by rw [hb]; omega) (by omega)
  simp only [Int.toNat_natCast, hs] at hr
  exact hr
theorem spans_made (w : World) (n : Nat) : (w.alloc (.cells (madeCells #[.int .i64 0, .int .i64 0] (n * 2)) 43)).rowIs w.heap.size 43 (n * 2) (fun _ => .int .i64 0) := by
  have h := World.rowIs_alloc w (madeCells #[.int .i64 0, .int .i64 0] (n * 2)) 43 (fun _ => .int .i64 0) (fun i hi => ?_)
  · rw [size_madeCells] at h; exact h
  · rw [size_madeCells] at hi
    unfold madeCells
    rw [Array.getElem?_map, Array.getElem?_range]
    simp [hi]
    have : i % 2 = 0 ∨ i % 2 = 1 := by omega
    rcases this with e | e <;> rw [e] <;> rfl
end Go.Proofs.Ytkdhffidkopmcaa
