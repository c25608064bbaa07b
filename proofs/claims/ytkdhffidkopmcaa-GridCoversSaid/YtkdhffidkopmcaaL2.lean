/- Layer 12: the law of rectangles (4). -/
import Derived.Test.YtkdhffidkopmcaaL1
namespace Go.Proofs.Ytkdhffidkopmcaa
open Go.RowKit Go.Lib Go.Maps
set_option linter.unusedVariables false

/-- How many rectangles start ahead of the cell k of row i. -/
def Ahead (rs : List Gd.Rc) (i k n : Nat) : Prop := n ≤ rs.length ∧ ∀ j (h : j < rs.length), (j < n ↔ Gd.Pr i k rs[j].row rs[j].cell)
theorem Ahead.zero (rs : List Gd.Rc) : Ahead rs 0 0 0 := ⟨Nat.zero_le _, fun j h => by unfold Gd.Pr; omega⟩
theorem Ahead.skip {T : Gd.Tb} {rs : List Gd.Rc} {f : Nat → Nat → Option Nat} (hF : Gd.Fin T rs f) {i k n : Nat} (h : Ahead rs i k n) (hno : ∀ q ∈ rs, ¬ (q.row = i ∧ q.cell = k)) : Ahead rs i (k + 1) n := by
  refine ⟨h.1, fun j hj => ?_⟩
  have := hno rs[j] (List.getElem_mem hj)
  rw [h.2 j hj]
  unfold Gd.Pr
  omega
theorem Ahead.rowEnd {T : Gd.Tb} {L : List Gd.Ce} {rs : List Gd.Rc} {f : Nat → Nat → Option Nat} (hF : Gd.Fin T rs f) {i n : Nat} (hL : T[i]? = some L) (h : Ahead rs i L.length n) : Ahead rs (i + 1) 0 n := by
  refine ⟨h.1, fun j hj => ?_⟩
  rw [h.2 j hj]
  obtain ⟨⟨m, L', h1, h2⟩, _⟩ := hF.cell rs[j] (List.getElem_mem hj)
  have h3 := (List.getElem?_eq_some_iff.1 h2).1
  unfold Gd.Pr
  constructor
  · intro h; omega
  · intro h
    by_cases e : rs[j].row = i
    · rw [e, hL] at h1; cases h1; omega
    · omega
/-- The next rectangle is the one of this cell. -/
theorem Ahead.next {T : Gd.Tb} {rs : List Gd.Rc} {f : Nat → Nat → Option Nat} (hF : Gd.Fin T rs f) {i k n : Nat} (h : Ahead rs i k n) {q : Gd.Rc} (hq : q ∈ rs) (e1 : q.row = i) (e2 : q.cell = k) : ∃ hn : n < rs.length, rs[n] = q ∧ Ahead rs i (k + 1) (n + 1) := by
  obtain ⟨j, hj, hje⟩ := List.mem_iff_getElem.1 hq
  have hnj : ¬ j < n := fun hl => by
    have := (h.2 j hj).1 hl
    rw [hje, e1, e2] at this
    unfold Gd.Pr at this; omega
  have hn : n < rs.length := by omega
  have hjn : j = n := by
    rcases Nat.lt_or_eq_of_le (show n ≤ j by omega) with c | c
    · exfalso
      have hlt := List.pairwise_iff_getElem.1 hF.ord n j hn hj c
      rw [hje, e1, e2] at hlt
      have : ¬ Gd.Pr i k rs[n].row rs[n].cell := fun hp => absurd ((h.2 n hn).2 hp) (Nat.lt_irrefl _)
      unfold Gd.Pr at this
      omega
    · exact c.symm
  subst hjn
  refine ⟨hj, hje, by omega, fun j2 hj2 => ?_⟩
  constructor
  · intro hl
    by_cases e : j2 = j
    · subst e; rw [hje, e1, e2]; unfold Gd.Pr; omega
    · have := (h.2 j2 hj2).1 (by omega)
      unfold Gd.Pr at this ⊢; omega
  · intro hp
    by_cases hlt : j2 < j + 1
    · exact hlt
    · exfalso
      have h1 := List.pairwise_iff_getElem.1 hF.ord j j2 hj hj2 (by omega)
      rw [hje, e1, e2] at h1
      unfold Gd.Pr at hp
      omega
theorem Ahead.all {T : Gd.Tb} {rs : List Gd.Rc} {f : Nat → Nat → Option Nat} (hF : Gd.Fin T rs f) {n : Nat} (h : Ahead rs T.length 0 n) : n = rs.length := by
  rcases Nat.lt_or_eq_of_le h.1 with c | c
  · exfalso
    obtain ⟨⟨m, L', h1, _⟩, _⟩ := hF.cell rs[n] (List.getElem_mem c)
    have h2 := (List.getElem?_eq_some_iff.1 h1).1
    have := (h.2 n c).2 (.inl h2)
    omega
  · exact c
end Go.Proofs.Ytkdhffidkopmcaa
