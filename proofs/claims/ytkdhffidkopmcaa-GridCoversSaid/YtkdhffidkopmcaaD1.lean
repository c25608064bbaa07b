/- Layer 12, plain: which rectangle holds a square; what At says. -/
import Derived.Test.YtkdhffidkopmcaaM2
namespace Go.Proofs.Ytkdhffidkopmcaa
open Go.RowKit Go.Lib
set_option linter.unusedVariables false

/-- A rectangle holds a square. -/
def Hold (q : Gd.Rc) (i c : Nat) : Prop := q.row ≤ i ∧ i < q.bot ∧ q.left ≤ c ∧ c < q.right
section
variable {T : Gd.Tb} {rs : List Gd.Rc} {g : Nat → Nat → Option Nat} {q : Gd.Rc} {i c : Nat}
theorem Hold.has (h : Hold q i c) (hF : Gd.Fin T rs g) (hq : q ∈ rs) : ∃ m, Gd.Has T i q.left q.right m := by
  obtain ⟨⟨m, ha⟩, hlt, hk, hb⟩ := hF.cell q hq
  by_cases e : i = q.row
  · rw [e]; exact ⟨m, ha.has hlt⟩
  · exact ⟨_, (hb.2.2.1 i (by have := h.1; omega) h.2.1).has⟩
theorem Hold.row (h : Hold q i c) (hF : Gd.Fin T rs g) (hq : q ∈ rs) : q.row = Gd.top T q.left q.right i := by
  obtain ⟨_, _, hk, hb⟩ := hF.cell q hq
  exact Gd.top_unique h.1 hk fun x h1 h2 => hb.2.2.1 x h1 (by have := h.2.1; omega)
theorem Hold.idx (hT : Gd.TbOk T) (hF : Gd.Fin T rs g) {j j' : Nat} (hj : j < rs.length) (hj' : j' < rs.length) (h : Hold rs[j] i c) (h' : Hold rs[j'] i c) : j = j' := by
  obtain ⟨m, a⟩ := h.has hF (List.getElem_mem hj)
  obtain ⟨m', a'⟩ := h'.has hF (List.getElem_mem hj')
  obtain ⟨e1, e2, _⟩ := Gd.Has.disj hT a a' h.2.2.1 h.2.2.2 h'.2.2.1 h'.2.2.2
  have r1 := h.row hF (List.getElem_mem hj)
  have r2 := h'.row hF (List.getElem_mem hj')
  have er : rs[j].row = rs[j'].row := by rw [r1, r2, e1, e2]
  obtain ⟨⟨m1, c1⟩, l1, _, _⟩ := hF.cell _ (List.getElem_mem hj)
  obtain ⟨⟨m2, c2⟩, l2, _, _⟩ := hF.cell _ (List.getElem_mem hj')
  have ec : rs[j].cell = rs[j'].cell := by
    rw [← er, ← e1, ← e2] at c2
    exact c1.idx hT c2 l1 l1
  rcases Nat.lt_trichotomy j j' with k | k | k
  · have := List.pairwise_iff_getElem.1 hF.ord j j' hj hj' k; omega
  · exact k
  · have := List.pairwise_iff_getElem.1 hF.ord j' j hj' hj k; omega
theorem hold_of (hT : Gd.TbOk T) (hF : Gd.Fin T rs g) {f t : Nat} {m : Int} (h : Gd.Has T i f t m) (h1 : f ≤ c) (h2 : c < t) : ∃ j, ∃ hj : j < rs.length, Hold rs[j] i c := by
  obtain ⟨k, ha⟩ := h.at
  obtain ⟨j, q, _, hq, hl, hr, hrow, hb, _⟩ := hF.get hT ha (by omega)
  obtain ⟨hj, e⟩ := List.getElem?_eq_some_iff.1 hq
  exact ⟨j, hj, by rw [e]; exact ⟨by rw [hrow]; exact Gd.top_le _ _ _ _, hb.1, by omega, by omega⟩⟩
/-- How many of the first k rectangles hold a square: none, or one. -/
def HD (rs : List Gd.Rc) (i c k n : Nat) : Prop := (n = 0 ∧ ∀ j (h : j < rs.length), j < k → ¬ Hold rs[j] i c) ∨ (n = 1 ∧ ∃ j, ∃ h : j < rs.length, j < k ∧ Hold rs[j] i c)
theorem HD.zero (rs : List Gd.Rc) (i c : Nat) : HD rs i c 0 0 := .inl ⟨rfl, fun j h h' => absurd h' (Nat.not_lt_zero _)⟩
theorem HD.le {k n : Nat} (h : HD rs i c k n) : n ≤ 1 := by rcases h with ⟨h, _⟩ | ⟨h, _⟩ <;> omega
theorem HD.no {k n : Nat} (h : HD rs i c k n) (hk : k < rs.length) (hn : ¬ Hold rs[k] i c) : HD rs i c (k + 1) n := by
  rcases h with ⟨e, h⟩ | ⟨e, j, hj, hjk, h⟩
  · refine .inl ⟨e, fun j hj hjk => ?_⟩
    by_cases ej : j = k
    · subst ej; exact hn
    · exact h j hj (by omega)
  · exact .inr ⟨e, j, hj, by omega, h⟩
theorem HD.yes {k n : Nat} (h : HD rs i c k n) (hT : Gd.TbOk T) (hF : Gd.Fin T rs g) (hk : k < rs.length) (hy : Hold rs[k] i c) : HD rs i c (k + 1) (n + 1) := by
  rcases h with ⟨e, h⟩ | ⟨e, j, hj, hjk, h⟩
  · exact .inr ⟨by omega, k, hk, by omega, hy⟩
  · have := Hold.idx hT hF hj hk h hy
    omega
end
theorem HD.one {T : List (List Cl)} {rs : List Gd.Rc} {g : Nat → Nat → Option Nat} {i c n : Nat} (h : HD rs i c rs.length n) (hF : Gd.Fin (plT T) rs g) (hi : i < T.length) {k f t : Nat} {m : Int} (hx : (plR T[i])[k]? = some (f, t, m)) (h1 : f ≤ c) (h2 : c < t) : n = 1 := by
  rcases h with ⟨e, h⟩ | ⟨e, _⟩
  · obtain ⟨j, hj, hh⟩ := hold_of (plT_ok T) hF (⟨_, plT_get hi, List.mem_of_getElem? hx, by omega⟩ : Gd.Has (plT T) i f t m) h1 h2
    exact absurd hh (h j hj hj)
  · exact e
theorem HD.none {T : List (List Cl)} {rs : List Gd.Rc} {g : Nat → Nat → Option Nat} {i c n : Nat} (h : HD rs i c rs.length n) (hF : Gd.Fin (plT T) rs g) (hi : i < T.length) (hx : ∀ x ∈ plR T[i], ¬ (x.1 ≤ c ∧ c < x.2.1)) : n = 0 := by
  rcases h with ⟨e, _⟩ | ⟨e, j, hj, _, hh⟩
  · exact e
  · obtain ⟨m, L, h1, h2, _⟩ := hh.has hF (List.getElem_mem hj)
    rw [plT_get hi] at h1; cases h1
    exact absurd ⟨hh.2.2.1, hh.2.2.2⟩ (hx _ h2)
/-- What At says of a square of the grid. -/
theorem gat_of {T : List (List Cl)} {i c : Nat} {e : Ending} (h : GAtR T i c e) (hi : i < T.length) (hc : c < 32) :
    (∃ (k f t : Nat) (m : Int), (plR T[i])[k]? = some (f, t, m) ∧ f ≤ c ∧ c < t ∧ e = retP k 0) ∨ ((∀ x ∈ plR T[i], ¬ (x.1 ≤ c ∧ c < x.2.1)) ∧ e = retP 0 8) := by
  rcases h with ⟨h, _⟩ | ⟨i', hi', e1, _, _, h⟩
  · exfalso
    rcases h with h | h | h
    · exact h i rfl hi
    · omega
    · omega
  · obtain rfl : i = i' := by omega
    rcases h with ⟨k, hk, h1, h2, rfl⟩ | ⟨h1, rfl⟩
    · refine .inl ⟨k, (plR T[i])[k].1, (plR T[i])[k].2.1, (plR T[i])[k].2.2, List.getElem?_eq_getElem hk, ?_, by omega, rfl⟩
      have hk' : k < (T[i].map val).length := by rw [List.length_map, ← plR_len]; exact hk
      have g := Gd.cel_get (T[i].map val) 0 k hk'
      have g1 : (plR T[i])[k].1 = Gd.fin 0 ((T[i].map val).take k) := congrArg (·.1) g
      rw [g1]
      cases k with
      | zero => simp [Gd.fin]
      | succ k =>
        have g2 := Gd.cel_get (T[i].map val) 0 k (by omega)
        have h3 := h2 k (by omega) (by omega)
        have e3 : (plR T[i])[k].2.1 = Gd.fin 0 ((T[i].map val).take (k + 1)) := congrArg (·.2.1) g2
        rw [e3] at h3
        omega
    · refine .inr ⟨fun x hx hh => ?_, rfl⟩
      obtain ⟨j, hj, rfl⟩ := List.mem_iff_getElem.1 hx
      have := h1 j hj
      omega
end Go.Proofs.Ytkdhffidkopmcaa
