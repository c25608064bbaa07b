/- Layer 8: rows of styles of one's own. -/
import Derived.Test.YtbkpokipibgdfaaNG
import Derived.Test.YtbkpokipibgdfaaNE
import Derived.Test.YtbkpokipibgdfaaNL
import Derived.Test.YtbkpokipibgdfaaND
import Derived.Deep.Slices
namespace Go.Proofs.Ytbkpokipibgdfaa
open Go.RowKit Go.Lib
set_option linter.unusedVariables false

/-- A style with the place of its properties. -/
abbrev Sa : Type := St × Option Addr × Nat
instance : Inhabited Sa := ⟨(default, none, 0)⟩
def rowA1 (x : Sa) : List Value := [.int .i64 x.1.id, .int .i64 x.1.kind, .string x.1.name, .int .i64 x.1.base, .int .i64 x.1.next, .slice x.2.1 x.1.props.length x.2.2]
def rowA (L : List Sa) : List Value := L.flatMap rowA1
theorem rowA1_len (x : Sa) : (rowA1 x).length = 6 := rfl
theorem rowA_len (L : List Sa) : (rowA L).length = L.length * 6 := by
  induction L with
  | nil => rfl
  | cons x L ih =>
    show (rowA1 x ++ rowA L).length = _
    rw [List.length_append, ih, rowA1_len, List.length_cons]
    omega
theorem rowA_append (L M : List Sa) : rowA (L ++ M) = rowA L ++ rowA M := by simp [rowA]
theorem rowA_get (L : List Sa) : ∀ k (h : k < L.length) j, j < 6 → (rowA L)[k * 6 + j]? = (rowA1 L[k])[j]? := by
  induction L with
  | nil => intro k h; exact absurd h (Nat.not_lt_zero _)
  | cons x L ih =>
    intro k h j hj
    have e : rowA (x :: L) = rowA1 x ++ rowA L := rfl
    rw [e]
    cases k with
    | zero => rw [Nat.zero_mul, Nat.zero_add, List.getElem?_append_left (by rw [rowA1_len]; exact hj)]; rfl
    | succ k =>
      rw [List.getElem?_append_right (by rw [rowA1_len]; omega), rowA1_len, show (k + 1) * 6 + j - 6 = k * 6 + j by omega]
      exact ih k (by simpa using h) j hj
theorem rowA_one (L : List Sa) : ∀ u ∈ rowA L, u.oneCell' = true := by
  intro u hu
  unfold rowA at hu
  rw [List.mem_flatMap] at hu
  obtain ⟨x, _, hu⟩ := hu
  unfold rowA1 at hu
  simp only [List.mem_cons, List.not_mem_nil, or_false] at hu
  rcases hu with rfl | rfl | rfl | rfl | rfl | rfl <;> rfl
theorem rowA_set (L : List Sa) (k j : Nat) (hk : k < L.length) (hj : j < 6) (y : Sa) (u : Value) (h : rowA1 y = (rowA1 L[k]).set j u) : (rowA L).set (k * 6 + j) u = rowA (L.set k y) := by
  apply List.ext_getElem?
  intro q
  have hq6 : q / 6 * 6 + q % 6 = q := by omega
  by_cases hq : q < L.length * 6
  · have hk' : q / 6 < L.length := by omega
    have e1 := rowA_get L (q / 6) hk' (q % 6) (by omega)
    have e2 := rowA_get (L.set k y) (q / 6) (by simpa using hk') (q % 6) (by omega)
    rw [hq6] at e1 e2
    by_cases hqe : q = k * 6 + j
    · have a1 : q / 6 = k := by omega
      have a2 : q % 6 = j := by omega
      rw [List.getElem?_set, if_pos hqe.symm, if_pos (by rw [rowA_len]; omega), e2]
      simp only [a1, a2, List.getElem_set_self]
      rw [h, List.getElem?_set_self (by rw [rowA1_len]; exact hj)]
    · rw [List.getElem?_set_ne (fun e => hqe e.symm), e1, e2]
      by_cases hkq : k = q / 6
      · have a2 : j ≠ q % 6 := by omega
        subst hkq
        simp only [List.getElem_set_self]
        rw [h, List.getElem?_set_ne a2]
      · rw [List.getElem_set_ne hkq]
  · rw [List.getElem?_eq_none (by rw [List.length_set, rowA_len]; omega), List.getElem?_eq_none (by rw [rowA_len, List.length_set]; omega)]
/-- The styles' properties are there, in no row of g. -/
def Ps (w : World) (g : Nat) (L : List Sa) : Prop := ∀ x ∈ L, x.1.props.length ≤ x.2.2 ∧ x.2.2 ≤ maxLen ∧ PrAt w x.2.1 x.1.props ∧ (x.1.props = [] ∨ ∀ a, x.2.1 = some a → a.block ≠ g)
theorem PrAt.setO {w : World} {A : Option Addr} {l : List Pr} (h : PrAt w A l) {g i : Nat} (hne' : l = [] ∨ ∀ a, A = some a → a.block ≠ g) (u : Value) : PrAt (w.setCell ⟨g, i, none⟩ u) A l := by
  rcases hne' with h0 | hne
  · exact .inl h0
  rcases h with h | ⟨b, o, e, hb, hc⟩
  · exact .inl h
  · have hbg : b ≠ g := hne _ e
    have key : ∀ p v, w.cell? ⟨b, p, none⟩ = some v → (w.setCell ⟨g, i, none⟩ u).cell? ⟨b, p, none⟩ = some v := fun p v hv => by
      have := Below.heap_setCell w ⟨g, i, none⟩ u b hbg
      have e2 : (w.setCell ⟨g, i, none⟩ u).cell? ⟨b, p, none⟩ = w.cell? ⟨b, p, none⟩ := by unfold World.cell?; simp only [this]
      rw [e2]; exact hv
    refine .inr ⟨b, o, e, by simpa [World.setCell] using hb, fun k hk => ⟨key _ _ (hc k hk).1, key _ _ (hc k hk).2⟩⟩
theorem Ps.below {w w' : World} {g : Nat} {L : List Sa} (h : Ps w g L) (hb : Below w.heap.size w w') : Ps w' g L := fun x hx => ⟨(h x hx).1, (h x hx).2.1, (h x hx).2.2.1.below hb (Nat.le_refl _), (h x hx).2.2.2⟩
theorem Ps.set {w : World} {g : Nat} {L : List Sa} (h : Ps w g L) (i : Nat) (u : Value) : Ps (w.setCell ⟨g, i, none⟩ u) g L := fun x hx => ⟨(h x hx).1, (h x hx).2.1, (h x hx).2.2.1.setO (h x hx).2.2.2 u, (h x hx).2.2.2⟩
theorem Ps.put {w : World} {g : Nat} {L : List Sa} (h : Ps w g L) {k : Nat} {y : Sa} (hy : y.1.props.length ≤ y.2.2 ∧ y.2.2 ≤ maxLen ∧ PrAt w y.2.1 y.1.props ∧ (y.1.props = [] ∨ ∀ a, y.2.1 = some a → a.block ≠ g)) : Ps w g (L.set k y) := by
  intro x hx
  rcases List.mem_or_eq_of_mem_set hx with hx | rfl
  · exact h x hx
  · exact hy
theorem row_set {w : World} {base sz n g cb : Nat} {e : TypeId} {xs : List Value} (h : w.ownsRow base e sz (.slice (some ⟨g, 0, none⟩) n cb) n xs) (j : Nat) (hj : j < n * sz) (u : Value) : (w.setCell ⟨g, j, none⟩ u).ownsRow base e sz (.slice (some ⟨g, 0, none⟩) n cb) n (xs.set j u) := by
  obtain ⟨hl, h0 | ⟨g', cap, cur, hv, hb, hg, h1, h2, h3, h4⟩⟩ := h
  · cases h0.1
  · injection hv with e1 e2 e3
    injection e1 with e1
    injection e1 with e1
    subst e1 e3
    refine ⟨by rw [List.length_set]; exact hl, .inr ⟨g, cb, cur.modify j (fun _ => u), rfl, hb, ?_, h1, h2, by rw [Array.size_modify]; exact h3, ?_⟩⟩
    · exact ObjAt.set (show ObjAt w g cur e from hg) j u
    · obtain ⟨cs⟩ := cur
      rw [tset, ← h4]
      simp only [List.size_toArray] at h3
      show (cs.set j u).take (n * sz) = (cs.take (n * sz)).set j u
      rw [List.take_set]
theorem rows_ls {w : World} {base n cb g : Nat} {L : List Sa} (h : w.ownsRow base 28 6 (.slice (some ⟨g, 0, none⟩) n cb) n (rowA L)) (hn : L.length = n) (hp : Ps w g L) : LsAt w (some ⟨g, 0, none⟩) (L.map (·.1)) := by
  refine .inr ⟨g, 0, rfl, (h.lt g rfl).2, fun k hk => ?_⟩
  have hk' : k < L.length := by simpa using hk
  have hc := fun j (hj : j < 6) => (h.cellAt (k * 6 + j) (by omega)).trans (rowA_get L k hk' j hj)
  obtain ⟨p1, p2, p3, _⟩ := hp _ (List.getElem_mem hk')
  simp only [List.getElem_map]
  rw [Nat.zero_add]
  exact ⟨L[k].2.1, L[k].2.2, hc 0 (by omega), hc 1 (by omega), hc 2 (by omega), hc 3 (by omega), hc 4 (by omega), hc 5 (by omega), p1, p2, p3⟩
/-- Styles in memory, with the places of their properties. -/
theorem ls_row {w : World} {A : Option Addr} {l : List St} (h : LsAt w A l) (hne : l ≠ []) : ∃ (g o : Nat) (L : List Sa), A = some ⟨g, o, none⟩ ∧ g < w.heap.size ∧ L.map (·.1) = l ∧ (∀ j u, (rowA L)[j]? = some u → w.cell? ⟨g, o + j, none⟩ = some u) ∧ ∀ x ∈ L, x.1.props.length ≤ x.2.2 ∧ x.2.2 ≤ maxLen ∧ PrAt w x.2.1 x.1.props := by
  rcases h with h | ⟨g, o, e, hg, hc⟩
  · exact absurd h hne
  have each : ∀ k, k < l.length → ∃ x : Sa, x.1 = l.getD k default ∧ (∀ j, j < 6 → w.cell? ⟨g, o + k * 6 + j, none⟩ = (rowA1 x)[j]?) ∧ x.1.props.length ≤ x.2.2 ∧ x.2.2 ≤ maxLen ∧ PrAt w x.2.1 x.1.props := by
    intro k hk
    obtain ⟨B, c, z0, z1, z2, z3, z4, z5, h1, h2, h3⟩ := hc k hk
    have e : l.getD k default = l[k] := by rw [List.getD_eq_getElem?_getD, List.getElem?_eq_getElem hk]; rfl
    refine ⟨(l[k], B, c), e.symm, fun j hj => ?_, h1, h2, h3⟩
    rcases (by omega : j = 0 ∨ j = 1 ∨ j = 2 ∨ j = 3 ∨ j = 4 ∨ j = 5) with rfl | rfl | rfl | rfl | rfl | rfl
    · exact z0
    · exact z1
    · exact z2
    · exact z3
    · exact z4
    · exact z5
  obtain ⟨q, hq⟩ := Go.Deep.choose_lt each
  have hLl : ((List.range l.length).map q).length = l.length := by simp
  refine ⟨g, o, (List.range l.length).map q, e, hg, ?_, ?_, ?_⟩
  · apply List.ext_getElem (by simp)
    intro k h1 h2
    simp only [List.getElem_map, List.getElem_range]
    rw [(hq k h2).1, List.getD_eq_getElem?_getD, List.getElem?_eq_getElem h2]
    rfl
  · intro j u hj
    have hjl : j < l.length * 6 := by
      have := (List.getElem?_eq_some_iff.1 hj).1
      rw [rowA_len, hLl] at this
      exact this
    have hk : j / 6 < l.length := by omega
    have e6 : j / 6 * 6 + j % 6 = j := by omega
    have h1 := rowA_get ((List.range l.length).map q) (j / 6) (by rw [hLl]; exact hk) (j % 6) (by omega)
    rw [e6, hj] at h1
    simp only [List.getElem_map, List.getElem_range] at h1
    have h2 := (hq (j / 6) hk).2.1 (j % 6) (by omega)
    rw [Nat.add_assoc, e6, ← h1] at h2
    exact h2
  · intro x hx
    obtain ⟨k, hk, rfl⟩ := List.mem_map.1 hx
    exact (hq k (List.mem_range.1 hk)).2.2
end Go.Proofs.Ytbkpokipibgdfaa
