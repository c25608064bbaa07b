/- Layer 23: properties, deletions, layers and states in memory. -/
import Derived.Test.YtjhppkjngifibaaG3
import Derived.Test.YtjhppkjngifibaaP2
import Derived.Test.YtjhppkjngifibaaProg
import Derived.WalkSpells
namespace Go.Proofs.Ytjhppkjngifibaa
open Go.RowKit Go.Lib
set_option linter.unusedVariables false

theorem own_form {w : World} {base n size : Nat} {t : TypeId} {v : Value} {xs : List Value} (h : w.ownsRow base t size v n xs) : ∃ B cb, v = .slice B n cb := by
  rcases h.2 with ⟨hv, h0⟩ | ⟨g, cap, cur, hv, _⟩
  · exact ⟨none, 0, by rw [hv, h0]⟩
  · exact ⟨_, _, hv⟩
theorem own_caps {w : World} {base n cb size : Nat} {t : TypeId} {B : Option Addr} {xs : List Value} (h : w.ownsRow base t size (.slice B n cb) n xs) : n ≤ cb ∧ cb ≤ maxLen := by
  rcases h.2 with ⟨hv, h0⟩ | ⟨g, cap, cur, hv, _, _, h1, h2, _⟩
  · injection hv with _ e1 e2; subst e2; exact ⟨by omega, by decide⟩
  · injection hv with _ e1 e2; subst e2; exact ⟨h1, h2⟩
theorem info61 : (Try.prog.info? 61).map (fun i => (i.zero, i.size, i.bytes)) = some (some (.agg #[.int .i64 0, .int .i64 0]), 2, 16) := by kernel_rfl
def rowP1 (x : Pr) : List Value := [.int .i64 x.1, .int .i64 x.2]
def rowP (L : List Pr) : List Value := L.flatMap rowP1
abbrev aggP (x : Pr) : Value := .agg #[.int .i64 x.1, .int .i64 x.2]
theorem rowP1_len (x : Pr) : (rowP1 x).length = 2 := rfl
theorem rowP_cons (x : Pr) (L : List Pr) : rowP (x :: L) = rowP1 x ++ rowP L := rfl
theorem rowP_len (L : List Pr) : (rowP L).length = L.length * 2 := by
  induction L with
  | nil => rfl
  | cons x L ih =>
    show (rowP1 x ++ rowP L).length = _
    rw [List.length_append, ih, rowP1_len, List.length_cons]
    omega
theorem rowP_append (L M : List Pr) : rowP (L ++ M) = rowP L ++ rowP M := by simp [rowP]
theorem rowP_snoc (L : List Pr) (x : Pr) : rowP (L ++ [x]) = rowP L ++ rowP1 x := by rw [rowP_append]; simp [rowP]
theorem rowP_get (L : List Pr) : ∀ k (h : k < L.length) j, j < 2 → (rowP L)[k * 2 + j]? = (rowP1 L[k])[j]? := by
  induction L with
  | nil => intro k h; exact absurd h (Nat.not_lt_zero _)
  | cons x L ih =>
    intro k h j hj
    have e : rowP (x :: L) = rowP1 x ++ rowP L := rfl
    rw [e]
    cases k with
    | zero => rw [Nat.zero_mul, Nat.zero_add, List.getElem?_append_left (by rw [rowP1_len]; exact hj)]; rfl
    | succ k =>
      rw [List.getElem?_append_right (by rw [rowP1_len]; omega), rowP1_len, show (k + 1) * 2 + j - 2 = k * 2 + j by omega]
      exact ih k (by simpa using h) j hj
theorem rowP1_one (x : Pr) : ∀ u ∈ rowP1 x, u.oneCell' = true := by
  intro u hu
  unfold rowP1 at hu
  simp only [List.mem_cons, List.not_mem_nil, or_false] at hu
  rcases hu with rfl | rfl <;> rfl
theorem rowP_one (L : List Pr) : ∀ u ∈ rowP L, u.oneCell' = true := by
  intro u hu
  unfold rowP at hu
  rw [List.mem_flatMap] at hu
  obtain ⟨x, _, hu⟩ := hu
  exact rowP1_one x u hu
/-- An element in memory; a list. -/
def ElP (w : World) (g o : Nat) (x : Pr) : Prop := w.cell? ⟨g, o, none⟩ = some (.int .i64 x.1) ∧ w.cell? ⟨g, o + 1, none⟩ = some (.int .i64 x.2)
def AtP (w : World) (A : Option Addr) (l : List Pr) : Prop := l = [] ∨ ∃ g o, A = some ⟨g, o, none⟩ ∧ g < w.heap.size ∧ ∀ k (h : k < l.length), ElP w g (o + k * 2) l[k]
theorem ElP.below {w w' : World} {g o n : Nat} {x : Pr} (h : ElP w g o x) (hg : g < n) (hb : Below n w w') : ElP w' g o x :=
  ⟨(hb.cell (p := ⟨g, o, none⟩) hg).trans h.1, (hb.cell (p := ⟨g, o + 1, none⟩) hg).trans h.2⟩
theorem AtP.below {w w' : World} {A : Option Addr} {l : List Pr} (h : AtP w A l) {n : Nat} (hb : Below n w w') (hn : w.heap.size ≤ n) : AtP w' A l := by
  rcases h with h | ⟨g, o, h1, h2, h3⟩
  · exact .inl h
  · exact .inr ⟨g, o, h1, Nat.lt_of_lt_of_le h2 hb.size, fun k hk => (h3 k hk).below (Nat.lt_of_lt_of_le h2 hn) hb⟩
theorem AtP.pos {w : World} {A : Option Addr} {l : List Pr} (h : AtP w A l) (hp : 0 < l.length) : ∃ g o, A = some ⟨g, o, none⟩ ∧ g < w.heap.size ∧ ∀ k (h : k < l.length), ElP w g (o + k * 2) l[k] := by
  rcases h with h | h
  · rw [h] at hp; exact absurd hp (Nat.lt_irrefl _)
  · exact h
theorem AtP.cells {w : World} {g o : Nat} {l : List Pr} (h : AtP w (some ⟨g, o, none⟩) l) : ∀ j u, (rowP l)[j]? = some u → w.cell? ⟨g, o + j, none⟩ = some u := by
  intro j u hj
  rcases h with h | ⟨g', o', hg, _, hc⟩
  · subst h; simp [rowP] at hj
  · injection hg with hg; injection hg with h1 h2 _
    subst h1 h2
    have hlt : j < l.length * 2 := by rw [← rowP_len]; exact (List.getElem?_eq_some_iff.1 hj).1
    have hk : j / 2 < l.length := by omega
    have e3 : j / 2 * 2 + j % 2 = j := by omega
    have e := rowP_get l (j / 2) hk (j % 2) (by omega)
    rw [e3, hj] at e
    obtain ⟨c0, c1⟩ := hc (j / 2) hk
    have hm : j % 2 = 0 ∨ j % 2 = 1 := by omega
    rcases hm with hm | hm
    · rw [hm] at e; rw [show o + j = o + j / 2 * 2 by omega, c0]; exact e.symm
    · rw [hm] at e; rw [show o + j = o + j / 2 * 2 + 1 by omega, c1]; exact e.symm
theorem AtP.of_cells {w : World} {g o : Nat} {l : List Pr} (hg : g < w.heap.size) (h : ∀ j u, (rowP l)[j]? = some u → w.cell? ⟨g, o + j, none⟩ = some u) : AtP w (some ⟨g, o, none⟩) l := by
  refine .inr ⟨g, o, rfl, hg, fun k hk => ?_⟩
  have e := fun j (hj : j < 2) => rowP_get l k hk j hj
  exact ⟨by rw [show o + k * 2 = o + (k * 2 + 0) by omega]; exact h _ _ (e 0 (by omega)), by rw [show o + k * 2 + 1 = o + (k * 2 + 1) by omega]; exact h _ _ (e 1 (by omega))⟩
theorem AtP.take {w : World} {A : Option Addr} {l : List Pr} (h : AtP w A l) (m : Nat) : AtP w A (l.take m) := by
  rcases h with h | ⟨g, o, h1, h2, h3⟩
  · left; rw [h]; exact List.take_nil
  · refine .inr ⟨g, o, h1, h2, fun k hk => ?_⟩
    rw [List.getElem_take]
    exact h3 k (by rw [List.length_take] at hk; omega)
theorem AtP.drop {w : World} {g o : Nat} {l : List Pr} (h : AtP w (some ⟨g, o, none⟩) l) (m : Nat) : AtP w (some ⟨g, o + m * 2, none⟩) (l.drop m) := by
  rcases h with h | ⟨g', o', h1, h2, h3⟩
  · left; rw [h]; exact List.drop_nil
  · injection h1 with h1; injection h1 with e1 e2 _
    subst e1 e2
    refine .inr ⟨g, _, rfl, h2, fun k hk => ?_⟩
    rw [List.getElem_drop]
    have := h3 (m + k) (by rw [List.length_drop] at hk; omega)
    rw [show o + m * 2 + k * 2 = o + (m + k) * 2 by omega]
    exact this
/-- A row of one's own is a list in memory. -/
theorem at_rowP {w : World} {base n : Nat} {v : Value} {l : List Pr} (h : w.ownsRow base 61 2 v n (rowP l)) (hn : l.length = n) : ∃ A cb, v = .slice A n cb ∧ n ≤ cb ∧ cb ≤ maxLen ∧ AtP w A l := by
  have h0 := h
  rcases h.2 with ⟨hv, hz⟩ | ⟨g, cap, cur, hv, hb, hg, hcap, hcm, _⟩
  · subst hz
    refine ⟨none, 0, hv, Nat.le_refl _, by decide, .inl (List.eq_nil_of_length_eq_zero hn)⟩
  · subst hv
    refine ⟨some ⟨g, 0, none⟩, cap, rfl, hcap, hcm, AtP.of_cells (Array.getElem?_eq_some_iff.1 hg).1 fun j u hj => ?_⟩
    rw [Nat.zero_add]
    exact (h0.cellAt j (by rw [← hn, ← rowP_len]; exact (List.getElem?_eq_some_iff.1 hj).1)).trans hj
theorem own_atP {w : World} {base n cb : Nat} {B : Option Addr} {l : List Pr} (h : w.ownsRow base 61 2 (.slice B n cb) n (rowP l)) (hl : l.length = n) : AtP w B l := by
  obtain ⟨A, c, hv, _, _, hP⟩ := at_rowP h hl
  injection hv with e1 _ _
  rw [e1]; exact hP
/-- What hands back a list of the call's own; a list somewhere in memory. -/
def OwnP (base : Nat) (l : List Pr) (w : World) (e : Ending) (w' : World) : Prop := ∃ B cb, e = .returned (.slice B l.length cb) ∧ w'.ownsRow base 61 2 (.slice B l.length cb) l.length (rowP l) ∧ Below w.heap.size w w'
theorem info59 : (Try.prog.info? 59).map (fun i => (i.zero, i.size, i.bytes)) = some (some (.agg #[.int .i64 0, .int .i64 0]), 2, 16) := by kernel_rfl
def rowD1 (x : Dl) : List Value := [.int .i64 x.rev, .int .i64 x.move]
def rowD (L : List Dl) : List Value := L.flatMap rowD1
abbrev aggD (x : Dl) : Value := .agg #[.int .i64 x.rev, .int .i64 x.move]
theorem rowD1_len (x : Dl) : (rowD1 x).length = 2 := rfl
theorem rowD_cons (x : Dl) (L : List Dl) : rowD (x :: L) = rowD1 x ++ rowD L := rfl
theorem rowD_len (L : List Dl) : (rowD L).length = L.length * 2 := by
  induction L with
  | nil => rfl
  | cons x L ih =>
    show (rowD1 x ++ rowD L).length = _
    rw [List.length_append, ih, rowD1_len, List.length_cons]
    omega
theorem rowD_append (L M : List Dl) : rowD (L ++ M) = rowD L ++ rowD M := by simp [rowD]
theorem rowD_snoc (L : List Dl) (x : Dl) : rowD (L ++ [x]) = rowD L ++ rowD1 x := by rw [rowD_append]; simp [rowD]
theorem rowD_get (L : List Dl) : ∀ k (h : k < L.length) j, j < 2 → (rowD L)[k * 2 + j]? = (rowD1 L[k])[j]? := by
  induction L with
  | nil => intro k h; exact absurd h (Nat.not_lt_zero _)
  | cons x L ih =>
    intro k h j hj
    have e : rowD (x :: L) = rowD1 x ++ rowD L := rfl
    rw [e]
    cases k with
    | zero => rw [Nat.zero_mul, Nat.zero_add, List.getElem?_append_left (by rw [rowD1_len]; exact hj)]; rfl
    | succ k =>
      rw [List.getElem?_append_right (by rw [rowD1_len]; omega), rowD1_len, show (k + 1) * 2 + j - 2 = k * 2 + j by omega]
      exact ih k (by simpa using h) j hj
theorem rowD1_one (x : Dl) : ∀ u ∈ rowD1 x, u.oneCell' = true := by
  intro u hu
  unfold rowD1 at hu
  simp only [List.mem_cons, List.not_mem_nil, or_false] at hu
  rcases hu with rfl | rfl <;> rfl
theorem rowD_one (L : List Dl) : ∀ u ∈ rowD L, u.oneCell' = true := by
  intro u hu
  unfold rowD at hu
  rw [List.mem_flatMap] at hu
  obtain ⟨x, _, hu⟩ := hu
  exact rowD1_one x u hu
/-- An element in memory; a list. -/
def ElD (w : World) (g o : Nat) (x : Dl) : Prop := w.cell? ⟨g, o, none⟩ = some (.int .i64 x.rev) ∧ w.cell? ⟨g, o + 1, none⟩ = some (.int .i64 x.move)
def AtD (w : World) (A : Option Addr) (l : List Dl) : Prop := l = [] ∨ ∃ g o, A = some ⟨g, o, none⟩ ∧ g < w.heap.size ∧ ∀ k (h : k < l.length), ElD w g (o + k * 2) l[k]
theorem ElD.below {w w' : World} {g o n : Nat} {x : Dl} (h : ElD w g o x) (hg : g < n) (hb : Below n w w') : ElD w' g o x :=
  ⟨(hb.cell (p := ⟨g, o, none⟩) hg).trans h.1, (hb.cell (p := ⟨g, o + 1, none⟩) hg).trans h.2⟩
theorem AtD.below {w w' : World} {A : Option Addr} {l : List Dl} (h : AtD w A l) {n : Nat} (hb : Below n w w') (hn : w.heap.size ≤ n) : AtD w' A l := by
  rcases h with h | ⟨g, o, h1, h2, h3⟩
  · exact .inl h
  · exact .inr ⟨g, o, h1, Nat.lt_of_lt_of_le h2 hb.size, fun k hk => (h3 k hk).below (Nat.lt_of_lt_of_le h2 hn) hb⟩
theorem AtD.pos {w : World} {A : Option Addr} {l : List Dl} (h : AtD w A l) (hp : 0 < l.length) : ∃ g o, A = some ⟨g, o, none⟩ ∧ g < w.heap.size ∧ ∀ k (h : k < l.length), ElD w g (o + k * 2) l[k] := by
  rcases h with h | h
  · rw [h] at hp; exact absurd hp (Nat.lt_irrefl _)
  · exact h
theorem AtD.cells {w : World} {g o : Nat} {l : List Dl} (h : AtD w (some ⟨g, o, none⟩) l) : ∀ j u, (rowD l)[j]? = some u → w.cell? ⟨g, o + j, none⟩ = some u := by
  intro j u hj
  rcases h with h | ⟨g', o', hg, _, hc⟩
  · subst h; simp [rowD] at hj
  · injection hg with hg; injection hg with h1 h2 _
    subst h1 h2
    have hlt : j < l.length * 2 := by rw [← rowD_len]; exact (List.getElem?_eq_some_iff.1 hj).1
    have hk : j / 2 < l.length := by omega
    have e3 : j / 2 * 2 + j % 2 = j := by omega
    have e := rowD_get l (j / 2) hk (j % 2) (by omega)
    rw [e3, hj] at e
    obtain ⟨c0, c1⟩ := hc (j / 2) hk
    have hm : j % 2 = 0 ∨ j % 2 = 1 := by omega
    rcases hm with hm | hm
    · rw [hm] at e; rw [show o + j = o + j / 2 * 2 by omega, c0]; exact e.symm
    · rw [hm] at e; rw [show o + j = o + j / 2 * 2 + 1 by omega, c1]; exact e.symm
theorem AtD.of_cells {w : World} {g o : Nat} {l : List Dl} (hg : g < w.heap.size) (h : ∀ j u, (rowD l)[j]? = some u → w.cell? ⟨g, o + j, none⟩ = some u) : AtD w (some ⟨g, o, none⟩) l := by
  refine .inr ⟨g, o, rfl, hg, fun k hk => ?_⟩
  have e := fun j (hj : j < 2) => rowD_get l k hk j hj
  exact ⟨by rw [show o + k * 2 = o + (k * 2 + 0) by omega]; exact h _ _ (e 0 (by omega)), by rw [show o + k * 2 + 1 = o + (k * 2 + 1) by omega]; exact h _ _ (e 1 (by omega))⟩
theorem AtD.take {w : World} {A : Option Addr} {l : List Dl} (h : AtD w A l) (m : Nat) : AtD w A (l.take m) := by
  rcases h with h | ⟨g, o, h1, h2, h3⟩
  · left; rw [h]; exact List.take_nil
  · refine .inr ⟨g, o, h1, h2, fun k hk => ?_⟩
    rw [List.getElem_take]
    exact h3 k (by rw [List.length_take] at hk; omega)
theorem AtD.drop {w : World} {g o : Nat} {l : List Dl} (h : AtD w (some ⟨g, o, none⟩) l) (m : Nat) : AtD w (some ⟨g, o + m * 2, none⟩) (l.drop m) := by
  rcases h with h | ⟨g', o', h1, h2, h3⟩
  · left; rw [h]; exact List.drop_nil
  · injection h1 with h1; injection h1 with e1 e2 _
    subst e1 e2
    refine .inr ⟨g, _, rfl, h2, fun k hk => ?_⟩
    rw [List.getElem_drop]
    have := h3 (m + k) (by rw [List.length_drop] at hk; omega)
    rw [show o + m * 2 + k * 2 = o + (m + k) * 2 by omega]
    exact this
/-- A row of one's own is a list in memory. -/
theorem at_rowD {w : World} {base n : Nat} {v : Value} {l : List Dl} (h : w.ownsRow base 59 2 v n (rowD l)) (hn : l.length = n) : ∃ A cb, v = .slice A n cb ∧ n ≤ cb ∧ cb ≤ maxLen ∧ AtD w A l := by
  have h0 := h
  rcases h.2 with ⟨hv, hz⟩ | ⟨g, cap, cur, hv, hb, hg, hcap, hcm, _⟩
  · subst hz
    refine ⟨none, 0, hv, Nat.le_refl _, by decide, .inl (List.eq_nil_of_length_eq_zero hn)⟩
  · subst hv
    refine ⟨some ⟨g, 0, none⟩, cap, rfl, hcap, hcm, AtD.of_cells (Array.getElem?_eq_some_iff.1 hg).1 fun j u hj => ?_⟩
    rw [Nat.zero_add]
    exact (h0.cellAt j (by rw [← hn, ← rowD_len]; exact (List.getElem?_eq_some_iff.1 hj).1)).trans hj
theorem own_atD {w : World} {base n cb : Nat} {B : Option Addr} {l : List Dl} (h : w.ownsRow base 59 2 (.slice B n cb) n (rowD l)) (hl : l.length = n) : AtD w B l := by
  obtain ⟨A, c, hv, _, _, hP⟩ := at_rowD h hl
  injection hv with e1 _ _
  rw [e1]; exact hP
/-- What hands back a list of the call's own; a list somewhere in memory. -/
def OwnD (base : Nat) (l : List Dl) (w : World) (e : Ending) (w' : World) : Prop := ∃ B cb, e = .returned (.slice B l.length cb) ∧ w'.ownsRow base 59 2 (.slice B l.length cb) l.length (rowD l) ∧ Below w.heap.size w w'
theorem info74 : (Try.prog.info? 74).map (fun i => (i.zero, i.size, i.bytes)) = some (some (.agg #[.int .i64 0, .int .i64 0, .int .i64 0, .bool false]), 4, 32) := by kernel_rfl
def rowL1 (x : Ly) : List Value := [.int .i64 x.rev, .int .i64 x.key, .int .i64 x.bef, .bool x.had]
def rowL (L : List Ly) : List Value := L.flatMap rowL1
abbrev aggL (x : Ly) : Value := .agg #[.int .i64 x.rev, .int .i64 x.key, .int .i64 x.bef, .bool x.had]
theorem rowL1_len (x : Ly) : (rowL1 x).length = 4 := rfl
theorem rowL_cons (x : Ly) (L : List Ly) : rowL (x :: L) = rowL1 x ++ rowL L := rfl
theorem rowL_len (L : List Ly) : (rowL L).length = L.length * 4 := by
  induction L with
  | nil => rfl
  | cons x L ih =>
    show (rowL1 x ++ rowL L).length = _
    rw [List.length_append, ih, rowL1_len, List.length_cons]
    omega
theorem rowL_append (L M : List Ly) : rowL (L ++ M) = rowL L ++ rowL M := by simp [rowL]
theorem rowL_snoc (L : List Ly) (x : Ly) : rowL (L ++ [x]) = rowL L ++ rowL1 x := by rw [rowL_append]; simp [rowL]
theorem rowL_get (L : List Ly) : ∀ k (h : k < L.length) j, j < 4 → (rowL L)[k * 4 + j]? = (rowL1 L[k])[j]? := by
  induction L with
  | nil => intro k h; exact absurd h (Nat.not_lt_zero _)
  | cons x L ih =>
    intro k h j hj
    have e : rowL (x :: L) = rowL1 x ++ rowL L := rfl
    rw [e]
    cases k with
    | zero => rw [Nat.zero_mul, Nat.zero_add, List.getElem?_append_left (by rw [rowL1_len]; exact hj)]; rfl
    | succ k =>
      rw [List.getElem?_append_right (by rw [rowL1_len]; omega), rowL1_len, show (k + 1) * 4 + j - 4 = k * 4 + j by omega]
      exact ih k (by simpa using h) j hj
theorem rowL1_one (x : Ly) : ∀ u ∈ rowL1 x, u.oneCell' = true := by
  intro u hu
  unfold rowL1 at hu
  simp only [List.mem_cons, List.not_mem_nil, or_false] at hu
  rcases hu with rfl | rfl | rfl | rfl <;> rfl
theorem rowL_one (L : List Ly) : ∀ u ∈ rowL L, u.oneCell' = true := by
  intro u hu
  unfold rowL at hu
  rw [List.mem_flatMap] at hu
  obtain ⟨x, _, hu⟩ := hu
  exact rowL1_one x u hu
/-- An element in memory; a list. -/
def ElL (w : World) (g o : Nat) (x : Ly) : Prop := w.cell? ⟨g, o, none⟩ = some (.int .i64 x.rev) ∧ w.cell? ⟨g, o + 1, none⟩ = some (.int .i64 x.key) ∧ w.cell? ⟨g, o + 2, none⟩ = some (.int .i64 x.bef) ∧ w.cell? ⟨g, o + 3, none⟩ = some (.bool x.had)
def AtL (w : World) (A : Option Addr) (l : List Ly) : Prop := l = [] ∨ ∃ g o, A = some ⟨g, o, none⟩ ∧ g < w.heap.size ∧ ∀ k (h : k < l.length), ElL w g (o + k * 4) l[k]
theorem ElL.below {w w' : World} {g o n : Nat} {x : Ly} (h : ElL w g o x) (hg : g < n) (hb : Below n w w') : ElL w' g o x :=
  ⟨(hb.cell (p := ⟨g, o, none⟩) hg).trans h.1, (hb.cell (p := ⟨g, o + 1, none⟩) hg).trans h.2.1, (hb.cell (p := ⟨g, o + 2, none⟩) hg).trans h.2.2.1, (hb.cell (p := ⟨g, o + 3, none⟩) hg).trans h.2.2.2⟩
theorem AtL.below {w w' : World} {A : Option Addr} {l : List Ly} (h : AtL w A l) {n : Nat} (hb : Below n w w') (hn : w.heap.size ≤ n) : AtL w' A l := by
  rcases h with h | ⟨g, o, h1, h2, h3⟩
  · exact .inl h
  · exact .inr ⟨g, o, h1, Nat.lt_of_lt_of_le h2 hb.size, fun k hk => (h3 k hk).below (Nat.lt_of_lt_of_le h2 hn) hb⟩
theorem AtL.pos {w : World} {A : Option Addr} {l : List Ly} (h : AtL w A l) (hp : 0 < l.length) : ∃ g o, A = some ⟨g, o, none⟩ ∧ g < w.heap.size ∧ ∀ k (h : k < l.length), ElL w g (o + k * 4) l[k] := by
  rcases h with h | h
  · rw [h] at hp; exact absurd hp (Nat.lt_irrefl _)
  · exact h
theorem AtL.cells {w : World} {g o : Nat} {l : List Ly} (h : AtL w (some ⟨g, o, none⟩) l) : ∀ j u, (rowL l)[j]? = some u → w.cell? ⟨g, o + j, none⟩ = some u := by
  intro j u hj
  rcases h with h | ⟨g', o', hg, _, hc⟩
  · subst h; simp [rowL] at hj
  · injection hg with hg; injection hg with h1 h2 _
    subst h1 h2
    have hlt : j < l.length * 4 := by rw [← rowL_len]; exact (List.getElem?_eq_some_iff.1 hj).1
    have hk : j / 4 < l.length := by omega
    have e3 : j / 4 * 4 + j % 4 = j := by omega
    have e := rowL_get l (j / 4) hk (j % 4) (by omega)
    rw [e3, hj] at e
    obtain ⟨c0, c1, c2, c3⟩ := hc (j / 4) hk
    have hm : j % 4 = 0 ∨ j % 4 = 1 ∨ j % 4 = 2 ∨ j % 4 = 3 := by omega
    rcases hm with hm | hm | hm | hm
    · rw [hm] at e; rw [show o + j = o + j / 4 * 4 by omega, c0]; exact e.symm
    · rw [hm] at e; rw [show o + j = o + j / 4 * 4 + 1 by omega, c1]; exact e.symm
    · rw [hm] at e; rw [show o + j = o + j / 4 * 4 + 2 by omega, c2]; exact e.symm
    · rw [hm] at e; rw [show o + j = o + j / 4 * 4 + 3 by omega, c3]; exact e.symm
theorem AtL.of_cells {w : World} {g o : Nat} {l : List Ly} (hg : g < w.heap.size) (h : ∀ j u, (rowL l)[j]? = some u → w.cell? ⟨g, o + j, none⟩ = some u) : AtL w (some ⟨g, o, none⟩) l := by
  refine .inr ⟨g, o, rfl, hg, fun k hk => ?_⟩
  have e := fun j (hj : j < 4) => rowL_get l k hk j hj
  exact ⟨by rw [show o + k * 4 = o + (k * 4 + 0) by omega]; exact h _ _ (e 0 (by omega)), by rw [show o + k * 4 + 1 = o + (k * 4 + 1) by omega]; exact h _ _ (e 1 (by omega)), by rw [show o + k * 4 + 2 = o + (k * 4 + 2) by omega]; exact h _ _ (e 2 (by omega)), by rw [show o + k * 4 + 3 = o + (k * 4 + 3) by omega]; exact h _ _ (e 3 (by omega))⟩
theorem AtL.take {w : World} {A : Option Addr} {l : List Ly} (h : AtL w A l) (m : Nat) : AtL w A (l.take m) := by
  rcases h with h | ⟨g, o, h1, h2, h3⟩
  · left; rw [h]; exact List.take_nil
  · refine .inr ⟨g, o, h1, h2, fun k hk => ?_⟩
    rw [List.getElem_take]
    exact h3 k (by rw [List.length_take] at hk; omega)
theorem AtL.drop {w : World} {g o : Nat} {l : List Ly} (h : AtL w (some ⟨g, o, none⟩) l) (m : Nat) : AtL w (some ⟨g, o + m * 4, none⟩) (l.drop m) := by
  rcases h with h | ⟨g', o', h1, h2, h3⟩
  · left; rw [h]; exact List.drop_nil
  · injection h1 with h1; injection h1 with e1 e2 _
    subst e1 e2
    refine .inr ⟨g, _, rfl, h2, fun k hk => ?_⟩
    rw [List.getElem_drop]
    have := h3 (m + k) (by rw [List.length_drop] at hk; omega)
    rw [show o + m * 4 + k * 4 = o + (m + k) * 4 by omega]
    exact this
/-- A row of one's own is a list in memory. -/
theorem at_rowL {w : World} {base n : Nat} {v : Value} {l : List Ly} (h : w.ownsRow base 74 4 v n (rowL l)) (hn : l.length = n) : ∃ A cb, v = .slice A n cb ∧ n ≤ cb ∧ cb ≤ maxLen ∧ AtL w A l := by
  have h0 := h
  rcases h.2 with ⟨hv, hz⟩ | ⟨g, cap, cur, hv, hb, hg, hcap, hcm, _⟩
  · subst hz
    refine ⟨none, 0, hv, Nat.le_refl _, by decide, .inl (List.eq_nil_of_length_eq_zero hn)⟩
  · subst hv
    refine ⟨some ⟨g, 0, none⟩, cap, rfl, hcap, hcm, AtL.of_cells (Array.getElem?_eq_some_iff.1 hg).1 fun j u hj => ?_⟩
    rw [Nat.zero_add]
    exact (h0.cellAt j (by rw [← hn, ← rowL_len]; exact (List.getElem?_eq_some_iff.1 hj).1)).trans hj
theorem own_atL {w : World} {base n cb : Nat} {B : Option Addr} {l : List Ly} (h : w.ownsRow base 74 4 (.slice B n cb) n (rowL l)) (hl : l.length = n) : AtL w B l := by
  obtain ⟨A, c, hv, _, _, hP⟩ := at_rowL h hl
  injection hv with e1 _ _
  rw [e1]; exact hP
/-- What hands back a list of the call's own; a list somewhere in memory. -/
def OwnL (base : Nat) (l : List Ly) (w : World) (e : Ending) (w' : World) : Prop := ∃ B cb, e = .returned (.slice B l.length cb) ∧ w'.ownsRow base 74 4 (.slice B l.length cb) l.length (rowL l) ∧ Below w.heap.size w w'
theorem info51 : (Try.prog.info? 51).map (fun i => (i.zero, i.size, i.bytes)) = some (some (.agg #[.int .i64 0, .bool false]), 2, 16) := by kernel_rfl
def rowS1 (x : St) : List Value := [.int .i64 x.1, .bool x.2]
def rowS (L : List St) : List Value := L.flatMap rowS1
abbrev aggS (x : St) : Value := .agg #[.int .i64 x.1, .bool x.2]
theorem rowS1_len (x : St) : (rowS1 x).length = 2 := rfl
theorem rowS_cons (x : St) (L : List St) : rowS (x :: L) = rowS1 x ++ rowS L := rfl
theorem rowS_len (L : List St) : (rowS L).length = L.length * 2 := by
  induction L with
  | nil => rfl
  | cons x L ih =>
    show (rowS1 x ++ rowS L).length = _
    rw [List.length_append, ih, rowS1_len, List.length_cons]
    omega
theorem rowS_append (L M : List St) : rowS (L ++ M) = rowS L ++ rowS M := by simp [rowS]
theorem rowS_snoc (L : List St) (x : St) : rowS (L ++ [x]) = rowS L ++ rowS1 x := by rw [rowS_append]; simp [rowS]
theorem rowS_get (L : List St) : ∀ k (h : k < L.length) j, j < 2 → (rowS L)[k * 2 + j]? = (rowS1 L[k])[j]? := by
  induction L with
  | nil => intro k h; exact absurd h (Nat.not_lt_zero _)
  | cons x L ih =>
    intro k h j hj
    have e : rowS (x :: L) = rowS1 x ++ rowS L := rfl
    rw [e]
    cases k with
    | zero => rw [Nat.zero_mul, Nat.zero_add, List.getElem?_append_left (by rw [rowS1_len]; exact hj)]; rfl
    | succ k =>
      rw [List.getElem?_append_right (by rw [rowS1_len]; omega), rowS1_len, show (k + 1) * 2 + j - 2 = k * 2 + j by omega]
      exact ih k (by simpa using h) j hj
theorem rowS1_one (x : St) : ∀ u ∈ rowS1 x, u.oneCell' = true := by
  intro u hu
  unfold rowS1 at hu
  simp only [List.mem_cons, List.not_mem_nil, or_false] at hu
  rcases hu with rfl | rfl <;> rfl
theorem rowS_one (L : List St) : ∀ u ∈ rowS L, u.oneCell' = true := by
  intro u hu
  unfold rowS at hu
  rw [List.mem_flatMap] at hu
  obtain ⟨x, _, hu⟩ := hu
  exact rowS1_one x u hu
/-- An element in memory; a list. -/
def ElS (w : World) (g o : Nat) (x : St) : Prop := w.cell? ⟨g, o, none⟩ = some (.int .i64 x.1) ∧ w.cell? ⟨g, o + 1, none⟩ = some (.bool x.2)
def AtS (w : World) (A : Option Addr) (l : List St) : Prop := l = [] ∨ ∃ g o, A = some ⟨g, o, none⟩ ∧ g < w.heap.size ∧ ∀ k (h : k < l.length), ElS w g (o + k * 2) l[k]
theorem ElS.below {w w' : World} {g o n : Nat} {x : St} (h : ElS w g o x) (hg : g < n) (hb : Below n w w') : ElS w' g o x :=
  ⟨(hb.cell (p := ⟨g, o, none⟩) hg).trans h.1, (hb.cell (p := ⟨g, o + 1, none⟩) hg).trans h.2⟩
theorem AtS.below {w w' : World} {A : Option Addr} {l : List St} (h : AtS w A l) {n : Nat} (hb : Below n w w') (hn : w.heap.size ≤ n) : AtS w' A l := by
  rcases h with h | ⟨g, o, h1, h2, h3⟩
  · exact .inl h
  · exact .inr ⟨g, o, h1, Nat.lt_of_lt_of_le h2 hb.size, fun k hk => (h3 k hk).below (Nat.lt_of_lt_of_le h2 hn) hb⟩
theorem AtS.pos {w : World} {A : Option Addr} {l : List St} (h : AtS w A l) (hp : 0 < l.length) : ∃ g o, A = some ⟨g, o, none⟩ ∧ g < w.heap.size ∧ ∀ k (h : k < l.length), ElS w g (o + k * 2) l[k] := by
  rcases h with h | h
  · rw [h] at hp; exact absurd hp (Nat.lt_irrefl _)
  · exact h
theorem AtS.cells {w : World} {g o : Nat} {l : List St} (h : AtS w (some ⟨g, o, none⟩) l) : ∀ j u, (rowS l)[j]? = some u → w.cell? ⟨g, o + j, none⟩ = some u := by
  intro j u hj
  rcases h with h | ⟨g', o', hg, _, hc⟩
  · subst h; simp [rowS] at hj
  · injection hg with hg; injection hg with h1 h2 _
    subst h1 h2
    have hlt : j < l.length * 2 := by rw [← rowS_len]; exact (List.getElem?_eq_some_iff.1 hj).1
    have hk : j / 2 < l.length := by omega
    have e3 : j / 2 * 2 + j % 2 = j := by omega
    have e := rowS_get l (j / 2) hk (j % 2) (by omega)
    rw [e3, hj] at e
    obtain ⟨c0, c1⟩ := hc (j / 2) hk
    have hm : j % 2 = 0 ∨ j % 2 = 1 := by omega
    rcases hm with hm | hm
    · rw [hm] at e; rw [show o + j = o + j / 2 * 2 by omega, c0]; exact e.symm
    · rw [hm] at e; rw [show o + j = o + j / 2 * 2 + 1 by omega, c1]; exact e.symm
theorem AtS.of_cells {w : World} {g o : Nat} {l : List St} (hg : g < w.heap.size) (h : ∀ j u, (rowS l)[j]? = some u → w.cell? ⟨g, o + j, none⟩ = some u) : AtS w (some ⟨g, o, none⟩) l := by
  refine .inr ⟨g, o, rfl, hg, fun k hk => ?_⟩
  have e := fun j (hj : j < 2) => rowS_get l k hk j hj
  exact ⟨by rw [show o + k * 2 = o + (k * 2 + 0) by omega]; exact h _ _ (e 0 (by omega)), by rw [show o + k * 2 + 1 = o + (k * 2 + 1) by omega]; exact h _ _ (e 1 (by omega))⟩
theorem AtS.take {w : World} {A : Option Addr} {l : List St} (h : AtS w A l) (m : Nat) : AtS w A (l.take m) := by
  rcases h with h | ⟨g, o, h1, h2, h3⟩
  · left; rw [h]; exact List.take_nil
  · refine .inr ⟨g, o, h1, h2, fun k hk => ?_⟩
    rw [List.getElem_take]
    exact h3 k (by rw [List.length_take] at hk; omega)
theorem AtS.drop {w : World} {g o : Nat} {l : List St} (h : AtS w (some ⟨g, o, none⟩) l) (m : Nat) : AtS w (some ⟨g, o + m * 2, none⟩) (l.drop m) := by
  rcases h with h | ⟨g', o', h1, h2, h3⟩
  · left; rw [h]; exact List.drop_nil
  · injection h1 with h1; injection h1 with e1 e2 _
    subst e1 e2
    refine .inr ⟨g, _, rfl, h2, fun k hk => ?_⟩
    rw [List.getElem_drop]
    have := h3 (m + k) (by rw [List.length_drop] at hk; omega)
    rw [show o + m * 2 + k * 2 = o + (m + k) * 2 by omega]
    exact this
/-- A row of one's own is a list in memory. -/
theorem at_rowS {w : World} {base n : Nat} {v : Value} {l : List St} (h : w.ownsRow base 51 2 v n (rowS l)) (hn : l.length = n) : ∃ A cb, v = .slice A n cb ∧ n ≤ cb ∧ cb ≤ maxLen ∧ AtS w A l := by
  have h0 := h
  rcases h.2 with ⟨hv, hz⟩ | ⟨g, cap, cur, hv, hb, hg, hcap, hcm, _⟩
  · subst hz
    refine ⟨none, 0, hv, Nat.le_refl _, by decide, .inl (List.eq_nil_of_length_eq_zero hn)⟩
  · subst hv
    refine ⟨some ⟨g, 0, none⟩, cap, rfl, hcap, hcm, AtS.of_cells (Array.getElem?_eq_some_iff.1 hg).1 fun j u hj => ?_⟩
    rw [Nat.zero_add]
    exact (h0.cellAt j (by rw [← hn, ← rowS_len]; exact (List.getElem?_eq_some_iff.1 hj).1)).trans hj
theorem own_atS {w : World} {base n cb : Nat} {B : Option Addr} {l : List St} (h : w.ownsRow base 51 2 (.slice B n cb) n (rowS l)) (hl : l.length = n) : AtS w B l := by
  obtain ⟨A, c, hv, _, _, hP⟩ := at_rowS h hl
  injection hv with e1 _ _
  rw [e1]; exact hP
/-- What hands back a list of the call's own; a list somewhere in memory. -/
def OwnS (base : Nat) (l : List St) (w : World) (e : Ending) (w' : World) : Prop := ∃ B cb, e = .returned (.slice B l.length cb) ∧ w'.ownsRow base 51 2 (.slice B l.length cb) l.length (rowS l) ∧ Below w.heap.size w w'
end Go.Proofs.Ytjhppkjngifibaa
