/- Layer 22: revisions in memory; the errors of revisions and tables, plainly. -/
import Derived.Test.YtmpklkhjipclmaaG1
import Derived.Test.YtmpklkhjipclmaaProg
import Derived.Deep.Slices
namespace Go.Proofs.Ytmpklkhjipclmaa
open Go.RowKit Go.Lib
set_option linter.unusedVariables false

structure Rv where
  id : Int
  author : ByteArray
  time : Int
deriving DecidableEq
instance : Inhabited Rv := ⟨⟨0, ⟨#[]⟩, 0⟩⟩
def rowR1 (x : Rv) : List Value := [.int .i64 x.id, .string x.author, .int .i64 x.time]
def rowR (L : List Rv) : List Value := L.flatMap rowR1
abbrev rvV (x : Rv) : Value := .agg #[.int .i64 x.id, .string x.author, .int .i64 x.time]
theorem rowR1_len (x : Rv) : (rowR1 x).length = 3 := rfl
theorem rowR_cons (x : Rv) (L : List Rv) : rowR (x :: L) = rowR1 x ++ rowR L := rfl
theorem rowR_len (L : List Rv) : (rowR L).length = L.length * 3 := by
  induction L with
  | nil => rfl
  | cons x L ih =>
    show (rowR1 x ++ rowR L).length = _
    rw [List.length_append, ih, rowR1_len, List.length_cons]
    omega
theorem rowR_append (L M : List Rv) : rowR (L ++ M) = rowR L ++ rowR M := by simp [rowR]
theorem rowR_snoc (L : List Rv) (x : Rv) : rowR (L ++ [x]) = rowR L ++ rowR1 x := by rw [rowR_append]; simp [rowR]
theorem rowR_get (L : List Rv) : ∀ k (h : k < L.length) j, j < 3 → (rowR L)[k * 3 + j]? = (rowR1 L[k])[j]? := by
  induction L with
  | nil => intro k h; exact absurd h (Nat.not_lt_zero _)
  | cons x L ih =>
    intro k h j hj
    have e : rowR (x :: L) = rowR1 x ++ rowR L := rfl
    rw [e]
    cases k with
    | zero => rw [Nat.zero_mul, Nat.zero_add, List.getElem?_append_left (by rw [rowR1_len]; exact hj)]; rfl
    | succ k =>
      rw [List.getElem?_append_right (by rw [rowR1_len]; omega), rowR1_len, show (k + 1) * 3 + j - 3 = k * 3 + j by omega]
      exact ih k (by simpa using h) j hj
theorem rowR1_one (x : Rv) : ∀ u ∈ rowR1 x, u.oneCell' = true := by
  intro u hu
  unfold rowR1 at hu
  simp only [List.mem_cons, List.not_mem_nil, or_false] at hu
  rcases hu with rfl | rfl | rfl <;> rfl
theorem rowR_one (L : List Rv) : ∀ u ∈ rowR L, u.oneCell' = true := by
  intro u hu
  unfold rowR at hu
  rw [List.mem_flatMap] at hu
  obtain ⟨x, _, hu⟩ := hu
  exact rowR1_one x u hu
/-- A revision in memory. -/
def RvAt (w : World) (g o : Nat) (x : Rv) : Prop := w.cell? ⟨g, o, none⟩ = some (.int .i64 x.id) ∧ w.cell? ⟨g, o + 1, none⟩ = some (.string x.author) ∧ w.cell? ⟨g, o + 2, none⟩ = some (.int .i64 x.time)
/-- A table in memory. -/
def RsAt (w : World) (A : Option Addr) (l : List Rv) : Prop := l = [] ∨ ∃ g o, A = some ⟨g, o, none⟩ ∧ g < w.heap.size ∧ ∀ k (h : k < l.length), RvAt w g (o + k * 3) l[k]
theorem RvAt.below {w w' : World} {g o : Nat} {x : Rv} (h : RvAt w g o x) (hg : g < w.heap.size) (hb : Below w.heap.size w w') : RvAt w' g o x :=
  ⟨(hb.cell (p := ⟨g, o, none⟩) hg).trans h.1, (hb.cell (p := ⟨g, o + 1, none⟩) hg).trans h.2.1, (hb.cell (p := ⟨g, o + 2, none⟩) hg).trans h.2.2⟩
theorem RsAt.below {w w' : World} {A : Option Addr} {l : List Rv} (h : RsAt w A l) (hb : Below w.heap.size w w') : RsAt w' A l := by
  rcases h with h | ⟨g, o, h1, h2, h3⟩
  · exact .inl h
  · exact .inr ⟨g, o, h1, Nat.lt_of_lt_of_le h2 hb.size, fun k hk => (h3 k hk).below h2 hb⟩
theorem RsAt.pos {w : World} {A : Option Addr} {l : List Rv} (h : RsAt w A l) (hp : 0 < l.length) : ∃ g o, A = some ⟨g, o, none⟩ ∧ g < w.heap.size ∧ ∀ k (h : k < l.length), RvAt w g (o + k * 3) l[k] := by
  rcases h with h | h
  · rw [h] at hp; exact absurd hp (Nat.lt_irrefl _)
  · exact h
theorem RsAt.cells {w : World} {g o : Nat} {l : List Rv} (h : RsAt w (some ⟨g, o, none⟩) l) : ∀ j u, (rowR l)[j]? = some u → w.cell? ⟨g, o + j, none⟩ = some u := by
  intro j u hj
  rcases h with h | ⟨g', o', hg, _, hc⟩
  · subst h; simp [rowR] at hj
  · injection hg with hg; injection hg with h1 h2 _
    subst h1 h2
    have hlt : j < l.length * 3 := by rw [← rowR_len]; exact (List.getElem?_eq_some_iff.1 hj).1
    have hk : j / 3 < l.length := by omega
    have e3 : j / 3 * 3 + j % 3 = j := by omega
    have e := rowR_get l (j / 3) hk (j % 3) (by omega)
    rw [e3, hj] at e
    obtain ⟨c0, c1, c2⟩ := hc (j / 3) hk
    have hm : j % 3 = 0 ∨ j % 3 = 1 ∨ j % 3 = 2 := by omega
    rcases hm with hm | hm | hm
    · rw [hm] at e; rw [show o + j = o + j / 3 * 3 by omega, c0]; exact e.symm
    · rw [hm] at e; rw [show o + j = o + j / 3 * 3 + 1 by omega, c1]; exact e.symm
    · rw [hm] at e; rw [show o + j = o + j / 3 * 3 + 2 by omega, c2]; exact e.symm
theorem RsAt.of_cells {w : World} {g o : Nat} {l : List Rv} (hg : g < w.heap.size) (h : ∀ j u, (rowR l)[j]? = some u → w.cell? ⟨g, o + j, none⟩ = some u) : RsAt w (some ⟨g, o, none⟩) l := by
  refine .inr ⟨g, o, rfl, hg, fun k hk => ?_⟩
  have e := fun j (hj : j < 3) => rowR_get l k hk j hj
  exact ⟨by rw [show o + k * 3 = o + (k * 3 + 0) by omega]; exact h _ _ (e 0 (by omega)), by rw [show o + k * 3 + 1 = o + (k * 3 + 1) by omega]; exact h _ _ (e 1 (by omega)), by rw [show o + k * 3 + 2 = o + (k * 3 + 2) by omega]; exact h _ _ (e 2 (by omega))⟩
theorem RsAt.take {w : World} {A : Option Addr} {l : List Rv} (h : RsAt w A l) (m : Nat) : RsAt w A (l.take m) := by
  rcases h with h | ⟨g, o, h1, h2, h3⟩
  · left; rw [h]; exact List.take_nil
  · refine .inr ⟨g, o, h1, h2, fun k hk => ?_⟩
    rw [List.getElem_take]
    exact h3 k (by rw [List.length_take] at hk; omega)
theorem RsAt.drop {w : World} {g o : Nat} {l : List Rv} (h : RsAt w (some ⟨g, o, none⟩) l) (m : Nat) : RsAt w (some ⟨g, o + m * 3, none⟩) (l.drop m) := by
  rcases h with h | ⟨g', o', h1, h2, h3⟩
  · left; rw [h]; exact List.drop_nil
  · injection h1 with h1; injection h1 with e1 e2 _
    subst e1 e2
    refine .inr ⟨g, _, rfl, h2, fun k hk => ?_⟩
    rw [List.getElem_drop]
    have := h3 (m + k) (by rw [List.length_drop] at hk; omega)
    rw [show o + m * 3 + k * 3 = o + (m + k) * 3 by omega]
    exact this
/-- A row of one's own is a table in memory. -/
theorem row_rs {w : World} {base n : Nat} {v : Value} {l : List Rv} (h : w.ownsRow base 23 3 v n (rowR l)) (hn : l.length = n) : ∃ A cb, v = .slice A n cb ∧ n ≤ cb ∧ cb ≤ maxLen ∧ RsAt w A l := by
  have h0 := h
  rcases h.2 with ⟨hv, hz⟩ | ⟨g, cap, cur, hv, hb, hg, hcap, hcm, _⟩
  · subst hz
    refine ⟨none, 0, hv, Nat.le_refl _, by decide, .inl (List.eq_nil_of_length_eq_zero hn)⟩
  · subst hv
    refine ⟨some ⟨g, 0, none⟩, cap, rfl, hcap, hcm, RsAt.of_cells (Array.getElem?_eq_some_iff.1 hg).1 fun j u hj => ?_⟩
    rw [Nat.zero_add]
    exact (h0.cellAt j (by rw [← hn, ← rowR_len]; exact (List.getElem?_eq_some_iff.1 hj).1)).trans hj

/-- The error of a revision; v: whether its author is valid. -/
def chkR (v : ByteArray → Bool) (x : Rv) : Int :=
  if x.id < 1 ∨ 1073741824 < x.id then 18 else if x.author.size = 0 then 11 else if 40 < x.author.size then 10 else if v x.author = false then 12 else if x.time < 0 ∨ 1099511627776 < x.time then 40 else 0
/-- The error at a place of a table. -/
def chkAt (v : ByteArray → Bool) (l : List Rv) (i : Nat) : Int :=
  match l[i]? with
  | none => 0
  | some x => if chkR v x ≠ 0 then chkR v x else if i = 0 then 0 else match l[i - 1]? with
    | none => 0
    | some y => if x.id = y.id then 7 else if x.id < y.id then 6 else 0
def chkL (v : ByteArray → Bool) (l : List Rv) : Int :=
  if 256 < l.length then 9 else ((List.range l.length).map (chkAt v l)).foldr (fun a b => if a ≠ 0 then a else b) 0
theorem foldr_first (f : Nat → Int) : ∀ (m n : Nat), (∀ j, j < m → j < n → f j = 0) → ∀ k, m ≤ n → k = n - m → ((List.range' 0 n).map f).foldr (fun a b => if a ≠ 0 then a else b) 0 = ((List.range' m k).map f).foldr (fun a b => if a ≠ 0 then a else b) 0 := by
  intro m
  induction m with
  | zero => intro n _ k _ hk; rw [hk, Nat.sub_zero]
  | succ m ih =>
    intro n h k hm hk
    rw [ih n (fun j h1 h2 => h j (by omega) h2) (k + 1) (by omega) (by omega), List.range'_succ, List.map_cons, List.foldr_cons, h m (by omega) (by omega)]
    simp
theorem chkL_first {v : ByteArray → Bool} {l : List Rv} {i : Nat} (h256 : l.length ≤ 256) (hi : i < l.length) (h0 : ∀ j, j < i → chkAt v l j = 0) (h1 : chkAt v l i ≠ 0) : chkL v l = chkAt v l i := by
  unfold chkL
  rw [if_neg (by omega), List.range_eq_range', foldr_first (chkAt v l) i l.length (fun j h _ => h0 j h) (l.length - i) (by omega) rfl, show l.length - i = (l.length - i - 1) + 1 by omega, List.range'_succ, List.map_cons, List.foldr_cons, if_pos h1]
theorem chkL_ok {v : ByteArray → Bool} {l : List Rv} (h256 : l.length ≤ 256) (h0 : ∀ j, j < l.length → chkAt v l j = 0) : chkL v l = 0 := by
  unfold chkL
  rw [if_neg (by omega), List.range_eq_range', foldr_first (chkAt v l) l.length l.length (fun j h _ => h0 j h) 0 (Nat.le_refl _) (by omega)]
  rfl
theorem chkL_long {v : ByteArray → Bool} {l : List Rv} (h : 256 < l.length) : chkL v l = 9 := by unfold chkL; rw [if_pos h]
theorem chkL_zero {v : ByteArray → Bool} {l : List Rv} (h : chkL v l = 0) : l.length ≤ 256 ∧ ∀ j, j < l.length → chkAt v l j = 0 := by
  by_cases h256 : 256 < l.length
  · rw [chkL_long h256] at h; exact absurd h (by decide)
  refine ⟨by omega, ?_⟩
  intro j
  induction j using Nat.strongRecOn with
  | ind j ih =>
    intro hj
    by_cases e : chkAt v l j = 0
    · exact e
    · rw [chkL_first (by omega) hj (fun k hk => ih k hk (by omega)) e] at h
      exact absurd h e
/-- What holds of a valid table. -/
theorem chkAt_zero {v : ByteArray → Bool} {l : List Rv} {j : Nat} (hj : j < l.length) (h : chkAt v l j = 0) : chkR v l[j] = 0 ∧ (0 < j → ∀ h' : j - 1 < l.length, l[j - 1].id < l[j].id) := by
  unfold chkAt at h
  rw [List.getElem?_eq_getElem hj] at h
  dsimp only at h
  by_cases e : chkR v l[j] = 0
  · refine ⟨e, fun h0 h' => ?_⟩
    rw [if_neg (by simp [e]), if_neg (by omega), List.getElem?_eq_getElem h'] at h
    dsimp only at h
    split at h
    · exact absurd h (by decide)
    · split at h
      · exact absurd h (by decide)
      · omega
  · rw [if_pos e] at h
    exact absurd h e
theorem chkL_inc {v : ByteArray → Bool} {l : List Rv} (h : chkL v l = 0) : ∀ i j (hi : i < j) (hj : j < l.length), (l[i]'(by omega)).id < l[j].id := by
  intro i j hi
  induction j with
  | zero => exact absurd hi (Nat.not_lt_zero _)
  | succ j ih =>
    intro hj
    have h1 := (chkAt_zero hj ((chkL_zero h).2 _ hj)).2 (by omega) (by omega)
    simp only [Nat.add_sub_cancel] at h1
    by_cases e : i = j
    · subst e; exact h1
    · exact Int.lt_trans (ih (by omega) (by omega)) h1
end Go.Proofs.Ytmpklkhjipclmaa
