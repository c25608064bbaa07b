/- Layer 12, plain: the cells of rows; what continues; where a rectangle starts. -/
import Derived.WalkKit
namespace Go.Proofs.Ytkdhffidkopmcaa
namespace Gd
set_option linter.unusedVariables false
set_option linter.unusedSimpArgs false
/-- A cell by its columns and its merge: from, to, merge. -/
abbrev Ce := Nat × Nat × Int
/-- The column behind a cell that begins at f. -/
def stp (f : Nat) (c : Int) : Nat := f + min (max c 1).toNat (32 - f)
/-- The cells of a row. -/
def cel (f : Nat) : List (Int × Int) → List Ce
  | [] => []
  | x :: r => (f, stp f x.1, x.2) :: cel (stp f x.1) r
theorem stp_le {f : Nat} (c : Int) (h : f ≤ 32) : stp f c ≤ 32 := by unfold stp; omega
theorem le_stp (f : Nat) (c : Int) : f ≤ stp f c := by unfold stp; omega
theorem stp_lt {f : Nat} (c : Int) (h : f < 32) : f < stp f c := by unfold stp; omega
/-- The column behind all cells. -/
def fin (f : Nat) : List (Int × Int) → Nat
  | [] => f
  | x :: r => fin (stp f x.1) r
theorem fin_le : ∀ (r : List (Int × Int)) {f : Nat}, f ≤ 32 → fin f r ≤ 32
  | [], _, h => h
  | x :: r, _, h => fin_le r (stp_le x.1 h)
theorem le_fin : ∀ (r : List (Int × Int)) (f : Nat), f ≤ fin f r
  | [], f => Nat.le_refl _
  | x :: r, f => Nat.le_trans (le_stp f x.1) (le_fin r _)
theorem cel_len : ∀ (r : List (Int × Int)) (f : Nat), (cel f r).length = r.length
  | [], _ => rfl
  | x :: r, f => by simp [cel, cel_len r]
/-- A row's cells follow each other. -/
def RowOk (L : List Ce) : Prop := L.Pairwise (fun a b => a.2.1 ≤ b.1) ∧ ∀ x ∈ L, x.1 ≤ x.2.1 ∧ x.2.1 ≤ 32
theorem cel_lo : ∀ (r : List (Int × Int)) (f : Nat), ∀ x ∈ cel f r, f ≤ x.1
  | [], _, x, h => by simp [cel] at h
  | y :: r, f, x, h => by
    rcases List.mem_cons.1 h with rfl | h
    · exact Nat.le_refl _
    · exact Nat.le_trans (le_stp f y.1) (cel_lo r _ x h)
theorem cel_ok : ∀ (r : List (Int × Int)) {f : Nat}, f ≤ 32 → RowOk (cel f r)
  | [], _, _ => ⟨List.Pairwise.nil, fun x h => by simp [cel] at h⟩
  | y :: r, f, h => by
    have ih := cel_ok r (stp_le y.1 h)
    refine ⟨List.pairwise_cons.2 ⟨fun x hx => cel_lo r _ x hx, ih.1⟩, fun x hx => ?_⟩
    rcases List.mem_cons.1 hx with rfl | hx
    · exact ⟨le_stp f y.1, stp_le y.1 h⟩
    · exact ih.2 x hx
theorem cel_snoc (r : List (Int × Int)) (x : Int × Int) : ∀ f, cel f (r ++ [x]) = cel f r ++ [(fin f r, stp (fin f r) x.1, x.2)] := by
  induction r with
  | nil => intro f; rfl
  | cons y r ih => intro f; simp [cel, fin, ih]
theorem fin_snoc (r : List (Int × Int)) (x : Int × Int) : ∀ f, fin f (r ++ [x]) = stp (fin f r) x.1 := by
  induction r with
  | nil => intro f; rfl
  | cons y r ih => intro f; simp [fin, ih]
theorem cel_get (r : List (Int × Int)) : ∀ (f k : Nat) (h : k < r.length), (cel f r)[k]'(by rw [cel_len]; exact h) = (fin f (r.take k), fin f (r.take (k + 1)), r[k].2) := by
  induction r with
  | nil => intro f k h; simp at h
  | cons y r ih =>
    intro f k h
    cases k with
    | zero => simp [cel, fin]
    | succ k =>
      have := ih (stp f y.1) k (by simpa using h)
      simp [cel, fin]
      exact this
theorem fin_take_succ (r : List (Int × Int)) (f k : Nat) (h : k < r.length) : fin f (r.take (k + 1)) = stp (fin f (r.take k)) r[k].1 := by
  rw [List.take_succ_eq_append_getElem h, fin_snoc]
/-- The columns of a row. -/
def ends (L : List Ce) : Nat := match L.getLast? with | some x => x.2.1 | none => 0
theorem RowOk.uniq {L : List Ce} (h : RowOk L) {i j : Nat} (hi : i < L.length) (hj : j < L.length) (ni : L[i].1 < L[i].2.1) (nj : L[j].1 < L[j].2.1) (e : L[i].1 = L[j].1) : i = j := by
  rcases Nat.lt_trichotomy i j with c | c | c
  · have := List.pairwise_iff_getElem.1 h.1 i j hi hj c; omega
  · exact c
  · have := List.pairwise_iff_getElem.1 h.1 j i hj hi c; omega
theorem RowOk.disj {L : List Ce} (h : RowOk L) {i j c : Nat} (hi : i < L.length) (hj : j < L.length) (a1 : L[i].1 ≤ c) (a2 : c < L[i].2.1) (b1 : L[j].1 ≤ c) (b2 : c < L[j].2.1) : i = j := by
  rcases Nat.lt_trichotomy i j with q | q | q
  · have := List.pairwise_iff_getElem.1 h.1 i j hi hj q; omega
  · exact q
  · have := List.pairwise_iff_getElem.1 h.1 j i hj hi q; omega
theorem RowOk.mem_uniq {L : List Ce} (h : RowOk L) {x y : Ce} (hx : x ∈ L) (hy : y ∈ L) (nx : x.1 < x.2.1) (ny : y.1 < y.2.1) (e : x.1 = y.1) : x = y := by
  obtain ⟨i, hi, rfl⟩ := List.mem_iff_getElem.1 hx
  obtain ⟨j, hj, rfl⟩ := List.mem_iff_getElem.1 hy
  have := h.uniq hi hj nx ny e
  subst this; rfl
theorem RowOk.mem_disj {L : List Ce} (h : RowOk L) {x y : Ce} {c : Nat} (hx : x ∈ L) (hy : y ∈ L) (a1 : x.1 ≤ c) (a2 : c < x.2.1) (b1 : y.1 ≤ c) (b2 : c < y.2.1) : x = y := by
  obtain ⟨i, hi, rfl⟩ := List.mem_iff_getElem.1 hx
  obtain ⟨j, hj, rfl⟩ := List.mem_iff_getElem.1 hy
  have := h.disj hi hj a1 a2 b1 b2
  subst this; rfl

/-- A table: its rows' cells. -/
abbrev Tb := List (List Ce)
def TbOk (T : Tb) : Prop := ∀ L ∈ T, RowOk L
/-- A row has a cell with the columns from f to t, with the merge m. -/
def Has (T : Tb) (i f t : Nat) (m : Int) : Prop := ∃ L, T[i]? = some L ∧ (f, t, m) ∈ L ∧ f < t
theorem Has.uniq {T : Tb} (h : TbOk T) {i f t t' : Nat} {m m' : Int} (a : Has T i f t m) (b : Has T i f t' m') : t = t' ∧ m = m' := by
  obtain ⟨L, h1, h2, h3⟩ := a
  obtain ⟨L', h1', h2', h3'⟩ := b
  rw [h1] at h1'; cases h1'
  have := (h L (List.mem_of_getElem? h1)).mem_uniq h2 h2' h3 h3' rfl
  cases this; exact ⟨rfl, rfl⟩
theorem Has.disj {T : Tb} (h : TbOk T) {i f t f' t' c : Nat} {m m' : Int} (a : Has T i f t m) (b : Has T i f' t' m') (a1 : f ≤ c) (a2 : c < t) (b1 : f' ≤ c) (b2 : c < t') : f = f' ∧ t = t' ∧ m = m' := by
  obtain ⟨L, h1, h2, h3⟩ := a
  obtain ⟨L', h1', h2', h3'⟩ := b
  rw [h1] at h1'; cases h1'
  have := (h L (List.mem_of_getElem? h1)).mem_disj h2 h2' (c := c) a1 a2 b1 b2
  cases this; exact ⟨rfl, rfl, rfl⟩
/-- A cell continues the one above it. -/
def Kc (T : Tb) (i f t : Nat) : Prop := ∃ j, i = j + 1 ∧ Has T i f t 2 ∧ (Has T j f t 1 ∨ Has T j f t 2)
theorem Kc.has {T : Tb} {i f t : Nat} (h : Kc T i f t) : Has T i f t 2 := by obtain ⟨j, _, h, _⟩ := h; exact h
theorem Kc.up {T : Tb} {i f t : Nat} (h : Kc T (i + 1) f t) : Has T i f t 1 ∨ Has T i f t 2 := by obtain ⟨j, e, _, h⟩ := h; injection e with e; subst e; exact h
open Classical in
/-- The row at which a cell's rectangle starts. -/
noncomputable def top (T : Tb) (f t : Nat) : Nat → Nat
  | 0 => 0
  | i + 1 => if Kc T (i + 1) f t then top T f t i else i + 1
theorem top_le (T : Tb) (f t : Nat) : ∀ i, top T f t i ≤ i
  | 0 => Nat.le_refl _
  | i + 1 => by unfold top; split; exact Nat.le_succ_of_le (top_le T f t i); exact Nat.le_refl _
theorem Kc.zero {T : Tb} {f t : Nat} : ¬ Kc T 0 f t := fun ⟨j, e, _⟩ => by omega
theorem top_not (T : Tb) (f t : Nat) : ∀ i, ¬ Kc T (top T f t i) f t
  | 0 => Kc.zero
  | i + 1 => by
    unfold top; split
    · exact top_not T f t i
    · assumption
theorem top_all (T : Tb) (f t : Nat) : ∀ i x, top T f t i < x → x ≤ i → Kc T x f t
  | 0, x, h, h' => by omega
  | i + 1, x, h, h' => by
    unfold top at h
    split at h
    · by_cases e : x = i + 1
      · subst e; assumption
      · exact top_all T f t i x h (by omega)
    · omega
theorem top_has {T : Tb} {f t : Nat} : ∀ i m, Has T i f t m → ∃ m', Has T (top T f t i) f t m'
  | 0, m, h => ⟨m, h⟩
  | i + 1, m, h => by
    unfold top; split
    · next k => rcases k.up with q | q; exact top_has i _ q; exact top_has i _ q
    · exact ⟨m, h⟩
/-- It is told by these three. -/
theorem top_unique {T : Tb} {f t i j : Nat} (h1 : j ≤ i) (h2 : ¬ Kc T j f t) (h3 : ∀ x, j < x → x ≤ i → Kc T x f t) : j = top T f t i := by
  rcases Nat.lt_trichotomy j (top T f t i) with c | c | c
  · exact absurd (h3 _ c (top_le T f t i)) (top_not T f t i)
  · exact c
  · exact absurd (top_all T f t i j c h1) h2
theorem top_self {T : Tb} {f t i : Nat} (h : ¬ Kc T i f t) : top T f t i = i := (top_unique (Nat.le_refl i) h (fun x a b => by omega)).symm
theorem top_succ {T : Tb} {f t i : Nat} (h : Kc T (i + 1) f t) : top T f t (i + 1) = top T f t i := by
  conv => lhs; unfold top
  rw [if_pos h]
end Gd
end Go.Proofs.Ytkdhffidkopmcaa
