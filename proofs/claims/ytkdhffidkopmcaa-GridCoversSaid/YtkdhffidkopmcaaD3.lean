/- Layer 12, plain: the smallest area that contains an area and no part of a rectangle. -/
import Derived.Test.YtkdhffidkopmcaaD2
namespace Go.Proofs.Ytkdhffidkopmcaa
open Go.RowKit Go.Lib
set_option linter.unusedVariables false

/-- An area: the rows from t on before b, the columns from l on before r. -/
structure Ar where
  t : Nat
  l : Nat
  b : Nat
  r : Nat
def rAr (q : Gd.Rc) : Ar := ⟨q.row, q.left, q.bot, q.right⟩
namespace Ar
def Sub (x y : Ar) : Prop := y.t ≤ x.t ∧ y.l ≤ x.l ∧ x.b ≤ y.b ∧ x.r ≤ y.r
def Ov (x y : Ar) : Prop := y.t < x.b ∧ x.t < y.b ∧ y.l < x.r ∧ x.l < y.r
def join (x y : Ar) : Ar := ⟨min x.t y.t, min x.l y.l, max x.b y.b, max x.r y.r⟩
theorem Sub.refl (x : Ar) : x.Sub x := ⟨Nat.le_refl _, Nat.le_refl _, Nat.le_refl _, Nat.le_refl _⟩
theorem Sub.trans {x y z : Ar} (h : x.Sub y) (h' : y.Sub z) : x.Sub z := by unfold Sub at *; omega
theorem Sub.anti {x y : Ar} (h : x.Sub y) (h' : y.Sub x) : x = y := by
  cases x; cases y
  unfold Sub at *
  simp only at h h'
  simp only [Ar.mk.injEq]
  omega
theorem Sub.join (x y : Ar) : x.Sub (x.join y) := by unfold Sub Ar.join; simp only; omega
theorem join_sub {x y z : Ar} (h : x.Sub z) (h' : y.Sub z) : (x.join y).Sub z := by unfold Sub Ar.join at *; simp only; omega
theorem join_self {x y : Ar} (h : x.join y = x) : y.Sub x := by
  cases x
  unfold Ar.join at h
  simp only [Ar.mk.injEq] at h
  unfold Sub
  simp only
  omega
/-- No rectangle is cut. -/
def Closed (rs : List Gd.Rc) (x : Ar) : Prop := ∀ q ∈ rs, x.Ov (rAr q) → (rAr q).Sub x
/-- Every closed area that contains a contains x. -/
def Least (rs : List Gd.Rc) (a x : Ar) : Prop := a.Sub x ∧ ∀ d, a.Sub d → Closed rs d → x.Sub d
theorem Least.refl (rs : List Gd.Rc) (a : Ar) : Least rs a a := ⟨Sub.refl a, fun d h _ => h⟩
theorem Ov.sub {x y z : Ar} (h : x.Ov z) (h' : x.Sub y) : y.Ov z := by unfold Ov Sub at *; omega
theorem Least.step {rs : List Gd.Rc} {a x : Ar} (h : Least rs a x) {q : Gd.Rc} (hq : q ∈ rs) (ho : x.Ov (rAr q)) : Least rs a (x.join (rAr q)) :=
  ⟨h.1.trans (Sub.join _ _), fun d h1 h2 => join_sub (h.2 d h1 h2) (h2 q hq (ho.sub (h.2 d h1 h2)))⟩
theorem Least.unique {rs : List Gd.Rc} {a x y : Ar} (h : Least rs a x) (h' : Least rs a y) (hx : Closed rs x) (hy : Closed rs y) : x = y :=
  (h.2 y h'.1 hy).anti (h'.2 x h.1 hx)
theorem Least.self {rs : List Gd.Rc} {a x : Ar} (h : Least rs a x) (hx : Closed rs a) : x = a := (h.2 a (Sub.refl a) hx).anti h.1
/-- An area of the grid. -/
def In (x : Ar) (N : Nat) : Prop := x.t < x.b ∧ x.b ≤ N ∧ x.l < x.r ∧ x.r ≤ 32
def mu (x : Ar) : Nat := x.t + x.l + (10 - x.b) + (32 - x.r)
theorem mu_lt {x y : Ar} {N : Nat} (h : x.Sub y) (hne : x ≠ y) (hN : N ≤ 10) (hy : y.In N) : y.mu < x.mu := by
  have : ¬ y.Sub x := fun h' => hne (h.anti h')
  unfold Sub In mu at *
  omega
theorem In.join {x : Ar} {N : Nat} (h : x.In N) {y : Ar} (h' : y.In N) : (x.join y).In N := by unfold In Ar.join at *; simp only; omega
end Ar
theorem rAr_in {T : List (List Cl)} {rs : List Gd.Rc} {g : Nat → Nat → Option Nat} (hF : Gd.Fin (plT T) rs g) {q : Gd.Rc} (hq : q ∈ rs) : (rAr q).In T.length := by
  obtain ⟨⟨m, ha⟩, hlt, _, hb⟩ := hF.cell q hq
  have h1 := ha.ok (plT_ok T)
  have h2 := hb.2.1
  rw [plT_len] at h2
  exact ⟨hb.1, h2, hlt, h1.2⟩
open Classical in
/-- What Area.cover makes of an area and a rectangle. -/
noncomputable def cov (x y : Ar) : Ar := if x.Ov y then x.join y else x
theorem cov_yes {x y : Ar} (h : x.Ov y) : cov x y = x.join y := by unfold cov; rw [if_pos h]
theorem cov_no {x y : Ar} (h : ¬ x.Ov y) : cov x y = x := by unfold cov; rw [if_neg h]
theorem cov_sub (x y : Ar) : x.Sub (cov x y) := by
  by_cases h : x.Ov y
  · rw [cov_yes h]; exact Ar.Sub.join x y
  · rw [cov_no h]; exact Ar.Sub.refl x
theorem cov_least {rs : List Gd.Rc} {a x : Ar} (h : Ar.Least rs a x) {q : Gd.Rc} (hq : q ∈ rs) : Ar.Least rs a (cov x (rAr q)) := by
  by_cases ho : x.Ov (rAr q)
  · rw [cov_yes ho]; exact h.step hq ho
  · rw [cov_no ho]; exact h
theorem cov_in {x y : Ar} {N : Nat} (h : x.In N) (h' : y.In N) : (cov x y).In N := by
  by_cases ho : x.Ov y
  · rw [cov_yes ho]; exact h.join h'
  · rw [cov_no ho]; exact h
theorem cov_self {x y : Ar} (h : cov x y = x) (ho : x.Ov y) : y.Sub x := by
  rw [cov_yes ho] at h
  exact Ar.join_self h
/-- An area is grown from x: it contains x, and if it is x, then none of the first k rectangles is cut. -/
def Grown' (rs : List Gd.Rc) (x : Ar) (k : Nat) (y : Ar) : Prop := x.Sub y ∧ (y = x → ∀ j (h : j < rs.length), j < k → x.Ov (rAr rs[j]) → (rAr rs[j]).Sub x)
theorem Grown'.zero (rs : List Gd.Rc) (x : Ar) : Grown' rs x 0 x := ⟨Ar.Sub.refl x, fun _ j h h' => absurd h' (Nat.not_lt_zero _)⟩
theorem Grown'.step {rs : List Gd.Rc} {x y : Ar} {k : Nat} (h : Grown' rs x k y) (hk : k < rs.length) : Grown' rs x (k + 1) (cov y (rAr rs[k])) := by
  refine ⟨h.1.trans (cov_sub _ _), fun e j hj hjk ho => ?_⟩
  have hy : y = x := (by have := cov_sub y (rAr rs[k]); rw [e] at this; exact this.anti h.1)
  by_cases ej : j = k
  · subst ej
    rw [hy] at e
    exact cov_self e ho
  · exact h.2 hy j hj (by omega) ho
theorem Grown'.more {rs : List Gd.Rc} {x y z : Ar} {k : Nat} (h : Grown' rs x k y) (hs : y.Sub z) : Grown' rs x k z :=
  ⟨h.1.trans hs, fun e => by
    subst e
    exact h.2 (hs.anti h.1)⟩
theorem Grown'.closed {rs : List Gd.Rc} {x y : Ar} (h : Grown' rs x rs.length y) (e : y = x) : Ar.Closed rs x := fun q hq ho => by
  obtain ⟨j, hj, rfl⟩ := List.mem_iff_getElem.1 hq
  exact h.2 e j hj hj ho
/-- No rectangle is cut, told by cells: each cell of the area's rows with columns in it has its rectangle inside. -/
theorem closed_cells {T : List (List Cl)} {rs : List Gd.Rc} {g : Nat → Nat → Option Nat} (hF : Gd.Fin (plT T) rs g) {x : Ar} (hxt : x.t < x.b)
    (h : ∀ i k f t m, x.t ≤ i → i < x.b → Gd.At (plT T) i k f t m → f < t → f < x.r → x.l < t → ∀ c, Gd.Bt (plT T) f t i c → (⟨Gd.top (plT T) f t i, f, c, t⟩ : Ar).Sub x) : Ar.Closed rs x := by
  intro q hq ho
  obtain ⟨⟨m, ha⟩, hlt, hk, hb⟩ := hF.cell q hq
  obtain ⟨o1, o2, o3, o4⟩ := ho
  have o1' : q.row < x.b := o1
  have o2' : x.t < q.bot := o2
  have o3' : q.left < x.r := o3
  have o4' : x.l < q.right := o4
  obtain ⟨i, hi⟩ : ∃ i, i = max q.row x.t := ⟨_, rfl⟩
  have hH : ∃ m, Gd.Has (plT T) i q.left q.right m := by
    by_cases e : i = q.row
    · rw [e]; exact ⟨m, ha.has hlt⟩
    · exact ⟨_, (hb.2.2.1 i (by omega) (by omega)).has⟩
  obtain ⟨m', hH⟩ := hH
  obtain ⟨k, hat⟩ := hH.at
  have htop : q.row = Gd.top (plT T) q.left q.right i := Gd.top_unique (by omega) hk fun y h1 h2 => hb.2.2.1 y h1 (by omega)
  have hb1 := hb.1
  have hbt : Gd.Bt (plT T) q.left q.right i q.bot := ⟨by omega, hb.2.1, fun y h1 h2 => hb.2.2.1 y (by omega) h2, hb.2.2.2⟩
  have := h i k q.left q.right m' (by omega) (by omega) hat hlt o3' o4' q.bot hbt
  rw [← htop] at this
  exact this
/-- The rectangle of a cell is one of them. -/
theorem rect_mem {T : List (List Cl)} {rs : List Gd.Rc} {g : Nat → Nat → Option Nat} (hF : Gd.Fin (plT T) rs g) {i k f t c : Nat} {m : Int} (ha : Gd.At (plT T) i k f t m) (hft : f < t) (hb : Gd.Bt (plT T) f t i c) :
    ∃ q ∈ rs, rAr q = ⟨Gd.top (plT T) f t i, f, c, t⟩ := by
  obtain ⟨j, q, _, hq, hl, hr, hrow, hbt, _⟩ := hF.get (plT_ok T) ha hft
  refine ⟨q, List.mem_of_getElem? hq, ?_⟩
  unfold rAr
  rw [hl, hr, hrow, Gd.Bt.unique hb hbt]
end Go.Proofs.Ytkdhffidkopmcaa
