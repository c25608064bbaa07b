/- Layer 12, plain: regular tables; the squares of all rectangles. -/
import Derived.Test.YtkdhffidkopmcaaD1
namespace Go.Proofs.Ytkdhffidkopmcaa
open Go.RowKit Go.Lib
set_option linter.unusedVariables false

theorem empty_32 {r : List Cl} {k : Nat} (hk : k < (plR r).length) (e : (plR r)[k].1 = (plR r)[k].2.1) : (plR r)[k].1 = 32 := by
  have hk' : k < (r.map val).length := by rw [List.length_map, ← plR_len]; exact hk
  have g := Gd.cel_get (r.map val) 0 k hk'
  have g1 : (plR r)[k].1 = Gd.fin 0 ((r.map val).take k) := congrArg (·.1) g
  have g2 : (plR r)[k].2.1 = Gd.fin 0 ((r.map val).take (k + 1)) := congrArg (·.2.1) g
  rw [Gd.fin_take_succ _ _ _ hk'] at g2
  rw [← g1] at g2
  have h5 := Gd.fin_le ((r.map val).take k) (show 0 ≤ 32 by omega)
  rw [← g1] at h5
  rcases Nat.lt_or_ge (plR r)[k].1 32 with c | c
  · have := Gd.stp_lt ((r.map val)[k]'hk').1 c
    omega
  · omega
/-- A row reaches to the end, and all of its cells have columns. -/
def RowP (L : List Gd.Ce) (w : Nat) : Prop := Gd.ends L = w ∧ ∀ x ∈ L, x.1 ≠ x.2.1
def RowQ (L : List Gd.Ce) (w : Nat) : Prop := (L = [] ∧ w = 0) ∨ ∃ x, L.getLast? = some x ∧ x.1 ≠ x.2.1 ∧ x.2.1 = w
theorem row_pq (r : List Cl) (w : Nat) : RowP (plR r) w ↔ RowQ (plR r) w := by
  constructor
  · rintro ⟨h1, h2⟩
    unfold Gd.ends at h1
    cases h : (plR r).getLast? with
    | none =>
      rw [h] at h1
      exact .inl ⟨List.getLast?_eq_none_iff.1 h, h1.symm⟩
    | some x =>
      rw [h] at h1
      exact .inr ⟨x, h, h2 x (List.mem_of_getLast? h), h1⟩
  · rintro (⟨h1, h2⟩ | ⟨x, h, h1, h2⟩)
    · rw [h1, h2]; exact ⟨rfl, fun x h => by cases h⟩
    · refine ⟨by unfold Gd.ends; rw [h]; exact h2, fun y hy e => h1 ?_⟩
      obtain ⟨k, hk, rfl⟩ := List.mem_iff_getElem.1 hy
      have h32 := empty_32 hk e
      rw [List.getLast?_eq_getElem?] at h
      obtain ⟨hl, hx⟩ := List.getElem?_eq_some_iff.1 h
      have ok := Gd.cel_ok (r.map val) (show 0 ≤ 32 by omega)
      by_cases ek : k = (plR r).length - 1
      · subst ek
        rw [← hx]; exact e
      · have := List.pairwise_iff_getElem.1 ok.1 k ((plR r).length - 1) hk hl (by omega)
        have h3 : (plR r)[k].2.1 ≤ x.1 := by rw [← hx]; exact this
        have h4 := ok.2 x (by rw [← hx]; exact List.getElem_mem hl)
        omega
def RegP (T : List (List Cl)) : Prop := ∀ i (h : i < T.length), RowP (plR T[i]) (wdt (plT T))
theorem wid_cel : ∀ (r : List (Int × Int)) (f : Nat), Gd.wid (Gd.cel f r) + f = Gd.fin f r
  | [], f => by simp [Gd.cel, Gd.wid, Gd.fin]
  | x :: r, f => by
    have := wid_cel r (Gd.stp f x.1)
    have h := Gd.le_stp f x.1
    simp [Gd.cel, Gd.wid, Gd.fin] at this ⊢
    omega
theorem ends_fin (r : List Cl) : Gd.ends (plR r) = Gd.fin 0 (r.map val) := by
  unfold Gd.ends
  cases h : (plR r).getLast? with
  | none =>
    have := List.getLast?_eq_none_iff.1 h
    have h2 := plR_len r
    rw [this] at h2
    have : r = [] := List.eq_nil_of_length_eq_zero h2.symm
    subst this; rfl
  | some x =>
    rw [List.getLast?_eq_getElem?] at h
    obtain ⟨hl, hx⟩ := List.getElem?_eq_some_iff.1 h
    have hk' : (plR r).length - 1 < (r.map val).length := by rw [List.length_map, ← plR_len]; exact hl
    have g := Gd.cel_get (r.map val) 0 _ hk'
    have g2 : (plR r)[(plR r).length - 1].2.1 = Gd.fin 0 ((r.map val).take ((plR r).length - 1 + 1)) := congrArg (·.2.1) g
    rw [hx] at g2
    show x.2.1 = _
    rw [g2, List.take_of_length_le (by rw [List.length_map, ← plR_len]; omega)]
theorem wid_ends (r : List Cl) : Gd.wid (plR r) = Gd.ends (plR r) := by
  have := wid_cel (r.map val) 0
  rw [ends_fin]
  exact this
theorem widT_reg {T : List (List Cl)} (h : RegP T) : Gd.widT (plT T) = T.length * wdt (plT T) := by
  have key : ∀ (S : List (List Cl)) (w : Nat), (∀ i (h : i < S.length), RowP (plR S[i]) w) → Gd.widT (plT S) = S.length * w := by
    intro S
    induction S with
    | nil => intro w _; simp [Gd.widT, plT]
    | cons r S ih =>
      intro w h
      have h0 := (h 0 (by simp)).1
      have := ih w fun i hi => h (i + 1) (by simpa using hi)
      simp [Gd.widT, plT] at this ⊢
      rw [this, wid_ends]
      simp at h0
      rw [h0, Nat.add_mul]
      omega
  exact key T _ h
theorem areas_take {rs : List Gd.Rc} {k : Nat} (h : k < rs.length) : Gd.areas (rs.take (k + 1)) = Gd.areas (rs.take k) + (rs[k].bot - rs[k].row) * (rs[k].right - rs[k].left) := by
  rw [List.take_succ_eq_append_getElem h, Gd.areas_append]; simp [Gd.areas]
theorem area_le {T : List (List Cl)} {rs : List Gd.Rc} {g : Nat → Nat → Option Nat} (hF : Gd.Fin (plT T) rs g) (h10 : T.length ≤ 10) {k : Nat} (h : k < rs.length) :
    rs[k].row ≤ rs[k].bot ∧ rs[k].left ≤ rs[k].right ∧ rs[k].bot ≤ 10 ∧ rs[k].right ≤ 32 ∧ (rs[k].bot - rs[k].row) * (rs[k].right - rs[k].left) ≤ 320 := by
  obtain ⟨⟨m, ha⟩, hlt, _, hb⟩ := hF.cell _ (List.getElem_mem h)
  have h1 := ha.ok (plT_ok T)
  have h2 := hb.2.1
  rw [plT_len] at h2
  have h3 := hb.1
  refine ⟨by omega, by omega, by omega, by omega, ?_⟩
  exact Nat.mul_le_mul (show rs[k].bot - rs[k].row ≤ 10 by omega) (show rs[k].right - rs[k].left ≤ 32 by omega)
end Go.Proofs.Ytkdhffidkopmcaa
