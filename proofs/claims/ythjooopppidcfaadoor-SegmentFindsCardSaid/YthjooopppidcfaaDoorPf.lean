/- Layer 3: finding, plainly. -/
import Derived.Test.YthjooopppidcfaaDoorPn
import Derived.Test.YthjooopppidcfaaDoorNd
namespace Go.Proofs.YthjooopppidcfaaDoor
open Gc

def atX (l : List Tok) (u : Int) : Tok := (l.find? (hasUnit u)).getD (0, 0, 0)
theorem atX_cons (x : Tok) (l : List Tok) (u : Int) : atX (x :: l) u = if hasUnit u x = true then x else atX l u := by
  unfold atX
  cases h : hasUnit u x with
  | true => rw [List.find?_cons_of_pos h]; simp
  | false => rw [List.find?_cons_of_neg (by simp [h])]; simp
theorem nextOf_cons (x : Tok) (l : List Tok) (u : Int) (n : Nat) : nextOf (x :: l) u n = if ahead u x = true then x.2.1 else nextOf l u n := by
  unfold nextOf
  cases h : ahead u x with
  | true => rw [List.find?_cons_of_pos h]; simp
  | false => rw [List.find?_cons_of_neg (by simp [h])]; simp
theorem drop_cons (l : List Tok) (k : Nat) (h : k < l.length) : l.drop k = tk l k :: l.drop (k + 1) := by
  rw [← tk_get l k h, List.getElem_cons_drop]
theorem chain_has {n i : Nat} {l : List Tok} (h : Chain n i l) (u : Int) (h0 : (i : Int) ≤ u) (h1 : u < (n : Int)) : ∃ x, l.find? (hasUnit u) = some x := by
  induction l generalizing i with
  | nil => have : i = n := h; omega
  | cons x l ih =>
    obtain ⟨a1, a2, a3⟩ := h
    by_cases hu : u < (x.2.2 : Int)
    · exact ⟨x, by rw [List.find?_cons_of_pos (by unfold hasUnit; simp; omega)]⟩
    · obtain ⟨y, hy⟩ := ih a3 (by omega)
      exact ⟨y, by rw [List.find?_cons_of_neg (by unfold hasUnit; simp; intro; omega), hy]⟩
theorem chain_none {n i : Nat} {l : List Tok} (h : Chain n i l) (u : Int) (h0 : u < (i : Int) ∨ (n : Int) ≤ u) : l.find? (hasUnit u) = none := by
  rw [List.find?_eq_none]
  intro x hx
  have h1 := (chain_le h).2 x hx
  unfold hasUnit
  simp only [Bool.and_eq_true, decide_eq_true_eq]
  omega
theorem atV_in (P : List Nat) (u : Int) (h0 : 0 ≤ u) (h1 : u < (P.length : Int)) : atV (utok P) u = (tokV (atX (utok P) u), 0) := by
  obtain ⟨x, hx⟩ := chain_has (utok_chain P) u (by simpa using h0) h1
  unfold atV atX
  rw [hx]; rfl
theorem atV_out (P : List Nat) (u : Int) (h0 : u < 0 ∨ (P.length : Int) ≤ u) : atV (utok P) u = (tokV (0, 0, 0), 2) := by
  have := chain_none (utok_chain P) u (by simpa using h0)
  unfold atV
  rw [this]
theorem atX_out (P : List Nat) (u : Int) (h0 : u < 0 ∨ (P.length : Int) ≤ u) : atX (utok P) u = (0, 0, 0) := by
  have := chain_none (utok_chain P) u (by simpa using h0)
  unfold atX
  rw [this]; rfl
theorem atV_eq (P : List Nat) (u : Int) (h0 : 0 ≤ u) (h1 : u ≤ (P.length : Int)) : atV (utok P) u = (tokV (atX (utok P) u), if u = (P.length : Int) then 2 else 0) := by
  by_cases e : u = (P.length : Int)
  · rw [if_pos e, atV_out P u (by omega), atX_out P u (by omega)]
  · rw [if_neg e, atV_in P u h0 (by omega)]

/-- The statement's walk from the end, behind the tokens from number k on. -/
structure Walked (P : List Nat) (u : Int) (nf pf : Nat → Nat) (af : Nat → Tok) : Prop where
  n0 : nextOf (utok P) u P.length = nf 0
  p0 : prevOf u (utok P) 0 = pf 0
  a0 : atX (utok P) u = af 0
  nn : nf (utok P).length = P.length
  pn : pf (utok P).length = 0
  an : af (utok P).length = (0, 0, 0)
  ns : ∀ k, k < (utok P).length → nf k = if (tk (utok P) k).1 ≠ 3 ∧ u < ((tk (utok P) k).2.1 : Int) then (tk (utok P) k).2.1 else nf (k + 1)
  ps : ∀ k, k < (utok P).length → pf k = if (tk (utok P) k).1 ≠ 3 ∧ ((tk (utok P) k).2.1 : Int) < u then max (pf (k + 1)) (tk (utok P) k).2.1 else pf (k + 1)
  asx : ∀ k, k < (utok P).length → af k = if ((tk (utok P) k).2.1 : Int) ≤ u ∧ u < ((tk (utok P) k).2.2 : Int) then tk (utok P) k else af (k + 1)
theorem walked (P : List Nat) (u : Int) : ∃ nf pf af, Walked P u nf pf af := by
  refine ⟨fun k => nextOf ((utok P).drop k) u P.length, fun k => prevR u ((utok P).drop k), fun k => atX ((utok P).drop k) u, rfl, ?_, rfl, ?_, ?_, ?_, fun k hk => ?_, fun k hk => ?_, fun k hk => ?_⟩
  · show _ = prevR u (utok P)
    rw [prevOf_ref u P.length (utok P) 0 (utok_chain P) 0 (Nat.le_refl _), Nat.zero_max]
  · show nextOf ((utok P).drop (utok P).length) u P.length = _
    rw [List.drop_length]; rfl
  · show prevR u ((utok P).drop (utok P).length) = _
    rw [List.drop_length]; rfl
  · show atX ((utok P).drop (utok P).length) u = _
    rw [List.drop_length]; rfl
  · show nextOf ((utok P).drop k) u P.length = _
    rw [drop_cons _ k hk, nextOf_cons]
    unfold ahead
    simp only [Bool.and_eq_true, decide_eq_true_eq]
  · show prevR u ((utok P).drop k) = _
    rw [drop_cons _ k hk, prevR_cons]
    simp only [Bool.and_eq_true, decide_eq_true_eq]
  · show atX ((utok P).drop k) u = _
    rw [drop_cons _ k hk, atX_cons]
    unfold hasUnit
    simp only [Bool.and_eq_true, decide_eq_true_eq]
end Go.Proofs.YthjooopppidcfaaDoor
