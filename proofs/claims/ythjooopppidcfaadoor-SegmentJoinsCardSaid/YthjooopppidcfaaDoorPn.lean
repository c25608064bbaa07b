/- Layer 3: the beginnings that Next and Prev visit, plainly. -/
import Derived.Test.YthjooopppidcfaaDoorPa
namespace Go.Proofs.YthjooopppidcfaaDoor
open Gc

theorem chain_to {n i : Nat} {l : List Tok} (h : Chain n i l) : ∀ y ∈ l, y.2.2 ≤ n := by
  induction l generalizing i with
  | nil => intro y hy; cases hy
  | cons x l ih =>
    obtain ⟨h1, h2, h3⟩ := h
    intro y hy
    rcases List.mem_cons.1 hy with rfl | hy
    · exact (chain_le h3).1
    · exact ih h3 y hy
theorem tk_mem (l : List Tok) (k : Nat) (h : k < l.length) : tk l k ∈ l := by
  rw [← tk_get l k h]; exact List.getElem_mem h
theorem tk_le (P : List Nat) (k : Nat) (h : k < (utok P).length) : (tk (utok P) k).2.1 < P.length := by
  have h1 := chain_to (utok_chain P) _ (tk_mem _ k h)
  have h2 := (tok_num P k h).lt
  omega
theorem from_lt (P : List Nat) (j k : Nat) (hjk : j < k) (hk : k < (utok P).length) : (tk (utok P) j).2.1 < (tk (utok P) k).2.1 := by
  induction k with
  | zero => omega
  | succ k ih =>
    have h1 := (tok_num P (k + 1) hk).from_
    have h2 := (tok_num P k (by omega)).lt
    unfold nowU at h1
    rw [if_neg (Nat.succ_ne_zero _), Nat.add_sub_cancel] at h1
    by_cases h : j = k
    · subst h; omega
    · have := ih (by omega) (by omega)
      omega
theorem from_zero (P : List Nat) (k : Nat) (hk : k < (utok P).length) (h : (tk (utok P) k).2.1 = 0) : k = 0 := by
  by_cases h0 : k = 0
  · exact h0
  · have := from_lt P 0 k (by omega) hk
    omega
theorem tk_split (l : List Tok) (k : Nat) (h : k < l.length) : l = l.take k ++ tk l k :: l.drop (k + 1) := by
  rw [← tk_get l k h, List.getElem_cons_drop, List.take_append_drop]
theorem take_tk {l : List Tok} {k : Nat} {y : Tok} (h : y ∈ l.take k) : ∃ j, j < k ∧ j < l.length ∧ y = tk l j := by
  obtain ⟨j, hj, e⟩ := List.mem_iff_getElem.1 h
  rw [List.length_take] at hj
  refine ⟨j, by omega, by omega, ?_⟩
  rw [← e, List.getElem_take, tk_get l j (by omega)]
theorem drop_tk {l : List Tok} {k : Nat} {y : Tok} (h : y ∈ l.drop k) : ∃ j, k ≤ j ∧ j < l.length ∧ y = tk l j := by
  obtain ⟨j, hj, e⟩ := List.mem_iff_getElem.1 h
  rw [List.length_drop] at hj
  refine ⟨k + j, by omega, by omega, ?_⟩
  rw [← e, List.getElem_drop, tk_get l (k + j) (by omega)]

/-- Next has gone over the first k tokens and stands at z. -/
structure Passed (P : List Nat) (k z : Nat) : Prop where
  one : ∀ j, j < k → j < (utok P).length → (tk (utok P) j).1 = 3 ∨ (tk (utok P) j).2.1 ≤ z
  two : z = 0 ∨ ∃ j, j < k ∧ j < (utok P).length ∧ z = (tk (utok P) j).2.1
theorem Passed.zero (P : List Nat) : Passed P 0 0 := ⟨fun _ h => absurd h (Nat.not_lt_zero _), .inl rfl⟩
theorem Passed.le {P : List Nat} {k z : Nat} (h : Passed P k z) : z ≤ P.length := by
  rcases h.two with h | ⟨j, _, h2, h3⟩
  · omega
  · have := tk_le P j h2; omega
theorem Passed.over {P : List Nat} {k z : Nat} (h : Passed P k z) (hk : (tk (utok P) k).1 = 3 ∨ (tk (utok P) k).2.1 = 0) : Passed P (k + 1) z := by
  refine ⟨fun j hj hl => ?_, ?_⟩
  · by_cases e : j = k
    · subst e
      rcases hk with hk | hk
      · exact .inl hk
      · exact .inr (by omega)
    · exact h.one j (by omega) hl
  · rcases h.two with h | ⟨j, h1, h2, h3⟩
    · exact .inl h
    · exact .inr ⟨j, by omega, h2, h3⟩
theorem Passed.next {P : List Nat} {k z : Nat} (h : Passed P k z) (hk : k < (utok P).length) (h3 : (tk (utok P) k).1 ≠ 3) (h0 : (tk (utok P) k).2.1 ≠ 0) :
    nextOf (utok P) (z : Nat) P.length = (tk (utok P) k).2.1 ∧ Passed P (k + 1) (tk (utok P) k).2.1 := by
  have hz : z < (tk (utok P) k).2.1 := by
    rcases h.two with h | ⟨j, h1, h2, h3⟩
    · omega
    · have := from_lt P j k h1 hk; omega
  refine ⟨?_, fun j hj hl => ?_, .inr ⟨k, by omega, hk, rfl⟩⟩
  · have e := tk_split (utok P) k hk
    have := nextOf_at ((utok P).take k) ((utok P).drop (k + 1)) (tk (utok P) k) (z : Nat) P.length (fun y hy => by
      obtain ⟨j, h1, h2, rfl⟩ := take_tk hy
      rcases h.one j h1 h2 with h4 | h4
      · exact .inl h4
      · exact .inr (by omega)) h3 (by omega)
    rw [← e] at this
    exact this
  · by_cases e : j = k
    · subst e; exact .inr (Nat.le_refl _)
    · exact .inr (Nat.le_of_lt (from_lt P j k (by omega) hk))
theorem Passed.end {P : List Nat} {z : Nat} (h : Passed P (utok P).length z) : nextOf (utok P) (z : Nat) P.length = P.length := by
  refine nextOf_end _ _ _ fun y hy => ?_
  rw [← List.take_length (l := utok P)] at hy
  obtain ⟨j, h1, h2, rfl⟩ := take_tk hy
  rcases h.one j h1 h2 with h4 | h4
  · exact .inl h4
  · exact .inr (by omega)

/-- Prev has gone over the tokens from number k on and stands at z. -/
structure Backed (P : List Nat) (k z : Nat) : Prop where
  one : ∀ j, k ≤ j → j < (utok P).length → (tk (utok P) j).1 = 3 ∨ z ≤ (tk (utok P) j).2.1
  two : ∀ j, j < k → j < (utok P).length → (tk (utok P) j).2.1 < z
  le : z ≤ P.length
theorem Backed.start (P : List Nat) : Backed P (utok P).length P.length :=
  ⟨fun j h1 h2 => by omega, fun j _ h => tk_le P j h, Nat.le_refl _⟩
theorem Backed.space {P : List Nat} {k z : Nat} (h : Backed P (k + 1) z) (h3 : (tk (utok P) k).1 = 3) : Backed P k z := by
  refine ⟨fun j h1 h2 => ?_, fun j h1 h2 => h.two j (by omega) h2, h.le⟩
  by_cases e : j = k
  · subst e; exact .inl h3
  · exact h.one j (by omega) h2
theorem Backed.prev {P : List Nat} {k z : Nat} (h : Backed P (k + 1) z) (hk : k < (utok P).length) (h3 : (tk (utok P) k).1 ≠ 3) :
    prevOf (z : Nat) (utok P) 0 = (tk (utok P) k).2.1 ∧ Backed P k (tk (utok P) k).2.1 := by
  have hz := h.two k (by omega) hk
  refine ⟨?_, fun j h1 h2 => ?_, fun j h1 h2 => from_lt P j k h1 hk, Nat.le_of_lt (tk_le P k hk)⟩
  · rw [prevOf_ref (z : Nat) P.length (utok P) 0 (utok_chain P) 0 (Nat.le_refl _)]
    have e := tk_split (utok P) k hk
    have := prevR_at ((utok P).take k) ((utok P).drop (k + 1)) (tk (utok P) k) (z : Nat) (fun y hy => by
      obtain ⟨j, h1, h2, rfl⟩ := take_tk hy
      exact Nat.le_of_lt (from_lt P j k h1 hk)) h3 (by omega) (fun y hy => by
      obtain ⟨j, h1, h2, rfl⟩ := drop_tk hy
      rcases h.one j h1 h2 with h4 | h4
      · exact .inl h4
      · exact .inr (by omega))
    rw [← e] at this
    rw [this, Nat.zero_max]
  · by_cases e : j = k
    · subst e; exact .inr (Nat.le_refl _)
    · exact .inr (Nat.le_of_lt (from_lt P k j (by omega) h2))
end Go.Proofs.YthjooopppidcfaaDoor
