/- Layer 6, plainly: strengths, marks. -/
import Derived.Test.YtknbglcmjggkjaaLQ
namespace Co
open Go.Lib (compareBytes)

theorem ordL_pre (x a b : List Nat) : ordL (x ++ a) (x ++ b) = ordL a b := by
  induction x with
  | nil => rfl
  | cons y x ih => simp only [List.cons_append, ordL, Nat.lt_irrefl, if_false]; exact ih
theorem lev_app (f : El → Nat) (a b : List El) : lev f (a ++ b) = lev f a ++ lev f b := by simp [lev]
theorem cmpK_self (st : Nat) (s s' : List UInt8) (l : List El) : cmpK st s s' l l = if 4 ≤ st then compareBytes s s' else 0 := by
  unfold cmpK
  simp [ordL_self]
/-- What differs for a strength differs in the same way for the next one. -/
theorem cmpK_step {st : Nat} {s s' : List UInt8} {l l' : List El} (h : st ≤ 3) (hne : cmpK st s s' l l' ≠ 0) : cmpK (st + 1) s s' l l' = cmpK st s s' l l' := by
  unfold cmpK at hne ⊢
  by_cases h1 : ordL (lev (·.1) l) (lev (·.1) l') ≠ 0
  · rw [if_pos h1, if_pos h1]
  · rw [if_neg h1] at hne ⊢
    rw [if_neg h1]
    by_cases h2 : 2 ≤ st ∧ ordL (lev (·.2.1) l) (lev (·.2.1) l') ≠ 0
    · rw [if_pos h2, if_pos ⟨by omega, h2.2⟩]
    · rw [if_neg h2] at hne ⊢
      by_cases h3 : 3 ≤ st ∧ ordL (lev (·.2.2) l) (lev (·.2.2) l') ≠ 0
      · rw [if_pos h3, if_neg (fun h => h2 ⟨by omega, h.2⟩), if_pos ⟨by omega, h3.2⟩]
      · rw [if_neg h3, if_neg (by omega)] at hne
        exact absurd rfl hne
theorem elems_false (up : Nat) (ig : Bool) (l : List Nat) : elems false up ig l = l.flatMap (pointE up ig) := by
  induction l with
  | nil => rw [elems]; rfl
  | cons c r ih => rw [elems, if_neg (by simp), ih]; rfl
theorem elems_fapp (up : Nat) (ig : Bool) (a b : List Nat) : elems false up ig (a ++ b) = elems false up ig a ++ elems false up ig b := by
  rw [elems_false, elems_false, elems_false, List.flatMap_append]
/-- The letters of the law, their letters and marks. -/
def mkL : List (Nat × Nat × Nat) := [(192, 65, 768), (233, 101, 769), (207, 73, 776), (241, 110, 771), (246, 111, 776), (255, 121, 776), (199, 67, 807), (216, 79, 824)]
theorem mk_two : ∀ x ∈ mkL, elems false 3 false [x.1] = elems false 3 false [x.2.1, x.2.2] := by
  intro x hx
  rw [elems_false, elems_false]
  revert x
  decide
theorem mk_marks : ∀ x ∈ mkL, ∃ p t m, 0 < p ∧ 0 < m ∧ elems false 3 false [x.1] = [(p, 32, t), (0, 32 + m, 0)] ∧ elems false 3 false [x.2.1] = [(p, 32, t)] := by
  intro x hx
  rw [elems_false, elems_false]
  have : ∀ x ∈ mkL, ∃ a b, [x.1].flatMap (pointE 3 false) = [a, b] ∧ [x.2.1].flatMap (pointE 3 false) = [a] ∧ 0 < a.1 ∧ a.2.1 = 32 ∧ b.1 = 0 ∧ 32 < b.2.1 ∧ b.2.2 = 0 := by
    unfold mkL
    simp only [List.mem_cons, List.not_mem_nil, or_false]
    rintro x (rfl | rfl | rfl | rfl | rfl | rfl | rfl | rfl) <;> exact ⟨_, _, rfl, rfl, by decide, by decide, by decide, by decide, by decide⟩
  obtain ⟨⟨p, q, t⟩, ⟨p', q', t'⟩, h1, h2, a1, a2, a3, a4, a5⟩ := this x hx
  simp only at a1 a2 a3 a4 a5
  subst a2 a3 a5
  exact ⟨p, t, q' - 32, a1, by omega, by rw [h1]; congr 4; omega, h2⟩
theorem cmp_mark2 (s s' : List UInt8) (H : List El) (p t m : Nat) (hp : 0 < p) : cmpK 2 s s' (H ++ [(p, 32, t), (0, 32 + m, 0)]) (H ++ [(p, 32, t)]) = 1 := by
  have hp' : ¬ p = 0 := by omega
  unfold cmpK
  simp only [lev_app, ordL_pre]
  simp [lev, hp', ordL]
theorem cmp_mark1 (s s' : List UInt8) (H T : List El) (p t m : Nat) : cmpK 1 s s' (H ++ [(p, 32, t), (0, 32 + m, 0)] ++ T) (H ++ [(p, 32, t)] ++ T) = 0 := by
  have e : lev (·.1) (H ++ [(p, 32, t), (0, 32 + m, 0)] ++ T) = lev (·.1) (H ++ [(p, 32, t)] ++ T) := by
    simp only [lev_app]
    congr 2
  unfold cmpK
  rw [e]
  simp [ordL_self]
end Co
