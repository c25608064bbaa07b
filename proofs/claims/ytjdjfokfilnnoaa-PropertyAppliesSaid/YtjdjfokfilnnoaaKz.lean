/- Layer 7: the law of Apply, over the row's own premises. -/
import Derived.Test.YtjdjfokfilnnoaaKa
import Derived.Test.YtjdjfokfilnnoaaJ4
namespace Go.Proofs.Ytjdjfokfilnnoaa
open Go.RowKit Go.Lib

theorem ChangesIn.cut {w : World} {A : Option Addr} {len c : Nat} {l : List Ch} (h : ChangesIn w A len c l) (k : Nat) : ∃ n1, (l.take k).length = n1 ∧ ((n1 = len ∧ len ≤ k) ∨ (n1 = k ∧ k < len)) ∧ n1 ≤ len ∧ n1 ≤ k := by
  have h1 := h.1
  refine ⟨_, rfl, ?_, ?_, ?_⟩ <;> simp only [List.length_take] <;> omega
theorem law_applies (A : Option Addr) (len c : Nat) (l : List Pr) (B : Option Addr) (m d : Nat) (cs : List Ch) (w : World) (hA : PropsIn w A len c l) (hB : ChangesIn w B m d cs) :
    Calls Try.prog 12 #[.slice A len c, .slice B m d] w fun e w' => e = .returned (.bool true) ∧ Below w.heap.size w w' := by
  obtain ⟨m1, h1, h2, h3, h4⟩ := hB.cut 20
  have cO := fun w h => ordered_outN A len c l hA.1 ⟨hA.2.1, hA.2.2.1⟩ w h
  cases hap : applyP (ordP l) (cs.take 20) with
  | none => exact applies_none A len c l _ (ordP_sort l) (ordP_len l) cO B m m1 d _ h1 hB.2.1 h3 h4 hB.2.2.1 h2 hap w hA.2.2.2.1 (hB.2.2.2.take _)
  | some y => exact applies_some A len c l _ (ordP_sort l) (ordP_len l) cO B m m1 d _ h1 hB.2.1 h3 h4 hB.2.2.1 h2 y hap w hA.2.2.2.1 (hB.2.2.2.take _)
end Go.Proofs.Ytjdjfokfilnnoaa
