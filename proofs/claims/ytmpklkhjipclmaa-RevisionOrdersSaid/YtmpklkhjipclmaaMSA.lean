/- Layer 22: stableCmpFunc at no more than forty elements, plainly. -/
import Derived.Test.YtmpklkhjipclmaaMS9
namespace Go.Proofs.Ytmpklkhjipclmaa
open Go.RowKit Go.Shelf Go.Lib Go.Sort Sm
variable {α : Type} [Inhabited α] {enc : α → List Value} {k : Nat} {blk off : Nat} {d0 : Array α} {w0 : World} {lt : α → α → Prop} {cf : α → α → Int} {d dk dn : Array α} {n p q : Nat}

/-- The blocks ahead of p are in order. -/
def Pre (lt : α → α → Prop) (d dk : Array α) (p : Nat) : Prop :=
  (p = 0 ∧ dk = d) ∨ (p = 20 ∧ Merged lt (Ix d) (Ix dk) 0 20) ∨ (p = 40 ∧ ∃ d1 : Array α, Merged lt (Ix d) (Ix d1) 0 20 ∧ Merged lt (Ix d1) (Ix dk) 20 40)
/-- Both halves are in order. -/
def Half (lt : α → α → Prop) (d dk : Array α) (n : Nat) : Prop :=
  (n < 20 → Merged lt (Ix d) (Ix dk) 0 n) ∧ (20 ≤ n → ∃ d1 : Array α, Merged lt (Ix d) (Ix d1) 0 20 ∧ Merged lt (Ix d1) (Ix dk) 20 n)
theorem Pre.out (h : Pre lt d dk p) : ∀ i, p ≤ i → Ix dk i = Ix d i := by
  intro i hi
  rcases h with ⟨rfl, rfl⟩ | ⟨rfl, h⟩ | ⟨rfl, d1, h1, h2⟩
  · rfl
  · exact h.out i (.inr hi)
  · rw [h2.out i (.inr hi), h1.out i (.inr (by omega))]
theorem Pre.tot (h : Pre lt d dk p) (hT : Tot lt cf d 0 n) (hq : q ≤ n) : Tot lt cf dk p q := by
  intro i j h1 h2 h3
  rw [h.out i h1, h.out j (by omega)]
  exact hT i j (Nat.zero_le _) h2 (by omega)
theorem Pre.round (h : Pre lt d dk p) (hq : q = p + 20) (hqn : q ≤ 40) (m : Merged lt (Ix dk) (Ix dn) p q) : Pre lt d dn q := by
  rcases h with ⟨rfl, rfl⟩ | ⟨rfl, h⟩ | ⟨rfl, d1, h1, h2⟩
  · subst hq
    exact .inr (.inl ⟨rfl, m⟩)
  · subst hq
    exact .inr (.inr ⟨rfl, dk, h, m⟩)
  · omega
omit [Inhabited α] in
theorem Merged.none {d d' : Nat → α} {a : Nat} (m : Merged lt d d' a a) : d' = d := funext fun i => m.out i (by omega)
theorem Pre.exit (h : Pre lt d dk p) (hp : p ≤ n) (hn : n ≤ 40) (hq : n < p + 20) (m : Merged lt (Ix dk) (Ix dn) p n) : Half lt d dn n := by
  rcases h with ⟨rfl, rfl⟩ | ⟨rfl, h⟩ | ⟨rfl, d1, h1, h2⟩
  · exact ⟨fun _ => m, fun h => by omega⟩
  · exact ⟨fun h => by omega, fun _ => ⟨dk, h, m⟩⟩
  · obtain rfl : n = 40 := by omega
    refine ⟨fun h => by omega, fun _ => ⟨d1, h1, ?_⟩⟩
    rw [Merged.none m]
    exact h2
theorem Half.small (h : Half lt d dk n) (hn : n ≤ 20) : Merged lt (Ix d) (Ix dk) 0 n := by
  by_cases e : n < 20
  · exact h.1 e
  · obtain rfl : n = 20 := by omega
    obtain ⟨d1, h1, h2⟩ := h.2 (Nat.le_refl _)
    rw [Merged.none h2]
    exact h1
theorem Half.symIn (h : Half lt d dk n) (hT : Tot lt cf d 0 n) (hn : 20 < n) (hs : n ≤ dk.size) : SymIn lt cf dk 0 20 n := by
  obtain ⟨d1, h1, h2⟩ := h.2 (by omega)
  refine ⟨by omega, hn, hs, h1.srt.congr fun i _ hi => h2.out i (.inl hi), h2.srt, fun i j hi him hj hjn => ?_⟩
  rw [h2.out i (.inl him)]
  obtain ⟨a, _, a2, a3⟩ := seg_mem (h1.perm.subset (mem_seg (Ix d1) hi him))
  obtain ⟨b, b1, b2, b3⟩ := seg_mem (h2.perm.subset (mem_seg (Ix dk) hj hjn))
  rw [← a3, ← b3, h1.out b (.inr b1)]
  exact hT a b (Nat.zero_le _) (by omega) b2
theorem Half.done (h : Half lt d dk n) (hn : 20 < n) (m : Merged lt (Ix dk) (Ix dn) 0 n) : Merged lt (Ix d) (Ix dn) 0 n := by
  obtain ⟨d1, h1, h2⟩ := h.2 (by omega)
  refine ⟨fun i hi => ?_, m.srt, m.perm.trans ?_⟩
  · rw [m.out i hi, h2.out i (.inr (by omega)), h1.out i (.inr (by omega))]
  · rw [seg_app (Ix dk) (Nat.zero_le 20) (by omega), seg_app (Ix d) (Nat.zero_le 20) (by omega)]
    have e1 : seg (Ix dk) 0 20 = seg (Ix d1) 0 20 := seg_congr fun i _ hi => h2.out i (.inl hi)
    have e2 : seg (Ix d1) 20 n = seg (Ix d) 20 n := seg_congr fun i hi _ => h1.out i (.inr hi)
    rw [e1]
    refine h1.perm.append ?_
    rw [← e2]
    exact h2.perm
end Go.Proofs.Ytmpklkhjipclmaa
