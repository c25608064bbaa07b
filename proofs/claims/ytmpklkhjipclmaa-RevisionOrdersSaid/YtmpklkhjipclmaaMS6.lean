/- Layer 22: symMergeCmpFunc: what lies behind the rotation, plainly. -/
import Derived.Test.YtmpklkhjipclmaaMS3
namespace Go.Proofs.Ytmpklkhjipclmaa
open Go.RowKit Go.Shelf Go.Lib Go.Sort Sm
variable {α : Type} [Inhabited α] {lt : α → α → Prop} {cf : α → α → Int} {d d1 d2 d3 : Array α} {a m b s : Nat}

/-- The search of the general case. -/
def Fnd (cf : α → α → Int) (d : Array α) (a m b i j : Nat) : Prop :=
  (lo a m b < i → ¬ cf d[(a + b) / 2 + m - 1 - (i - 1)]! d[i - 1]! < 0) ∧ (j < hi a m b → cf d[(a + b) / 2 + m - 1 - j]! d[j]! < 0)
theorem Fnd.start : Fnd cf d a m b (lo a m b) (hi a m b) := ⟨fun h => by omega, fun h => by omega⟩
theorem Fnd.up {i j c : Nat} (h : Fnd cf d a m b i j) (hv : ¬ cf d[(a + b) / 2 + m - 1 - c]! d[c]! < 0) : Fnd cf d a m b (c + 1) j := ⟨fun _ => by rw [Nat.add_sub_cancel]; exact hv, h.2⟩
theorem Fnd.down {i j c : Nat} (h : Fnd cf d a m b i j) (hv : cf d[(a + b) / 2 + m - 1 - c]! d[c]! < 0) : Fnd cf d a m b i c := ⟨h.1, fun _ => hv⟩
theorem Fnd.found (h : Fnd cf d a m b s s) (h1 : lo a m b ≤ s) (h2 : s ≤ hi a m b) : Sm.Found (fun x y => cf x y < 0) (Ix d) a m b s := ⟨h1, h2, h.1, h.2⟩

/-- Behind the search, and behind the rotation. -/
structure Rotd (lt : α → α → Prop) (cf : α → α → Int) (d : Array α) (a m b s : Nat) (d1 : Array α) : Prop where
  i : SymIn lt cf d a m b
  f : Sm.Found (fun x y => cf x y < 0) (Ix d) a m b s
  sz : d1.size = d.size
  r : Ix d1 = rot (Ix d) s m (fin a m b s)
theorem Rotd.facts (h : Rotd lt cf d a m b s d1) : a ≤ s ∧ s ≤ m ∧ m ≤ fin a m b s ∧ fin a m b s ≤ b ∧ s + (fin a m b s - m) = (a + b) / 2 ∧ s ≤ (a + b) / 2 ∧ (a + b) / 2 ≤ fin a m b s := by
  have := h.f.range (Nat.le_of_lt h.i.am) (Nat.le_of_lt h.i.mb)
  have e : fin a m b s = (a + b) / 2 + m - s := rfl
  omega
theorem Rotd.pieces (h : Rotd lt cf d a m b s d1) : Srt lt (Ix d1) a s ∧ Srt lt (Ix d1) s ((a + b) / 2) ∧ Srt lt (Ix d1) ((a + b) / 2) (fin a m b s) ∧ Srt lt (Ix d1) (fin a m b s) b := by
  obtain ⟨h1, h2, h3, h4, h5, _⟩ := h.facts
  have := rot_pieces h1 h2 h3 h4 h.i.sl h.i.sr
  rw [h5, ← h.r] at this
  exact this
theorem Rotd.cross (h : Rotd lt cf d a m b s d1) : Crs lt cf d1 a s ((a + b) / 2) ∧ Crs lt cf d1 ((a + b) / 2) (fin a m b s) b := by
  obtain ⟨h1, h2, h3, h4, h5, _⟩ := h.facts
  have := rot_cross h1 h2 h3 h4 h.i.cr
  rw [h5, ← h.r] at this
  exact this
theorem Rotd.left (h : Rotd lt cf d a m b s d1) (h1 : a < s) (h2 : s < (a + b) / 2) : SymIn lt cf d1 a s ((a + b) / 2) := by
  obtain ⟨_, _, _, _, _, _, _⟩ := h.facts
  have := h.i.bd
  have := h.sz
  exact ⟨h1, h2, by omega, h.pieces.1, h.pieces.2.1, h.cross.1⟩
theorem Rotd.left_same (h : Rotd lt cf d a m b s d1) (hn : ¬ (a < s ∧ s < (a + b) / 2)) : Merged lt (Ix d1) (Ix d1) a ((a + b) / 2) := by
  obtain ⟨h1, h2, h3, h4, h5, h6, h7⟩ := h.facts
  refine Merged.same ?_
  by_cases e : a < s
  · obtain rfl : s = (a + b) / 2 := by omega
    exact h.pieces.1
  · obtain rfl : a = s := by omega
    exact h.pieces.2.1
theorem Rotd.right (h : Rotd lt cf d a m b s d1) (hm : Merged lt (Ix d1) (Ix d2) a ((a + b) / 2)) (hs : d2.size = d.size) (h1 : (a + b) / 2 < fin a m b s) (h2 : fin a m b s < b) : SymIn lt cf d2 ((a + b) / 2) (fin a m b s) b := by
  have e := h.i.bd
  have o : ∀ x, (a + b) / 2 ≤ x → Ix d2 x = Ix d1 x := fun x hx => hm.out x (.inr hx)
  refine ⟨h1, h2, by omega, h.pieces.2.2.1.congr fun i hi _ => o i hi, h.pieces.2.2.2.congr fun i hi _ => o i (by omega), fun i j hi him hj hjb => ?_⟩
  rw [o i hi, o j (by omega)]
  exact h.cross.2 i j hi him hj hjb
theorem Rotd.right_same (h : Rotd lt cf d a m b s d1) (hm : Merged lt (Ix d1) (Ix d2) a ((a + b) / 2)) (hn : ¬ ((a + b) / 2 < fin a m b s ∧ fin a m b s < b)) : Merged lt (Ix d2) (Ix d2) ((a + b) / 2) b := by
  obtain ⟨h1, h2, h3, h4, h5, h6, h7⟩ := h.facts
  have o : ∀ x, (a + b) / 2 ≤ x → Ix d2 x = Ix d1 x := fun x hx => hm.out x (.inr hx)
  refine Merged.same (Srt.congr (d := Ix d1) ?_ fun i hi _ => o i hi)
  by_cases e : (a + b) / 2 < fin a m b s
  · have e2 : fin a m b s = b := by omega
    have := h.pieces.2.2.1
    rw [e2] at this
    exact this
  · have e2 : (a + b) / 2 = fin a m b s := by omega
    have := h.pieces.2.2.2
    rw [← e2] at this
    exact this
theorem Rotd.done (o : Ord lt) (h : Rotd lt cf d a m b s d1) (m2 : Merged lt (Ix d1) (Ix d2) a ((a + b) / 2)) (m3 : Merged lt (Ix d2) (Ix d3) ((a + b) / 2) b) : Merged lt (Ix d) (Ix d3) a b := by
  obtain ⟨h1, h2, h3, h4, h5, h6, h7⟩ := h.facts
  have l := h.f.leftLt o (Nat.le_of_lt h.i.am) (Nat.le_of_lt h.i.mb) h.i.sl h.i.sr h.i.cr
  have r := h.f.rightLt o (Nat.le_of_lt h.i.am) (Nat.le_of_lt h.i.mb) h.i.sl h.i.sr h.i.cr
  refine merge_step (s := s) (m := m) (e := fin a m b s) h1 h2 h3 h4 h.i.sl h.i.sr l r ?_ ?_ (d2 := Ix d2)
  · rw [h5, ← h.r]; exact m2
  · rw [h5]; exact m3
/-- No rotation where a piece is empty. -/
theorem Rotd.none (i : SymIn lt cf d a m b) (f : Sm.Found (fun x y => cf x y < 0) (Ix d) a m b s) (h : ¬ (s < m ∧ m < fin a m b s)) : Rotd lt cf d a m b s d := by
  refine ⟨i, f, rfl, ?_⟩
  have := f.range (Nat.le_of_lt i.am) (Nat.le_of_lt i.mb)
  by_cases e : s < m
  · have e2 : fin a m b s = m := by omega
    rw [e2, rot_none_right]
  · obtain rfl : s = m := by omega
    rw [rot_none_left]
end Go.Proofs.Ytmpklkhjipclmaa
