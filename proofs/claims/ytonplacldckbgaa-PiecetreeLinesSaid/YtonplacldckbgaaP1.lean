/- Layer 4, plainly: trees of pieces. -/
import Derived.WalkKit
namespace Pt

/-- A tree of pieces. -/
inductive Tr where
  | nil
  | node (l : Tr) (p : List UInt8) (r : Tr)
def Tr.bytes : Tr → List UInt8
  | .nil => []
  | .node l p r => l.bytes ++ p ++ r.bytes
def Tr.pcs : Tr → Nat
  | .nil => 0
  | .node l _ r => l.pcs + 1 + r.pcs
def Tr.dep : Tr → Nat
  | .nil => 0
  | .node l _ r => max l.dep r.dep + 1
def lf (l : List UInt8) : Nat := l.count 10
/-- Its pieces are not empty, and it is balanced. -/
def Tr.ok : Tr → Prop
  | .nil => True
  | .node l p r => l.ok ∧ r.ok ∧ p ≠ [] ∧ l.dep ≤ r.dep + 1 ∧ r.dep ≤ l.dep + 1
theorem lf_append (a b : List UInt8) : lf (a ++ b) = lf a + lf b := by unfold lf; rw [List.count_append]
theorem Tr.pcs_le {t : Tr} (h : t.ok) : t.pcs ≤ t.bytes.length := by
  induction t with
  | nil => exact Nat.le_refl _
  | node l p r il ir =>
    obtain ⟨h1, h2, h3, _⟩ := h
    have := il h1
    have := ir h2
    have := List.length_pos_iff.2 h3
    simp only [pcs, bytes, List.length_append]
    omega
theorem Tr.dep_le (t : Tr) : t.dep ≤ t.pcs := by
  induction t with
  | nil => exact Nat.le_refl _
  | node l p r il ir => simp only [dep, pcs]; omega
theorem Tr.lf_le (t : Tr) : lf t.bytes ≤ t.bytes.length := List.count_le_length
/-- A tree of the pieces of l, one more, and those of r, whose depths differ by at most 2. -/
def balT (l : Tr) (p : List UInt8) (r : Tr) : Tr :=
  if r.dep + 1 < l.dep then
    match l with
    | .nil => .node l p r
    | .node ll lp lr => if lr.dep ≤ ll.dep then .node ll lp (.node lr p r) else
      match lr with
      | .nil => .node l p r
      | .node a q b => .node (.node ll lp a) q (.node b p r)
  else if l.dep + 1 < r.dep then
    match r with
    | .nil => .node l p r
    | .node rl rp rr => if rl.dep ≤ rr.dep then .node (.node l p rl) rp rr else
      match rl with
      | .nil => .node l p r
      | .node a q b => .node (.node l p a) q (.node b rp rr)
  else .node l p r
theorem balT_bytes (l : Tr) (p : List UInt8) (r : Tr) : (balT l p r).bytes = l.bytes ++ p ++ r.bytes := by
  unfold balT
  repeat' split
  all_goals simp [Tr.bytes, List.append_assoc]
theorem balT_pcs (l : Tr) (p : List UInt8) (r : Tr) : (balT l p r).pcs = l.pcs + 1 + r.pcs := by
  unfold balT
  repeat' split
  all_goals simp [Tr.pcs]
  all_goals omega
theorem balT_ok {l r : Tr} {p : List UInt8} (hl : l.ok) (hr : r.ok) (hp : p ≠ []) (h1 : l.dep ≤ r.dep + 2) (h2 : r.dep ≤ l.dep + 2) :
    (balT l p r).ok ∧ max l.dep r.dep ≤ (balT l p r).dep ∧ (balT l p r).dep ≤ max l.dep r.dep + 1 := by
  unfold balT
  split
  · rename_i h
    cases l with
    | nil => simp [Tr.dep] at h
    | node ll lp lr =>
      obtain ⟨a1, a2, a3, a4, a5⟩ := hl
      simp only [Tr.dep] at h h1 h2 ⊢
      split
      · rename_i h3
        simp only [Tr.ok, Tr.dep]
        refine ⟨⟨a1, ⟨a2, hr, hp, by omega, by omega⟩, a3, by omega, by omega⟩, by omega, by omega⟩
      · rename_i h3
        cases lr with
        | nil => simp [Tr.dep] at h3
        | node a q b =>
          obtain ⟨b1, b2, b3, b4, b5⟩ := a2
          simp only [Tr.dep] at *
          simp only [Tr.ok, Tr.dep]
          refine ⟨⟨⟨a1, b1, a3, by omega, by omega⟩, ⟨b2, hr, hp, by omega, by omega⟩, b3, by omega, by omega⟩, by omega, by omega⟩
  · split
    · rename_i h0 h
      cases r with
      | nil => simp [Tr.dep] at h
      | node rl rp rr =>
        obtain ⟨a1, a2, a3, a4, a5⟩ := hr
        simp only [Tr.dep] at h h0 h1 h2 ⊢
        split
        · rename_i h3
          simp only [Tr.ok, Tr.dep]
          refine ⟨⟨⟨hl, a1, hp, by omega, by omega⟩, a2, a3, by omega, by omega⟩, by omega, by omega⟩
        · rename_i h3
          cases rl with
          | nil => simp [Tr.dep] at h3
          | node a q b =>
            obtain ⟨b1, b2, b3, b4, b5⟩ := a1
            simp only [Tr.dep] at *
            simp only [Tr.ok, Tr.dep]
            refine ⟨⟨⟨hl, b1, hp, by omega, by omega⟩, ⟨b2, a2, a3, by omega, by omega⟩, b3, by omega, by omega⟩, by omega, by omega⟩
    · simp only [Tr.ok, Tr.dep]
      refine ⟨⟨hl, hr, hp, by omega, by omega⟩, by omega, by omega⟩
theorem balT_same {l r : Tr} {p : List UInt8} (h1 : l.dep ≤ r.dep + 1) (h2 : r.dep ≤ l.dep + 1) : balT l p r = .node l p r := by
  unfold balT
  rw [if_neg (by omega), if_neg (by omega)]
/-- The tree of the pieces of l, one more, and those of r. -/
def joinT (l : Tr) (p : List UInt8) (r : Tr) : Tr :=
  if r.dep + 1 < l.dep then
    match l with
    | .nil => .node .nil p r
    | .node ll lp lr => balT ll lp (joinT lr p r)
  else if l.dep + 1 < r.dep then
    match r with
    | .nil => .node l p .nil
    | .node rl rp rr => balT (joinT l p rl) rp rr
  else .node l p r
termination_by sizeOf l + sizeOf r
theorem joinT_facts (n : Nat) : ∀ (l r : Tr) (p : List UInt8), sizeOf l + sizeOf r ≤ n → l.ok → r.ok → p ≠ [] →
    (joinT l p r).bytes = l.bytes ++ p ++ r.bytes ∧ (joinT l p r).pcs = l.pcs + 1 + r.pcs ∧ (joinT l p r).ok ∧ max l.dep r.dep ≤ (joinT l p r).dep ∧ (joinT l p r).dep ≤ max l.dep r.dep + 1 := by
  induction n with
  | zero => intro l r p h; cases l <;> simp at h <;> omega
  | succ n ih =>
    intro l r p h hl hr hp
    unfold joinT
    split
    · rename_i hd
      cases l with
      | nil => simp [Tr.dep] at hd
      | node ll lp lr =>
        obtain ⟨a1, a2, a3, a4, a5⟩ := hl
        simp only [Tr.node.sizeOf_spec] at h
        obtain ⟨i1, i2, i3, i4, i5⟩ := ih lr r p (by omega) a2 hr hp
        simp only [Tr.dep] at hd ⊢
        obtain ⟨b1, b2, b3⟩ := balT_ok a1 i3 a3 (by omega) (by omega)
        refine ⟨by rw [balT_bytes, i1]; simp [Tr.bytes, List.append_assoc], by rw [balT_pcs, i2]; simp only [Tr.pcs]; omega, b1, ?_, ?_⟩
        · by_cases hs : ll.dep ≤ (joinT lr p r).dep + 1 ∧ (joinT lr p r).dep ≤ ll.dep + 1
          · rw [balT_same hs.1 hs.2]
            simp only [Tr.dep]
            omega
          · omega
        · have := b3
          have := i5
          omega
    · split
      · rename_i h0 hd
        cases r with
        | nil => simp [Tr.dep] at hd
        | node rl rp rr =>
          obtain ⟨a1, a2, a3, a4, a5⟩ := hr
          simp only [Tr.node.sizeOf_spec] at h
          obtain ⟨i1, i2, i3, i4, i5⟩ := ih l rl p (by omega) hl a1 hp
          simp only [Tr.dep] at hd h0 ⊢
          obtain ⟨b1, b2, b3⟩ := balT_ok i3 a2 a3 (by omega) (by omega)
          refine ⟨by rw [balT_bytes, i1]; simp [Tr.bytes, List.append_assoc], by rw [balT_pcs, i2]; simp only [Tr.pcs]; omega, b1, ?_, ?_⟩
          · by_cases hs : (joinT l p rl).dep ≤ rr.dep + 1 ∧ rr.dep ≤ (joinT l p rl).dep + 1
            · rw [balT_same hs.1 hs.2]
              simp only [Tr.dep]
              omega
            · omega
          · have := b3
            have := i5
            omega
      · simp only [Tr.ok, Tr.dep]
        refine ⟨rfl, rfl, ⟨hl, hr, hp, by omega, by omega⟩, by omega, by omega⟩
theorem joinT_spec {l r : Tr} {p : List UInt8} (hl : l.ok) (hr : r.ok) (hp : p ≠ []) : (joinT l p r).bytes = l.bytes ++ p ++ r.bytes ∧ (joinT l p r).pcs = l.pcs + 1 + r.pcs ∧ (joinT l p r).ok := by
  obtain ⟨h1, h2, h3, _⟩ := joinT_facts _ l r p (Nat.le_refl _) hl hr hp
  exact ⟨h1, h2, h3⟩
/-- The first piece, and the tree of the others. -/
def takeF : Tr → List UInt8 × Tr
  | .nil => ([], .nil)
  | .node .nil p r => (p, r)
  | .node (.node a q b) p r => ((takeF (.node a q b)).1, joinT (takeF (.node a q b)).2 p r)
theorem takeF_spec (t : Tr) (h : t.ok) (hn : t ≠ .nil) : (takeF t).1 ++ (takeF t).2.bytes = t.bytes ∧ (takeF t).2.pcs + 1 = t.pcs ∧ (takeF t).2.ok ∧ (takeF t).1 ≠ [] := by
  induction t with
  | nil => exact absurd rfl hn
  | node l p r il _ =>
    obtain ⟨a1, a2, a3, a4, a5⟩ := h
    cases l with
    | nil => refine ⟨by simp [takeF, Tr.bytes], by simp only [takeF, Tr.pcs]; omega, a2, a3⟩
    | node a q b =>
      obtain ⟨i1, i2, i3, i4⟩ := il a1 (by simp)
      obtain ⟨j1, j2, j3⟩ := joinT_spec i3 a2 a3
      simp only [takeF]
      refine ⟨?_, ?_, j3, i4⟩
      · rw [j1, show (Tr.node (Tr.node a q b) p r).bytes = (Tr.node a q b).bytes ++ p ++ r.bytes from rfl, ← i1]
        simp [List.append_assoc]
      · rw [j2]; simp only [Tr.pcs] at i2 ⊢; omega
/-- What stands before an offset, and behind it. -/
def splitT : Tr → Nat → Tr × Tr
  | .nil, _ => (.nil, .nil)
  | .node l p r, k =>
    if k ≤ l.bytes.length then ((splitT l k).1, joinT (splitT l k).2 p r)
    else if l.bytes.length + p.length ≤ k then (joinT l p (splitT r (k - (l.bytes.length + p.length))).1, (splitT r (k - (l.bytes.length + p.length))).2)
    else (joinT l (p.take (k - l.bytes.length)) .nil, joinT .nil (p.drop (k - l.bytes.length)) r)
theorem splitT_spec (t : Tr) : t.ok → ∀ k, (splitT t k).1.bytes = t.bytes.take k ∧ (splitT t k).2.bytes = t.bytes.drop k ∧ (splitT t k).1.ok ∧ (splitT t k).2.ok ∧ (splitT t k).1.pcs + (splitT t k).2.pcs ≤ t.pcs + 1 := by
  induction t with
  | nil => intro _ k; simp [splitT, Tr.bytes, Tr.ok, Tr.pcs]
  | node l p r il ir =>
    intro h k
    obtain ⟨a1, a2, a3, a4, a5⟩ := h
    have e : (Tr.node l p r).bytes = l.bytes ++ p ++ r.bytes := rfl
    unfold splitT
    split
    · rename_i hk
      obtain ⟨i1, i2, i3, i4, i5⟩ := il a1 k
      obtain ⟨j1, j2, j3⟩ := joinT_spec i4 a2 a3
      refine ⟨?_, ?_, i3, j3, ?_⟩
      · rw [i1, e, List.append_assoc, List.take_append_of_le_length hk]
      · rw [j1, i2, e, List.append_assoc, List.append_assoc, List.drop_append_of_le_length hk]
      · rw [j2]; simp only [Tr.pcs]; omega
    · split
      · rename_i hk0 hk
        obtain ⟨i1, i2, i3, i4, i5⟩ := ir a2 (k - (l.bytes.length + p.length))
        obtain ⟨j1, j2, j3⟩ := joinT_spec a1 i3 a3
        have el : (l.bytes ++ p).length = l.bytes.length + p.length := by simp
        refine ⟨?_, ?_, j3, i4, ?_⟩
        · rw [j1, i1, e, List.take_append (l₁ := l.bytes ++ p), List.take_of_length_le (l := l.bytes ++ p) (by rw [el]; exact hk), el]
        · rw [i2, e, List.drop_append (l₁ := l.bytes ++ p), List.drop_eq_nil_of_le (as := l.bytes ++ p) (by rw [el]; exact hk), el, List.nil_append]
        · rw [j2]; simp only [Tr.pcs]; omega
      · rename_i hk0 hk
        have hp1 : p.take (k - l.bytes.length) ≠ [] := by
          intro h
          have h' := congrArg List.length h
          have h2 := List.length_pos_iff.2 a3
          rw [List.length_take, List.length_nil] at h'
          omega
        have hp2 : p.drop (k - l.bytes.length) ≠ [] := by
          intro h
          have := congrArg List.length h
          simp at this
          omega
        obtain ⟨j1, j2, j3⟩ := joinT_spec (r := .nil) a1 trivial hp1
        obtain ⟨m1, m2, m3⟩ := joinT_spec (l := .nil) trivial a2 hp2
        refine ⟨?_, ?_, j3, m3, ?_⟩
        · rw [j1, e, List.append_assoc l.bytes p r.bytes, List.take_append (l₁ := l.bytes), List.take_of_length_le (l := l.bytes) (by omega), List.take_append_of_le_length (l₁ := p) (by omega)]
          simp [Tr.bytes]
        · rw [m1, e, List.append_assoc l.bytes p r.bytes, List.drop_append (l₁ := l.bytes), List.drop_eq_nil_of_le (as := l.bytes) (by omega), List.drop_append_of_le_length (l₁ := p) (by omega)]
          simp [Tr.bytes]
        · rw [j2, m2]; simp only [Tr.pcs]; omega
/-- What left stores, a string, and what right stores. -/
def aroundT (l : Tr) (s : List UInt8) (r : Tr) : Tr := if s ≠ [] then joinT l s r else match r with
  | .nil => l
  | r => joinT l (takeF r).1 (takeF r).2
theorem aroundT_spec {l r : Tr} (s : List UInt8) (hl : l.ok) (hr : r.ok) : (aroundT l s r).bytes = l.bytes ++ s ++ r.bytes ∧ (aroundT l s r).pcs ≤ l.pcs + (if s = [] then 0 else 1) + r.pcs ∧ (aroundT l s r).ok := by
  unfold aroundT
  by_cases hs : s = []
  · subst hs
    simp only [ne_eq, not_true_eq_false, if_false, if_true]
    cases r with
    | nil => simp only []; exact ⟨by simp [Tr.bytes], by simp [Tr.pcs], hl⟩
    | node a q b =>
      obtain ⟨t1, t2, t3, t4⟩ := takeF_spec _ hr (by simp)
      obtain ⟨j1, j2, j3⟩ := joinT_spec hl t3 t4
      simp only []
      refine ⟨?_, ?_, j3⟩
      · rw [j1, List.append_assoc, t1]; simp
      · rw [j2]; omega
  · obtain ⟨j1, j2, j3⟩ := joinT_spec hl hr hs
    rw [if_pos hs, if_neg hs]
    exact ⟨j1, by rw [j2]; omega, j3⟩
end Pt
