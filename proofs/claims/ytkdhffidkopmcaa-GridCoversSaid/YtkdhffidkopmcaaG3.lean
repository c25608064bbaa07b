/- Layer 12, plain: the rectangles are told by the table; those of the chapter's example. -/
import Derived.Test.YtkdhffidkopmcaaG2
namespace Go.Proofs.Ytkdhffidkopmcaa
namespace Gd
set_option linter.unusedVariables false
theorem sorted_ext {α : Type} {R : α → α → Prop} (asym : ∀ a b, R a b → R b a → False) : ∀ (l l' : List α), l.Pairwise R → l'.Pairwise R → (∀ x, x ∈ l ↔ x ∈ l') → l = l'
  | [], [], _, _, _ => rfl
  | [], b :: l', _, _, h => by have := (h b).2 (List.mem_cons_self ..); cases this
  | a :: l, [], _, _, h => by have := (h a).1 (List.mem_cons_self ..); cases this
  | a :: l, b :: l', h1, h2, h => by
    obtain ⟨p1, p2⟩ := List.pairwise_cons.1 h1
    obtain ⟨q1, q2⟩ := List.pairwise_cons.1 h2
    have hab : a = b := by
      rcases List.mem_cons.1 ((h a).1 (List.mem_cons_self ..)) with e | e
      · exact e
      · rcases List.mem_cons.1 ((h b).2 (List.mem_cons_self ..)) with e' | e'
        · exact e'.symm
        · exact (asym _ _ (q1 a e) (p1 b e')).elim
    subst hab
    refine congrArg (a :: ·) (sorted_ext asym l l' p2 q2 fun x => ?_)
    constructor
    · intro hx
      rcases List.mem_cons.1 ((h x).1 (List.mem_cons_of_mem _ hx)) with e | e
      · subst e; exact (asym _ _ (p1 x hx) (p1 x hx)).elim
      · exact e
    · intro hx
      rcases List.mem_cons.1 ((h x).2 (List.mem_cons_of_mem _ hx)) with e | e
      · subst e; exact (asym _ _ (q1 x hx) (q1 x hx)).elim
      · exact e
theorem Fin.sub {T : Tb} (hT : TbOk T) {rs rs' : List Rc} {f f' : Nat → Nat → Option Nat} (h : Fin T rs f) (h' : Fin T rs' f') {q : Rc} (hq : q ∈ rs) : q ∈ rs' := by
  obtain ⟨⟨m, ha⟩, hlt, hk, hb⟩ := h.cell q hq
  obtain ⟨j, q', _, hj, hl, hr, hrow, hbt, m', ha'⟩ := h'.get hT ha hlt
  rw [top_self hk] at hrow ha'
  have hc := ha.idx hT ha' hlt hlt
  have hbb := Bt.unique hb hbt
  have e : q = q' := by
    cases q; cases q'
    simp only at hrow hc hl hbb hr
    subst hrow hc hl hbb hr
    rfl
  rw [e]; exact List.mem_of_getElem? hj
theorem Fin.unique {T : Tb} (hT : TbOk T) {rs rs' : List Rc} {f f' : Nat → Nat → Option Nat} (h : Fin T rs f) (h' : Fin T rs' f') : rs = rs' :=
  sorted_ext (fun a b h1 h2 => by omega) rs rs' h.ord h'.ord fun q => ⟨h.sub hT h', h'.sub hT h⟩
def TK : Tb := [[(0, 2, 1), (2, 3, 0)], [(0, 2, 2), (2, 3, 0)]]
theorem TK_ok : TbOk TK := by
  intro L hL
  unfold TK at hL
  simp at hL
  rcases hL with rfl | rfl
  · exact ⟨by simp, by simp⟩
  · exact ⟨by simp, by simp⟩
theorem TK_kc : Kc TK 1 0 2 := ⟨0, rfl, ⟨_, rfl, by simp, by omega⟩, .inl ⟨_, rfl, by simp, by omega⟩⟩
theorem TK_nk : ¬ Kc TK 1 2 3 := by
  rintro ⟨_, _, ⟨L, h1, h2, _⟩, _⟩
  have : L = [(0, 2, 2), (2, 3, 0)] := by simpa [TK] using h1.symm
  subst this
  simp at h2
def RK : List Rc := [⟨0, 0, 0, 2, 2⟩, ⟨0, 1, 2, 1, 3⟩, ⟨1, 1, 2, 2, 3⟩]
theorem TK_fin : ∃ f, Fin TK RK f := by
  have a0 : At TK 0 0 0 2 1 := ⟨_, rfl, rfl⟩
  have a1 : At TK 0 1 2 3 0 := ⟨_, rfl, rfl⟩
  have a2 : At TK 1 0 0 2 2 := ⟨_, rfl, rfl⟩
  have a3 : At TK 1 1 2 3 0 := ⟨_, rfl, rfl⟩
  have i1 := ((Inv.start TK).new TK_ok a0 (by omega) Kc.zero).new TK_ok a1 (by omega) Kc.zero
  have i2 := Inv.rowEnd (L := [(0, 2, 1), (2, 3, 0)]) i1 rfl
  have i3 := i2.more' TK_ok a2 (by omega) TK_kc (R' := 0) (j := 0) (q := ⟨0, 0, 0, 1, 2⟩) rfl (by simp) rfl
  have i4 := i3.new TK_ok a3 (by omega) TK_nk
  have i5 := Inv.rowEnd (L := [(0, 2, 2), (2, 3, 0)]) i4 rfl
  exact ⟨_, Inv.fin (T := TK) i5⟩
end Gd
end Go.Proofs.Ytkdhffidkopmcaa
