/- Layer 3: the tokens by their numbers, plainly. -/
import Derived.Test.YthjooopppidcfaaDoorKu
namespace Go.Proofs.YthjooopppidcfaaDoor
open Gc

def tk (l : List (Int × Nat × Nat)) (k : Nat) : Int × Nat × Nat := l.getD k (0, 0, 0)
theorem tk_get (l : List (Int × Nat × Nat)) (k : Nat) (h : k < l.length) : l[k] = tk l k := by
  unfold tk
  rw [List.getD_eq_getElem?_getD, List.getElem?_eq_getElem h]; rfl
theorem tk_cons (x : Int × Nat × Nat) (l : List (Int × Nat × Nat)) (k : Nat) : tk (x :: l) (k + 1) = tk l k := rfl
theorem tk_zero (x : Int × Nat × Nat) (l : List (Int × Nat × Nat)) : tk (x :: l) 0 = x := rfl
theorem toks_num (c : List Int) (d : Nat) : ∀ i, c.length - i = d → ∀ k, k < (Sg.toks c i).length → (tk (Sg.toks c i) k).2.1 < c.length ∧ (tk (Sg.toks c i) k).2.2 = Sg.tokEnd c (tk (Sg.toks c i) k).2.1 ∧
    (tk (Sg.toks c i) k).1 = Sg.tokKind c (tk (Sg.toks c i) k).2.1 ∧ (tk (Sg.toks c i) k).2.1 = (if k = 0 then i else (tk (Sg.toks c i) (k - 1)).2.2) := by
  induction d using Nat.strongRecOn with
  | ind d ih =>
    intro i hd k hk
    by_cases h : i < c.length
    · have h2 := Sg.tokEnd_lt c i h
      rw [Sg.toks_go h] at hk ⊢
      cases k with
      | zero => exact ⟨h, rfl, rfl, rfl⟩
      | succ k =>
        have hk' : k < (Sg.toks c (Sg.tokEnd c i)).length := by simpa using hk
        obtain ⟨a1, a2, a3, a4⟩ := ih (c.length - Sg.tokEnd c i) (by omega) _ rfl k hk'
        rw [tk_cons]
        refine ⟨a1, a2, a3, a4.trans ?_⟩
        rw [if_neg (Nat.succ_ne_zero _), Nat.add_sub_cancel]
        cases k with
        | zero => rfl
        | succ k => rw [if_neg (Nat.succ_ne_zero _), Nat.add_sub_cancel, tk_cons]
    · rw [Sg.toks_stop h] at hk
      exact absurd hk (Nat.not_lt_zero _)

/-- Where the tokens ahead of number k end. -/
def nowU (l : List (Int × Nat × Nat)) (k : Nat) : Nat := if k = 0 then 0 else (tk l (k - 1)).2.2
theorem tk_map (P : List Nat) (l : List (Int × Nat × Nat)) (k : Nat) (h : k < l.length) : tk (l.map (toU P)) k = toU P (tk l k) := by
  rw [← tk_get _ k (by simpa using h), ← tk_get l k h, List.getElem_map]
structure TokNum (P : List Nat) (k : Nat) : Prop where
  from_ : (tk (utok P) k).2.1 = nowU (utok P) k
  lt : (tk (utok P) k).2.1 < (tk (utok P) k).2.2
  kind : 1 ≤ (tk (utok P) k).1 ∧ (tk (utok P) k).1 ≤ 6
  bound : ((tk (utok P) k).2.2 : Int) ∈ bl (cls (cp P))
  next : 0 < k → ¬ ((tk (utok P) (k - 1)).1 = 3 ∧ (tk (utok P) k).1 = 3) ∧ ¬ ((tk (utok P) (k - 1)).1 ≤ 2 ∧ (tk (utok P) k).1 ≤ 2)
theorem bl_cut (P : List Nat) (k : Nat) (h : k ≤ (segC P).length) : ((cut P k : Nat) : Int) ∈ bl (cls (cp P)) := by
  have hb : k < (bl (cls (cp P))).length := by rw [bl_len, ← segC_len]; omega
  rw [← bl_get P k hb]
  exact List.getElem_mem hb
theorem tok_num (P : List Nat) (k : Nat) (h : k < (utok P).length) : TokNum P k := by
  have hl : (utok P).length = (Sg.toks (segC P) 0).length := by rw [utok_toU, List.length_map]
  rw [hl] at h
  obtain ⟨a1, a2, a3, a4⟩ := toks_num (segC P) _ 0 rfl k h
  have hlt := Sg.tokEnd_lt (segC P) _ a1
  rw [← a2] at hlt
  have hm := tk_map P (Sg.toks (segC P) 0) k h
  rw [← utok_toU] at hm
  refine ⟨?_, ?_, ?_, ?_, ?_⟩
  · rw [hm]
    unfold nowU
    show cut P _ = _
    rw [a4]
    by_cases h0 : k = 0
    · rw [if_pos h0, if_pos h0, cut_zero]
    · rw [if_neg h0, if_neg h0, utok_toU, tk_map P _ (k - 1) (by omega)]; rfl
  · rw [hm]
    exact cut_lt P _ _ hlt.1 hlt.2
  · rw [hm]
    show 1 ≤ (tk (Sg.toks (segC P) 0) k).1 ∧ (tk (Sg.toks (segC P) 0) k).1 ≤ 6
    rw [a3]; exact Sg.tokKind_range _ _
  · rw [hm]
    exact bl_cut P _ hlt.2
  · intro h0
    have hk1 : k - 1 < (Sg.toks (segC P) 0).length := by omega
    obtain ⟨b1, b2, b3, _⟩ := toks_num (segC P) _ 0 rfl (k - 1) hk1
    have hm1 := tk_map P (Sg.toks (segC P) 0) (k - 1) hk1
    rw [← utok_toU] at hm1
    rw [hm, hm1]
    show ¬ ((tk (Sg.toks (segC P) 0) (k - 1)).1 = 3 ∧ (tk (Sg.toks (segC P) 0) k).1 = 3) ∧ ¬ ((tk (Sg.toks (segC P) 0) (k - 1)).1 ≤ 2 ∧ (tk (Sg.toks (segC P) 0) k).1 ≤ 2)
    rw [if_neg (by omega)] at a4
    rw [b3, a3, a4, b2]
    exact Sg.tok_next (segC P) _ b1 (by rw [← b2, ← a4]; exact a1)
theorem now_end (P : List Nat) : nowU (utok P) (utok P).length = P.length := by
  have key : ∀ (l : List (Int × Nat × Nat)) (i n : Nat), Chain n i l → (if l.length = 0 then i else (tk l (l.length - 1)).2.2) = n := by
    intro l
    induction l with
    | nil => intro i n h; exact h
    | cons a l ih =>
      intro i n h
      obtain ⟨h1, h2, h3⟩ := h
      have := ih _ _ h3
      rw [if_neg (by simp)]
      cases l with
      | nil => exact this
      | cons b l => rw [if_neg (by simp)] at this; simpa [tk_cons] using this
  exact key _ 0 _ (utok_chain P)
theorem nowU_succ (l : List (Int × Nat × Nat)) (k : Nat) : nowU l (k + 1) = (tk l k).2.2 := by
  unfold nowU
  rw [if_neg (Nat.succ_ne_zero _), Nat.add_sub_cancel]
end Go.Proofs.YthjooopppidcfaaDoor
