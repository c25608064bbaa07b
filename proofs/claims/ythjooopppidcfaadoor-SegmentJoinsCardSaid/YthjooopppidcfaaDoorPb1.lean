/- Layer 3: the breaks by their numbers, plainly. -/
import Derived.Test.YthjooopppidcfaaDoorPa
namespace Go.Proofs.YthjooopppidcfaaDoor
open Gc

def bk (l : List (Nat × Int)) (k : Nat) : Nat × Int := l.getD k (0, 0)
theorem bk_get (l : List (Nat × Int)) (k : Nat) (h : k < l.length) : l[k] = bk l k := by
  unfold bk
  rw [List.getD_eq_getElem?_getD, List.getElem?_eq_getElem h]; rfl
structure BrkNum (P : List Nat) (k : Nat) : Prop where
  pos : 0 < (bk (ubrk P) k).1
  lt : (bk (ubrk P) k).1 < P.length
  up : 0 < k → (bk (ubrk P) (k - 1)).1 < (bk (ubrk P) k).1
  blank : (bk (ubrk P) k).2 ≠ 2 → Sg.classOf ((P.getD (bk (ubrk P) k).1 0 : Nat) : Int) ≠ 2
  border : ∃ x ∈ utok P, x.2.1 = (bk (ubrk P) k).1
theorem ubrk_up (P : List Nat) : (ubrk P).Pairwise (fun a b => a.1 < b.1) := by
  unfold ubrk
  rw [List.pairwise_map]
  have h := List.pairwise_lt_range (n := (segC P).length)
  have h2 : (List.range (segC P).length).Pairwise (fun a b => a < b ∧ b < (segC P).length) := by
    refine h.imp_of_mem ?_
    intro a b _ hb hab
    exact ⟨hab, List.mem_range.1 hb⟩
  exact (h2.filter _).imp (fun hab => cut_lt P _ _ hab.1 (Nat.le_of_lt hab.2))
theorem brk_num (P : List Nat) (k : Nat) (h : k < (ubrk P).length) : BrkNum P k := by
  have hm : bk (ubrk P) k ∈ ubrk P := by rw [← bk_get _ k h]; exact List.getElem_mem h
  obtain ⟨b1, b2, b3⟩ := ubrk_border P _ hm
  refine ⟨b2, b3, ?_, ?_, b1⟩
  · intro h0
    have := List.pairwise_iff_getElem.1 (ubrk_up P) (k - 1) k (by omega) h (by omega)
    rw [bk_get _ (k - 1) (by omega), bk_get _ k h] at this
    exact this
  · intro h2
    unfold ubrk at hm
    obtain ⟨j, hj, hjk⟩ := List.mem_map.1 hm
    rw [List.mem_filter, List.mem_range] at hj
    obtain ⟨hj1, hj2⟩ := hj
    simp only [Bool.and_eq_true, decide_eq_true_eq] at hj2
    have e : bk (ubrk P) k = (cut P j, Sg.kindAt (segC P) j) := hjk.symm
    rw [e] at h2 ⊢
    dsimp only at h2 ⊢
    intro hc
    obtain ⟨hcut, hseg⟩ := segC_get P j hj1
    have hcat : Sg.cat (segC P) j = 2 := by
      rw [cat_lt _ j hj1, hseg, ← hc, List.getD_eq_getElem?_getD, List.getElem?_eq_getElem hcut]; rfl
    refine h2 ?_
    have h3 := hj2.2
    unfold Sg.kindAt at h3 ⊢
    rw [hcat] at h3 ⊢
    exact Sg.kindB_blank _ _ h3
/-- Whether a number is the beginning of one of the first tokens. -/
def amongT (l : List (Int × Nat × Nat)) (x : Nat) (j : Nat) : Bool := (l.take j).any fun y => y.2.1 == x
theorem amongT_succ (l : List (Int × Nat × Nat)) (x : Nat) (j : Nat) (h : j < l.length) : amongT l x (j + 1) = (amongT l x j || (tk l j).2.1 == x) := by
  unfold amongT
  rw [List.take_succ_eq_append_getElem h, List.any_append, ← tk_get l j h]; simp
theorem amongT_all (l : List (Int × Nat × Nat)) (x : Nat) (j : Nat) (h : l.length ≤ j) (hx : ∃ y ∈ l, y.2.1 = x) : amongT l x j = true := by
  unfold amongT
  rw [List.take_of_length_le h, List.any_eq_true]
  obtain ⟨y, hy, e⟩ := hx
  exact ⟨y, hy, by simp [e]⟩
end Go.Proofs.YthjooopppidcfaaDoor
