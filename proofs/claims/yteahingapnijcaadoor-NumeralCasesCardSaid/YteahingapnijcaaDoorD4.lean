/- Layer 9: the law Cases. -/
import Derived.Test.YteahingapnijcaaDoorD1
import Derived.Deep.QuietTactic
import Derived.BigQuiet
namespace Go.Proofs.YteahingapnijcaaDoor
open Go.RowKit Go.Lib Go.Shelf Nu9

theorem runs_first {c : UInt8} {t : List UInt8} (hc : c ≠ 0) (h : runs4 (c :: t) 0 0 = true) : runs4 t c 1 = true := by
  unfold runs4 at h
  rwa [if_neg hc] at h
theorem runs_same {c : UInt8} {t : List UInt8} {k : Nat} (h : runs4 (c :: t) c k = true) : k + 1 ≤ 3 ∧ runs4 t c (k + 1) = true := by
  unfold runs4 at h
  rw [if_pos rfl] at h
  simpa using h
theorem runs_other {c p : UInt8} {t : List UInt8} {k : Nat} (hc : c ≠ p) (h : runs4 (c :: t) p k = true) : runs4 t c 1 = true := by
  unfold runs4 at h
  rwa [if_neg hc] at h
/-- How often the last letter has come. -/
def RunAt (l : List UInt8) (k m : Nat) : Prop := (k = 0 ∧ m = 0 ∧ runs4 l 0 0 = true) ∨ (∃ h : 0 < k ∧ k ≤ l.length, 1 ≤ m ∧ m ≤ 3 ∧ runs4 (l.drop k) (l[k - 1]'(by omega)) m = true)
theorem run_next {l : List UInt8} {k m : Nat} (hl : ltrs l) (h : RunAt l k m) (hk : k < l.length) :
    (k = 0 ∧ m = 0 ∧ RunAt l 1 1) ∨ (∃ h0 : 0 < k, 1 ≤ m ∧ m ≤ 3 ∧ ((l[k] = l[k - 1]'(by omega) ∧ m ≤ 2 ∧ RunAt l (k + 1) (m + 1)) ∨ (l[k] ≠ l[k - 1]'(by omega) ∧ RunAt l (k + 1) 1))) := by
  have hc : l[k] ≠ 0 := fun e => by have := hl l[k] (List.getElem_mem hk); rw [e] at this; simp at this
  rcases h with ⟨rfl, rfl, h⟩ | ⟨⟨h0, hkl⟩, h1, h3, h⟩
  · left
    refine ⟨rfl, rfl, .inr ⟨⟨by omega, by omega⟩, by omega, by omega, ?_⟩⟩
    cases l with
    | nil => simp at hk
    | cons c t => exact runs_first hc h
  · right
    rw [List.drop_eq_getElem_cons hk] at h
    refine ⟨h0, h1, h3, ?_⟩
    by_cases e : l[k] = l[k - 1]'(by omega)
    · left
      rw [← e] at h
      have := runs_same h
      exact ⟨e, by omega, .inr ⟨⟨by omega, by omega⟩, by omega, by omega, this.2⟩⟩
    · right
      exact ⟨e, .inr ⟨⟨by omega, by omega⟩, by omega, by omega, runs_other e h⟩⟩
/-- A string of small letters and the string of their capitals. -/
structure Pair (s t : ByteArray) : Prop where
  size : s.size = t.size
  lo : ∀ k (h : k < s.size), 97 ≤ (s[k]'h).toNat ∧ (s[k]'h).toNat ≤ 122
  hi : ∀ k (h : k < s.size) (h' : k < t.size), ((t[k]'h').toNat : Int) = ((s[k]'h).toNat : Int) - 32
theorem pair_bs (l : List UInt8) (h : ltrs l) : Pair (bs l) (bs (l.map up)) := by
  refine ⟨by rw [bs_size, bs_size, List.length_map], fun k hk => ?_, fun k hk hk' => ?_⟩
  · have hkl : k < l.length := by rwa [bs_size] at hk
    exact h l[k] (List.getElem_mem hkl)
  · have hkl : k < l.length := by rwa [bs_size] at hk
    have h1 := h l[k] (List.getElem_mem hkl)
    have e1 : (bs l)[k]'hk = l[k] := by simp [bs, ByteArray.getElem_eq_getElem_data]
    have e2 : (bs (l.map up))[k]'hk' = up l[k] := by simp [bs, ByteArray.getElem_eq_getElem_data]
    rw [e1, e2]
    exact up_yes h1.1 h1.2
end Go.Proofs.YteahingapnijcaaDoor
