import Derived.Test.YtknbglcmjggkjaaMK
import Derived.Deep.QuietTactic
import Derived.BigQuiet
import Derived.Lib.Strings
import Derived.Deep.RegionWith
import Derived.Deep.RegionHeld3
namespace Go.Proofs.Ytknbglcmjggkjaa.Cp
open Go.RowKit
open U

def DecRet (l : List UInt8) (w : World) (e : Ending) (w' : World) : Prop := e = .returned (.tuple #[.int .i64 ((dec l).1 : Nat), .int .i64 ((dec l).2 : Nat)]) ∧ Below w.heap.size w w'
theorem decRet_of {l : List UInt8} {w w' : World} {p n : Nat} {e : Ending} (h : dec l = (p, n)) (he : e = .returned (.tuple #[.int .i64 (p : Nat), .int .i64 (n : Nat)])) (hw : Below w.heap.size w w') : DecRet l w e w' := by
  unfold DecRet; rw [h]; exact ⟨he, hw⟩

theorem rn_cases (a : Nat) : (rn a = 0 ∧ (a < 192 ∨ 248 ≤ a)) ∨ (rn a = 2 ∧ (rp a : Nat) = (a : Int) - 192 ∧ 192 ≤ a ∧ a < 224) ∨ (rn a = 3 ∧ (rp a : Nat) = (a : Int) - 224 ∧ 224 ≤ a ∧ a < 240) ∨ (rn a = 4 ∧ (rp a : Nat) = (a : Int) - 240 ∧ 240 ≤ a ∧ a < 248) := by
  unfold rn rp
  by_cases h1 : a < 192
  · rw [if_pos h1]; exact .inl ⟨rfl, .inl h1⟩
  rw [if_neg h1]
  by_cases h2 : a < 224
  · rw [if_pos h2, if_pos h2]; exact .inr (.inl ⟨rfl, by omega, by omega, h2⟩)
  rw [if_neg h2, if_neg h2]
  by_cases h3 : a < 240
  · rw [if_pos h3, if_pos h3]; exact .inr (.inr (.inl ⟨rfl, by omega, by omega, h3⟩))
  rw [if_neg h3, if_neg h3]
  by_cases h4 : a < 248
  · rw [if_pos h4]; exact .inr (.inr (.inr ⟨rfl, by omega, by omega, h4⟩))
  · rw [if_neg h4]; exact .inl ⟨rfl, .inr (by omega)⟩

theorem rdec_short (l : List UInt8) (a : UInt8) (t : List UInt8) (h : l = a :: t) (h1 : ¬ a.toNat < 128) (h2 : rn a.toNat = 0 ∨ l.length < rn a.toNat) : dec l = (0, 0) := by
  rw [← rdec_eq]; subst h; unfold rdec; simp only []; rw [if_neg h1, if_pos h2]
theorem rdec_none (l : List UInt8) (a : UInt8) (t : List UInt8) (h : l = a :: t) (h1 : ¬ a.toNat < 128) (h2 : ¬ (rn a.toNat = 0 ∨ l.length < rn a.toNat)) (h3 : cgo ((l.take (rn a.toNat)).drop 1) (rp a.toNat) = none) : dec l = (0, 0) := by
  rw [← rdec_eq]; subst h; unfold rdec; simp only []; rw [if_neg h1, if_neg h2, h3]
theorem rdec_some (l : List UInt8) (a : UInt8) (t : List UInt8) (q : Nat) (h : l = a :: t) (h1 : ¬ a.toNat < 128) (h2 : ¬ (rn a.toNat = 0 ∨ l.length < rn a.toNat)) (h3 : cgo ((l.take (rn a.toNat)).drop 1) (rp a.toNat) = some q) : dec l = if isPt q ∧ enc q = l.take (rn a.toNat) then (q, rn a.toNat) else (0, 0) := by
  rw [← rdec_eq]; subst h; unfold rdec; simp only []; rw [if_neg h1, if_neg h2, h3]
theorem take_drop_cons (s : ByteArray) (k n : Nat) (h : k < s.size) (hn : k < n) : (s.data.toList.take n).drop k = s[k] :: (s.data.toList.take n).drop (k + 1) := by
  rw [List.drop_eq_getElem_cons (by simp; omega), List.getElem_take]; rfl

theorem extract_take (s : ByteArray) (n : Nat) : (s.extract 0 n).toList = s.data.toList.take n := by
  rw [Lib.extract_toList]; simp
theorem close_ne {s : ByteArray} {P n : Nat} (h : dec s.data.toList = if isPt P ∧ enc P = s.data.toList.take n then (P, n) else (0, 0)) (hq : (!enc P == (s.extract 0 n).toList) = true) : dec s.data.toList = (0, 0) := by
  rw [h, if_neg]
  rintro ⟨_, q⟩
  rw [extract_take, q] at hq
  simp at hq
theorem close_eq {s : ByteArray} {P n : Nat} (hp : isPt P) (h : dec s.data.toList = if isPt P ∧ enc P = s.data.toList.take n then (P, n) else (0, 0)) (hq : (!enc P == (s.extract 0 n).toList) = false) : dec s.data.toList = (P, n) := by
  rw [h, if_pos]
  refine ⟨hp, ?_⟩
  rw [extract_take] at hq
  simpa using hq
def CgoAt (l : List UInt8) (a Z P : Nat) : Prop := cgo ((l.take (rn a)).drop 1) (rp a) = cgo ((l.take (rn a)).drop Z) P
end Go.Proofs.Ytknbglcmjggkjaa.Cp
