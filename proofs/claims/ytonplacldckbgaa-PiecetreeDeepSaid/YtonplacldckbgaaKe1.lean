/- Layer 4: binary digits (21); how deep a balanced tree can be. -/
import Derived.Test.YtonplacldckbgaaKa
namespace Go.Proofs.Ytonplacldckbgaa
open Go.RowKit Go.Shelf Go.Lib Pt

def bitsN (n : Nat) : Nat := if n = 0 then 0 else bitsN (n / 2) + 1
termination_by n
decreasing_by omega
theorem bitsN_zero : bitsN 0 = 0 := by rw [bitsN]; rfl
theorem bitsN_pos {n : Nat} (h : 0 < n) : bitsN n = bitsN (n / 2) + 1 := by rw [bitsN, if_neg (by omega)]
theorem bits_ge (k : Nat) : ∀ p, 2 ^ k ≤ p → k + 1 ≤ bitsN p := by
  induction k with
  | zero => intro p h; rw [bitsN_pos (by have : 2 ^ 0 = 1 := rfl; omega)]; omega
  | succ k ih =>
    intro p h
    have h1 : 2 ^ (k + 1) = 2 * 2 ^ k := by rw [Nat.pow_succ]; omega
    have h2 : 0 < 2 ^ k := Nat.two_pow_pos k
    have := ih (p / 2) (by omega)
    rw [bitsN_pos (by omega)]
    omega
theorem bits_le (n : Nat) : bitsN n ≤ n := by
  induction n using Nat.strongRecOn with
  | _ n ih =>
    by_cases h : n = 0
    · subst h; rw [bitsN_zero]; exact Nat.le_refl _
    · rw [bitsN_pos (by omega)]
      have := ih (n / 2) (by omega)
      omega
theorem dep_pow (t : Tr) : t.ok → 2 ^ ((t.dep + 1) / 2) ≤ t.pcs + 1 := by
  induction t with
  | nil => intro _; decide
  | node l p r il ir =>
    rintro ⟨a1, a2, a3, a4, a5⟩
    have h1 := il a1
    have h2 := ir a2
    simp only [Tr.dep, Tr.pcs]
    by_cases h : r.dep ≤ l.dep
    · rw [show max l.dep r.dep = l.dep by omega, show (l.dep + 1 + 1) / 2 = l.dep / 2 + 1 by omega, Nat.pow_succ]
      have e1 : 2 ^ (l.dep / 2) ≤ 2 ^ ((l.dep + 1) / 2) := Nat.pow_le_pow_right (by decide) (by omega)
      have e2 : 2 ^ (l.dep / 2) ≤ 2 ^ ((r.dep + 1) / 2) := Nat.pow_le_pow_right (by decide) (by omega)
      omega
    · rw [show max l.dep r.dep = r.dep by omega, show (r.dep + 1 + 1) / 2 = r.dep / 2 + 1 by omega, Nat.pow_succ]
      have e1 : 2 ^ (r.dep / 2) ≤ 2 ^ ((l.dep + 1) / 2) := Nat.pow_le_pow_right (by decide) (by omega)
      have e2 : 2 ^ (r.dep / 2) ≤ 2 ^ ((r.dep + 1) / 2) := Nat.pow_le_pow_right (by decide) (by omega)
      omega
theorem dep_bits {t : Tr} (h : t.ok) : t.dep ≤ 2 * bitsN t.pcs := by
  have h1 := dep_pow t h
  by_cases h0 : t.dep = 0
  · omega
  obtain ⟨m, hm⟩ : ∃ m, (t.dep + 1) / 2 = m + 1 := ⟨(t.dep + 1) / 2 - 1, by omega⟩
  rw [hm, Nat.pow_succ] at h1
  have h2 : 0 < 2 ^ m := Nat.two_pow_pos m
  have := bits_ge m t.pcs (by omega)
  omega
set_option maxRecDepth 100000 in
set_option maxHeartbeats 4000000 in
theorem bits_any (p : Nat) (w : World) (hp : p ≤ 200000) : Calls Try.prog 21 #[.int .i64 (p : Nat)] w fun e w' => e = .returned (.int .i64 (bitsN p : Nat)) ∧ w' = w := by
  have hbl := bits_le p
  go_enter Try.func21, Try.ntmps21
  go_wp2_with fail
  go_loop [0, 3] (fun nv kv => ∃ (n k : Nat), nv = .int .i64 (n : Nat) ∧ kv = .int .i64 (k : Nat) ∧ n ≤ p ∧ k + bitsN n = bitsN p) (fun nv _ => (RowKit.intOf nv).toNat)
  case atStart => exact ⟨p, 0, rfl, rfl, Nat.le_refl _, by omega⟩
  case round =>
    obtain ⟨n, k, rfl, rfl, hn, hk⟩ := hrel
    by_cases h0 : 0 < n
    · have hb := bitsN_pos h0
      have hi : (0 : Int) < (n : Int) := by omega
      have hd : Int.tdiv (n : Int) 2 = ((n / 2 : Nat) : Int) := by rw [Int.tdiv_eq_ediv_of_nonneg (by omega)]; omega
      have hW : IntKind.i64.wrap (Int.tdiv (n : Int) 2) = ((n / 2 : Nat) : Int) := by rw [hd, IntKind.wrap_i64]; omega
      clear hd
      have hn2 : n / 2 ≤ 200000 := by omega
      go_wp2
      go_round
      case rel => exact ⟨n / 2, k + 1, by first | rfl | go_num, by go_num, by omega, by omega⟩
      case measure => simp [RowKit.intOf]; omega
    · obtain rfl : n = 0 := by omega
      rw [bitsN_zero] at hk
      obtain rfl : k = bitsN p := by omega
      go_wp2
      go_ret
      exact ⟨rfl, rfl⟩
end Go.Proofs.Ytonplacldckbgaa
