import Derived.Test.YtblabbeaaajlkaaF2
namespace Go.Proofs.Ytblabbeaaajlkaa
open Go.RowKit
open U

/-- A slice of numbers in memory, at whatever place. -/
def SliceAt (w : World) (v : Value) (Z : List Int) : Prop :=
  (Z = [] ∧ ∃ a c, v = .slice a 0 c) ∨ ∃ g o cap, v = .slice (some ⟨g, o, none⟩) Z.length cap ∧ g < w.heap.size ∧ ∀ j (h : j < Z.length), w.cell? ⟨g, o + j, none⟩ = some (.int .i64 Z[j])
def asInts (P : List Nat) : List Int := P.map fun (p : Nat) => (p : Int)
theorem asInts_length (P : List Nat) : (asInts P).length = P.length := by simp [asInts]
theorem asInts_get (P : List Nat) (j : Nat) (h : j < (asInts P).length) : (asInts P)[j] = ((P[j]'(by rw [asInts_length] at h; exact h) : Nat) : Int) := by simp [asInts]
theorem IntsAt.slice {w : World} {v : Value} {P : List Nat} (h : IntsAt w v P) : SliceAt w v (asInts P) := by
  rcases h with ⟨rfl, h⟩ | ⟨g, cap, hv, hg, hc⟩
  · exact .inl ⟨rfl, _, _, h⟩
  · refine .inr ⟨g, 0, cap, by rw [asInts_length]; exact hv, hg, fun j hj => ?_⟩
    rw [asInts_get, Nat.zero_add]; exact hc j _
theorem SliceAt.below {w w' : World} {v : Value} {Z : List Int} (h : SliceAt w v Z) (hb : Below w.heap.size w w') : SliceAt w' v Z := by
  rcases h with h | ⟨g, o, cap, hv, hg, hc⟩
  · exact .inl h
  · exact .inr ⟨g, o, cap, hv, Nat.lt_of_lt_of_le hg hb.size, fun j hj => (hb.cell (p := ⟨g, o + j, none⟩) hg).trans (hc j hj)⟩

set_option maxRecDepth 100000 in
set_option maxHeartbeats 2000000 in
theorem same_all (va vb : Value) (Z : List Int) (hZ : Z.length ≤ 1000000) (w : World) (ha : SliceAt w va Z) (hb : SliceAt w vb Z) :
    Calls Try.prog 22 #[va, vb] w (TrueRet w) := by
  by_cases h0 : Z = []
  · obtain ⟨a, ca, rfl⟩ : ∃ a ca, va = .slice a 0 ca := by
      rcases ha with ⟨_, h⟩ | ⟨g, o, cap, h, _⟩
      · exact h
      · subst h0; exact ⟨_, _, h⟩
    obtain ⟨b, cb, rfl⟩ : ∃ b cb, vb = .slice b 0 cb := by
      rcases hb with ⟨_, h⟩ | ⟨g, o, cap, h, _⟩
      · exact h
      · subst h0; exact ⟨_, _, h⟩
    clear ha hb h0
    go_enter Try.func22, Try.ntmps22
    go_wp2
    refine wp_loop_rounds 1 ?_
    rw [rounds_succ]
    go_wp2
    go_ret
    exact ⟨rfl, Below.refl _ _⟩
  · rcases ha with ⟨h, _⟩ | ⟨g, o, ca, rfl, hg, hca⟩
    · exact absurd h h0
    rcases hb with ⟨h, _⟩ | ⟨g2, o2, cb, rfl, hg2, hcb⟩
    · exact absurd h h0
    have HA := Lib.hid hca
    have HB := Lib.hid hcb
    clear hca hcb h0
    go_enter Try.func22, Try.ntmps22
    go_wp2
    go_loopw [5] (fun i wr => ∃ k : Nat, k ≤ Z.length ∧ i = .int .i64 (k : Nat) ∧ Below w.heap.size w wr) (fun i _ => Z.length - (intOf i).toNat)
    case atStart => exact ⟨0, Nat.zero_le _, rfl, Below.refl _ _⟩
    case round =>
      obtain ⟨k, hk, rfl, hbw⟩ := hrel
      by_cases hlt : k < Z.length
      · have c1 : wr.cell? ⟨g, o + k, none⟩ = some (.int .i64 Z[k]) := (hbw.cell (p := ⟨g, o + k, none⟩) hg).trans (HA.out k hlt)
        have c2 : wr.cell? ⟨g2, o2 + k, none⟩ = some (.int .i64 Z[k]) := (hbw.cell (p := ⟨g2, o2 + k, none⟩) hg2).trans (HB.out k hlt)
        have hbw2 := Lib.hid hbw
        clear hbw
        go_wp2
        go_quiet (fail)
        go_wp2
        go_roundw
        case rel => exact ⟨k + 1, by omega, by go_num, below_drewN hbw2.out _⟩
        case measure => simp [intOf]; omega
      · go_wp2
        go_ret
        exact ⟨rfl, hbw⟩

theorem u8_or_add (a b : Nat) (ha : a % 64 = 0) (ha2 : a < 256) (hb : b < 64) : bits .or .u8 (a : Int) (b : Int) = ((a + b : Nat) : Int) := by
  rw [u8_or_nat a b ha2 (by omega), nat_join 6 a b (by omega) (by omega)]
set_option maxRecDepth 100000 in
set_option maxHeartbeats 1000000 in
theorem further_any (p : Nat) (hp : p ≤ 1114111) (w : World) :
    Calls Try.prog 48 #[.int .i64 p] w fun e w' => e = .returned (.int .u8 ((128 + p % 64 : Nat) : Int)) ∧ w = w' := by
  have h1 : bits .and .i64 (p : Int) 63 = ((p % 64 : Nat) : Int) := by
    have := i64_and_nat p 63 (by omega) (by omega)
    rw [nat_mask6] at this; exact this
  have h2 : bits .or .u8 128 ((p : Int) % 64) = ((128 + p % 64 : Nat) : Int) := by
    have := u8_or_add 128 (p % 64) (by omega) (by omega) (by omega)
    exact this
  go_enter Try.func48, Try.ntmps48
  go_wp2
  go_ret
  refine ⟨ret_int ?_, rfl⟩
  first | rfl | (simp; omega)
end Go.Proofs.Ytblabbeaaajlkaa
