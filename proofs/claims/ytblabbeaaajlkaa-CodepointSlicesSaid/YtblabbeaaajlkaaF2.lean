import Derived.Test.YtblabbeaaajlkaaF1
import Derived.Deep.QuietTactic
import Derived.BigQuiet
namespace Go.Proofs.Ytblabbeaaajlkaa
open Go.RowKit
open U

set_option maxRecDepth 100000 in
set_option maxHeartbeats 2000000 in
theorem same_eq (va vb : Value) (P : List Nat) (hP : P.length ≤ 1000000) (w : World) (ha : IntsAt w va P) (hb : IntsAt w vb P) :
    Calls Try.prog 22 #[va, vb] w (TrueRet w) := by
  by_cases h0 : P = []
  · obtain ⟨a, ca, rfl⟩ : ∃ a ca, va = .slice a 0 ca := by
      rcases ha with ⟨_, h⟩ | ⟨g, cap, h, _⟩
      · exact ⟨_, _, h⟩
      · subst h0; exact ⟨_, _, h⟩
    obtain ⟨b, cb, rfl⟩ : ∃ b cb, vb = .slice b 0 cb := by
      rcases hb with ⟨_, h⟩ | ⟨g, cap, h, _⟩
      · exact ⟨_, _, h⟩
      · subst h0; exact ⟨_, _, h⟩
    clear ha hb h0
    go_enter Try.func22, Try.ntmps22
    go_wp2
    refine wp_loop_rounds 1 ?_
    rw [rounds_succ]
    go_wp2
    go_ret
    exact ⟨rfl, Below.refl _ _⟩
  · rcases ha with ⟨h, _⟩ | ⟨g, ca, rfl, hg, hca⟩
    · exact absurd h h0
    rcases hb with ⟨h, _⟩ | ⟨g2, cb, rfl, hg2, hcb⟩
    · exact absurd h h0
    have HA := Lib.hid hca
    have HB := Lib.hid hcb
    have HP := Lib.hid h0
    clear hca hcb h0
    go_enter Try.func22, Try.ntmps22
    go_wp2
    go_loopw [5] (fun i wr => ∃ k : Nat, k ≤ P.length ∧ i = .int .i64 (k : Nat) ∧ Below w.heap.size w wr) (fun i _ => P.length - (intOf i).toNat)
    case atStart => exact ⟨0, Nat.zero_le _, rfl, Below.refl _ _⟩
    case round =>
      obtain ⟨k, hk, rfl, hbw⟩ := hrel
      by_cases hlt : k < P.length
      · have c1 : wr.cell? ⟨g, k, none⟩ = some (.int .i64 ((P[k] : Nat) : Int)) := (hbw.cell (p := ⟨g, k, none⟩) hg).trans (HA.out k hlt)
        have c2 : wr.cell? ⟨g2, k, none⟩ = some (.int .i64 ((P[k] : Nat) : Int)) := (hbw.cell (p := ⟨g2, k, none⟩) hg2).trans (HB.out k hlt)
        have hbw2 := Lib.hid hbw
        clear hbw
        go_wp2
        go_quiet (fail)
        go_wp2
        go_roundw
        case rel => exact ⟨k + 1, by omega, by go_num, below_drewN hbw2.out _⟩
        case measure => simp [intOf]; omega
      · go_wp2
        go_ret
        exact ⟨rfl, hbw⟩
end Go.Proofs.Ytblabbeaaajlkaa
