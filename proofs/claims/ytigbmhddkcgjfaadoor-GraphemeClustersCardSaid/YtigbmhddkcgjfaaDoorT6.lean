import Derived.Test.YtigbmhddkcgjfaaDoorT5
import Derived.LoopTactic
import Derived.Lib.Hide
namespace Go.Proofs.YtigbmhddkcgjfaaDoor
open Go.RowKit
open Gc


/-- A row of spans: its cells. -/
def Row (w : World) (g : Nat) (l : List Span) : Prop := g < w.heap.size ∧ ∀ k (h : k < l.length),
  w.cell? ⟨g, k * 3, none⟩ = some (.int .i64 l[k].1) ∧ w.cell? ⟨g, k * 3 + 1, none⟩ = some (.int .i64 l[k].2.1) ∧ w.cell? ⟨g, k * 3 + 2, none⟩ = some (.int .i64 l[k].2.2)

set_option maxRecDepth 100000 in
set_option maxHeartbeats 1000000 in
theorem within_any (l : List Span) (g : Nat) (p : Int) (w : World) (hl : l.length ≤ 1000) (hg : g < w.heap.size) (hR : Row w g l) :
    Calls Tryd.prog 33 #[.slice (some ⟨g, 0, none⟩) l.length l.length, .int .i64 p] w fun e w' => e = .returned (.int .i64 (within l p)) ∧ Below w.heap.size w w' := by
  go_enter Tryd.func33, Tryd.ntmps33
  go_wp2
  go_loopw [5] (fun i wr => ∃ k : Nat, k ≤ l.length ∧ i = .int .i64 (k : Nat) ∧ Below w.heap.size w wr ∧ within l p = within (l.drop k) p) (fun i _ => l.length - (intOf i).toNat)
  case atStart => exact ⟨0, Nat.zero_le _, rfl, Below.refl _ _, rfl⟩
  case round =>
    obtain ⟨k, hk, rfl, hbw, hin⟩ := hrel
    by_cases hlt : k < l.length
    · have hc := hR.2 k hlt
      obtain ⟨h1, h2, h3⟩ := hc
      have c1 := (hbw.cell (p := ⟨g, k * 3, none⟩) hg).trans h1
      have c2 := (hbw.cell (p := ⟨g, k * 3 + 1, none⟩) hg).trans h2
      have c3 := (hbw.cell (p := ⟨g, k * 3 + 2, none⟩) hg).trans h3
      have hd : l.drop k = l[k] :: l.drop (k + 1) := List.drop_eq_getElem_cons hlt
      have hin2 : within l p = if has p l[k] then l[k].2.2 else within (l.drop (k + 1)) p := by rw [hin, hd]; rfl
      clear hin hd h1 h2 h3
      generalize l[k] = s at c1 c2 c3 hin2
      obtain ⟨x, y, z⟩ := s
      dsimp only at c1 c2 c3 hin2
      by_cases hx : x ≤ p
      · by_cases hy : p ≤ y
        · rw [if_pos ((has_iff p _).2 ⟨hx, hy⟩)] at hin2
          go_wp2
          go_ret
          exact ⟨by rw [hin2]; rfl, hbw⟩
        · rw [if_neg (fun h => hy ((has_iff p _).1 h).2)] at hin2
          have hbw2 := Go.Lib.hid hbw
          clear hbw
          go_wp2
          go_roundw
          case rel => exact ⟨k + 1, by omega, by go_num, hbw2.out, hin2⟩
          case measure => simp [intOf]; omega
      · rw [if_neg (fun h => hx ((has_iff p _).1 h).1)] at hin2
        have hbw2 := Go.Lib.hid hbw
        clear hbw
        go_wp2
        go_roundw
        case rel => exact ⟨k + 1, by omega, by go_num, hbw2.out, hin2⟩
        case measure => simp [intOf]; omega
    · have e : k = l.length := by omega
      rw [e, List.drop_length] at hin
      go_wp2
      go_ret
      exact ⟨by rw [hin]; rfl, hbw⟩
end Go.Proofs.YtigbmhddkcgjfaaDoor
