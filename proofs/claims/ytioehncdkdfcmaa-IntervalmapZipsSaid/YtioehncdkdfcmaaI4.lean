/- Layer 5: a map has some values (the laws' own is). -/
import Derived.Test.YtioehncdkdfcmaaI3
import Derived.Test.YtioehncdkdfcmaaC7
namespace Go.Proofs.Ytioehncdkdfcmaa
open Go.RowKit Go.Lib Im

theorem own_cells3 {w : World} {base n c : Nat} {e : TypeId} {A : Option Addr} {R : List Rn} (hown : w.ownsRow base e 3 (.slice A n c) n (rowR R)) (hR : R.length = n) {k : Nat} (hk : k < n) :
    ∃ g, A = some ⟨g, 0, none⟩ ∧ g < w.heap.size ∧ w.cell? ⟨g, k * 3, none⟩ = some (.int .i64 (R[k]'(by omega)).1) ∧ w.cell? ⟨g, k * 3 + 1, none⟩ = some (.int .i64 (R[k]'(by omega)).2.1) ∧ w.cell? ⟨g, k * 3 + 2, none⟩ = some (.int .i64 (R[k]'(by omega)).2.2) := by
  cases n with
  | zero => omega
  | succ m =>
    obtain ⟨g, cap, hv⟩ := ownsRow_succ hown
    injection hv with h1 _ _
    subst h1
    have hcl := hown.cells (g := g) rfl
    have hlt := (hown.lt g rfl).2
    obtain ⟨r0, r1, r2⟩ := rowR_get R k (by omega)
    have c0 := hcl _ _ r0
    have c1 := hcl _ _ r1
    have c2 := hcl _ _ r2
    rw [Addr.add_lit] at c0 c1 c2
    simp only [Nat.zero_add] at c0 c1 c2
    exact ⟨g, rfl, hlt, c0, c1, c2⟩
set_option maxRecDepth 100000 in
set_option maxHeartbeats 16000000 in
theorem is_any (b g : Nat) (A : Option Addr) (n c : Nat) (l : List Int) (hl : l.length = n) (w : World) (h : MpG w b g (runs l)) (hA : w.ownsRow 0 3 1 (.slice A n c) n (intsV l)) (hn : n ≤ 1000000) :
    Calls Try.prog 29 #[.pointer (some ⟨b, 0, none⟩), .slice A n c] w (BoolB true w) := by
  have cL := len_any b (runs l) w (mpG_at h)
  rw [lenR_runs, hl] at cL
  have hrl := runs_len l
  have cR := fun w' h => runs_any b (runs l) w' h (by omega)
  have cU := fun w' h => rruns_any A n c l hl w' h hn
  unfold OwnRet at cR
  unfold OwnU at cU
  have HA := Go.Lib.hid hA
  have H := Go.Lib.hid h
  obtain ⟨m, hm⟩ : ∃ m, (runs l).length = m := ⟨_, rfl⟩
  have HM := Go.Lib.hid hm
  have hmb : m ≤ 1000000 := by omega
  rw [hm] at cR cU
  clear hA h hm hrl hl
  go_enter Try.func29, Try.ntmps29
  go_wp2_with fail
  (with_reducible refine cL.mono ?_)
  rintro e w1 ⟨rfl, hb1⟩
  have HB1 := Go.Lib.hid hb1
  clear hb1 cL
  have cR1 := cR w1 (mpG_at (mpG_below H.out HB1.out))
  clear cR
  go_wp2_with fail
  (with_reducible refine cR1.mono ?_)
  rintro e w2 ⟨Ba, ca, rfl, hoa, hb2⟩
  have HB2 : Hid (Below w.heap.size w w2) := Go.Lib.hid (HB1.out.trans (hb2.mono HB1.out.size))
  have HOA := Go.Lib.hid hoa
  have cU2 := cU w2 (row_below HA.out HB2.out)
  clear hoa hb2 cU cR1 HB1
  go_wp2_with fail
  (with_reducible refine cU2.mono ?_)
  rintro e w3 ⟨Bb, cb, rfl, hob, hb3⟩
  have HB3 : Hid (Below w.heap.size w w3) := Go.Lib.hid (HB2.out.trans (hb3.mono HB2.out.size))
  have HOA3 := Go.Lib.hid (row_below HOA.out hb3)
  have HOB := Go.Lib.hid hob
  clear hob hb3 cU2 HOA HB2
  go_wp2
  go_loopw [7] (fun i wr => ∃ k : Nat, k ≤ m ∧ i = .int .i64 k ∧ Hid (Below w3.heap.size w3 wr)) (fun i _ => m - (RowKit.intOf i).toNat)
  case atStart => exact ⟨0, Nat.zero_le _, rfl, Go.Lib.hid (Below.refl _ _)⟩
  case round =>
    obtain ⟨k, hk, rfl, HB⟩ := hrel
    by_cases hlt : k < m
    · obtain ⟨ga, rfl, hga, a0, a1, a2⟩ := own_cells3 HOA3.out HM.out hlt
      obtain ⟨gb, rfl, hgb, b0, b1, b2⟩ := own_cells3 HOB.out HM.out hlt
      have a0 := (HB.out.cell (p := ⟨ga, k * 3, none⟩) hga).trans a0
      have a1 := (HB.out.cell (p := ⟨ga, k * 3 + 1, none⟩) hga).trans a1
      have a2 := (HB.out.cell (p := ⟨ga, k * 3 + 2, none⟩) hga).trans a2
      have b0 := (HB.out.cell (p := ⟨gb, k * 3, none⟩) hgb).trans b0
      have b1 := (HB.out.cell (p := ⟨gb, k * 3 + 1, none⟩) hgb).trans b1
      have b2 := (HB.out.cell (p := ⟨gb, k * 3 + 2, none⟩) hgb).trans b2
      generalize (runs l)[k]'(by have := HM.out; omega) = y at a0 a1 a2 b0 b1 b2
      obtain ⟨y0, y1, y2⟩ := y
      dsimp only at a0 a1 a2 b0 b1 b2
      have q5 : (0 : Int) ≤ (k : Int) := by omega
      have q6 : (k : Int) < (m : Int) := by omega
      clear hga hgb
      go_wp2
      go_quiet (fail)
      have HBq : Hid (Below w3.heap.size w3 (wr.drewN nq)) := Go.Lib.hid (bdrew HB.out nq)
      clear HB a0 a1 a2 b0 b1 b2 q5 q6
      go_wp2
      go_roundw
      case rel => exact ⟨k + 1, by omega, by go_num, HBq⟩
      case measure => simp [RowKit.intOf]; omega
    · obtain rfl : m = k := by omega
      go_wp2
      go_ret
      exact ⟨rfl, HB3.out.trans (HB.out.mono HB3.out.size)⟩
end Go.Proofs.Ytioehncdkdfcmaa
