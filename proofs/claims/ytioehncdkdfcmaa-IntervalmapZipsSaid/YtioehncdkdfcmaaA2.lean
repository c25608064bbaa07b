/- Layer 5: a map in memory; Len, check. -/
import Derived.Test.YtioehncdkdfcmaaA1
import Derived.Test.YtioehncdkdfcmaaG1
import Derived.RangeFuncBox
namespace Go.Proofs.Ytioehncdkdfcmaa
open Go.RowKit Go.Lib

/-- The length that some runs stand for. -/
def lenR (R : List Rn) : Int := (R.getLast?.map (fun r => r.2.1)).getD 0
theorem lenR_nil : lenR [] = 0 := rfl
theorem lenR_at {R : List Rn} {k : Nat} (h : R.length = k + 1) : lenR R = (R[k]'(by omega)).2.1 := by
  unfold lenR
  have e : R.getLast? = some (R[k]'(by omega)) := by rw [List.getLast?_eq_getElem?, show R.length - 1 = k by omega, List.getElem?_eq_getElem]
  rw [e]; rfl
/-- A map in memory. -/
def MpAt (w : World) (b : Nat) (R : List Rn) : Prop := ∃ A n c, Boxed w b 84 (.slice A n c) ∧ R.length = n ∧ n ≤ c ∧ c ≤ maxLen ∧ RnAt w A R
theorem MpAt.below {w w' : World} {b : Nat} {R : List Rn} (h : MpAt w b R) (hb : Below w.heap.size w w') : MpAt w' b R := by
  obtain ⟨A, n, c, h1, h2, h3, h4, h5⟩ := h
  exact ⟨A, n, c, (hb.block b h1.lt).trans h1, h2, h3, h4, h5.below hb⟩
set_option maxRecDepth 100000 in
set_option maxHeartbeats 4000000 in
theorem len_any (b : Nat) (R : List Rn) (w : World) (h : MpAt w b R) : Calls Try.prog 17 #[.pointer (some ⟨b, 0, none⟩)] w fun e w' => e = .returned (.int .i64 (lenR R)) ∧ Below w.heap.size w w' := by
  obtain ⟨A, n, c, h1, h2, h3, h4, h5⟩ := h
  have hbc := h1.cell
  unfold maxLen at h4
  cases n with
  | zero =>
    have : R = [] := List.eq_nil_of_length_eq_zero h2
    subst this
    rw [lenR_nil]
    clear h1 h2 h5
    go_enter Try.func17, Try.ntmps17
    go_wp2
    go_ret
    exact ⟨by simp, Below.refl _ _⟩
  | succ k =>
    rcases h5 with h0 | ⟨g, o, rfl, hg, hcl⟩
    · rw [h0] at h2; cases h2
    obtain ⟨d0, d1, d2⟩ := hcl k (by omega)
    rw [← lenR_at h2] at d1
    generalize lenR R = x at d1
    have q0 : (0 : Int) ≤ (k : Int) := by omega
    have q1 : (k : Int) < (k : Int) + 1 := by omega
    have q2 : ((k : Int) + 1 == 0) = false := by simp; omega
    have q3 : IntKind.i64.wrap (k : Int) = k := IntWalk.i64_in _ (by omega)
    clear d0 d2 h1 h2 hcl
    go_enter Try.func17, Try.ntmps17
    go_wp2
    go_quiet (fail)
    go_wp2
    go_ret
    exact ⟨by simp, bdrew (Below.refl _ w) _⟩
end Go.Proofs.Ytioehncdkdfcmaa
