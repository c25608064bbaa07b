/- Layer 22: slices.Clone of a table (42). -/
import Derived.Test.YtmpklkhjipclmaaV5
import Derived.WalkSpells
namespace Go.Proofs.Ytmpklkhjipclmaa
open Go.RowKit Go.Lib
set_option linter.unusedVariables false

theorem info23 : (Try.prog.info? 23).map (fun i => (i.zero, i.size, i.bytes)) = some (some (.agg #[.int .i64 0, .string ByteArray.empty, .int .i64 0]), 3, 32) := by kernel_rfl
/-- A list in memory of the call's own. -/
def OwnRet (l : List Rv) (n : Nat) (w : World) (e : Ending) (w' : World) : Prop := ∃ B cb, e = .returned (.slice B n cb) ∧ w'.ownsRow w.heap.size 23 3 (.slice B n cb) n (rowR l) ∧ Below w.heap.size w w'
theorem own_form {w : World} {base n size : Nat} {t : TypeId} {v : Value} {xs : List Value} (h : w.ownsRow base t size v n xs) : ∃ B cb, v = .slice B n cb := by
  rcases h.2 with ⟨hv, h0⟩ | ⟨g, cap, cur, hv, _⟩
  · exact ⟨none, 0, by rw [hv, h0]⟩
  · exact ⟨_, _, hv⟩
set_option maxRecDepth 100000 in
set_option maxHeartbeats 4000000 in
theorem clone_any (A : Option Addr) (len c : Nat) (l : List Rv) (hl : l.length = len) (hc : len ≤ c ∧ c ≤ maxLen) (hs : len ≤ 1000) (w : World) (hA : RsAt w A l) :
    Calls Try.prog 42 #[.slice A len c] w (OwnRet l len w) := by
  obtain ⟨i0, hi, hz0, hz1, hz2⟩ := info_parts info23
  have q43 : ∀ (w : World) (a : Option Addr) (n c n' c' : Nat), (binOp .eql 24 (.slice a n c) (.slice none n' c')).run Try.prog w = .ok (.bool a.isNone) w := fun w a n c n' c' => Lib.run_eql_slice_nil w _ _ a n c n' c' Try.underlying24
  cases A with
  | none =>
    have hl0 : l = [] := by
      rcases hA with h | ⟨g, o, h, _⟩
      · exact h
      · cases h
    subst hl0
    subst hl
    go_enter Try.func42, Try.ntmps42
    go_wp2
    go_ret
    exact ⟨none, 0, rfl, World.ownsRow_nil _ _ _ _, Below.refl _ _⟩
  | some a =>
    by_cases h0 : len = 0
    · subst h0
      have hl0 : l = [] := List.eq_nil_of_length_eq_zero hl
      subst hl0
      clear hA
      go_enter Try.func42, Try.ntmps42
      go_wp2_with (at_builtin; refine wpList_append_own _ rfl _ _ 24 rfl w.heap.size 23 i0 (.agg #[.int .i64 0, .string ByteArray.empty, .int .i64 0]) 3 32 Try.underlying24 hi hz0 hz1 hz2 rfl (by decide) _ _ _ rfl (World.ownsRow_made w #[] 0 (Nat.le_refl _) (Nat.zero_le _) (by simp)) a 0 c [] rfl rfl (by intro j u hj; simp at hj) (by intro u hu; simp at hu) (by decide) (by decide) (by simp) ?_)
      intro v' w1 hown hgrow hnil
      obtain ⟨B, cb, rfl⟩ := own_form hown
      clear hnil
      go_wp2
      go_ret
      exact ⟨B, cb, rfl, hown, ((Below.refl _ w).alloc (Nat.le_refl _) _).grown hgrow (by simp) (by intro k hk; simp [Value.ownBlock] at hk; omega)⟩
    · obtain ⟨b, off, hab, hb⟩ : ∃ b off, a = ⟨b, off, none⟩ ∧ b < w.heap.size := by
        rcases hA with h | ⟨g, o, h, hg, _⟩
        · subst h; exact absurd hl.symm h0
        · exact ⟨g, o, Option.some.inj h, hg⟩
      subst hab
      have hrow := hA.cells
      have hcell := Go.Lib.hid hrow
      have hln := Go.Lib.hid ((rowR_len l).trans (by rw [hl]))
      clear hrow hA hl h0
      go_enter Try.func42, Try.ntmps42
      go_wp2_with (at_builtin; refine wpList_append_own _ rfl _ _ 24 rfl w.heap.size 23 i0 (.agg #[.int .i64 0, .string ByteArray.empty, .int .i64 0]) 3 32 Try.underlying24 hi hz0 hz1 hz2 rfl (by decide) _ _ _ rfl (World.ownsRow_made w #[] 0 (Nat.le_refl _) (Nat.zero_le _) (by simp)) ⟨b, off, none⟩ len c (rowR l) rfl ?qc1 ?qc2 ?qc3 ?qc4 ?qc5 ?qc6 ?_)
      case qc1 => exact hln.out
      case qc2 =>
        intro j u hj
        rw [Addr.add_lit]
        exact Lib.cell?_alloc_some _ (hcell.out j u hj)
      case qc3 => exact rowR_one l
      case qc4 => rw [Nat.zero_add]; unfold maxLen; omega
      case qc5 => rw [Nat.zero_add]; omega
      case qc6 => simp
      intro v' w1 hown hgrow hnil
      have hown' : w1.ownsRow w.heap.size 23 3 v' len (rowR l) := by simpa using hown
      obtain ⟨B, cb, rfl⟩ := own_form hown'
      clear hown hnil
      go_wp2
      go_ret
      exact ⟨B, cb, rfl, hown', ((Below.refl _ w).alloc (Nat.le_refl _) _).grown hgrow (by simp) (by intro k hk; simp [Value.ownBlock] at hk; omega)⟩
end Go.Proofs.Ytmpklkhjipclmaa
