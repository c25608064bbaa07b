/- Layer 5: slices.Clone; Runs. -/
import Derived.Test.YtioehncdkdfcmaaA6
import Derived.WalkSpells
namespace Go.Proofs.Ytioehncdkdfcmaa
open Go.RowKit Go.Lib

theorem rowR_one (l : List Rn) : ∀ u ∈ rowR l, u.oneCell' = true := by
  intro u hu
  unfold rowR at hu
  rw [List.mem_flatMap] at hu
  obtain ⟨x, _, hu⟩ := hu
  simp only [List.mem_cons, List.not_mem_nil, or_false] at hu
  rcases hu with rfl | rfl | rfl <;> rfl
theorem rnat_row {w : World} {g o : Nat} {l : List Rn} (h : RnAt w (some ⟨g, o, none⟩) l) : ∀ j u, (rowR l)[j]? = some u → w.cell? ⟨g, o + j, none⟩ = some u := by
  intro j u hj
  rcases h with h | ⟨g', o', hg, _, hc⟩
  · subst h; simp [rowR] at hj
  · injection hg with hg; injection hg with h1 h2 _
    subst h1 h2
    have hlt : j < l.length * 3 := by rw [← rowR_len]; exact (List.getElem?_eq_some_iff.1 hj).1
    obtain ⟨e0, e1, e2⟩ := rowR_get l (j / 3) (by omega)
    obtain ⟨c0, c1, c2⟩ := hc (j / 3) (by omega)
    have h3 : j % 3 = 0 ∨ j % 3 = 1 ∨ j % 3 = 2 := by omega
    rcases h3 with h | h | h
    · have : j / 3 * 3 = j := by omega
      rw [this] at e0 c0
      rw [c0]; exact e0.symm.trans hj
    · have : j / 3 * 3 + 1 = j := by omega
      rw [this] at e1
      rw [Nat.add_assoc, this] at c1
      rw [c1]; exact e1.symm.trans hj
    · have : j / 3 * 3 + 2 = j := by omega
      rw [this] at e2
      rw [Nat.add_assoc, this] at c2
      rw [c2]; exact e2.symm.trans hj
/-- A list in memory of the call's own. -/
def OwnRet (l : List Rn) (n : Nat) (w : World) (e : Ending) (w' : World) : Prop := ∃ B cb, e = .returned (.slice B n cb) ∧ w'.ownsRow w.heap.size 34 3 (.slice B n cb) n (rowR l) ∧ Below w.heap.size w w'
theorem own_form {w : World} {base n size : Nat} {t : TypeId} {v : Value} {xs : List Value} (h : w.ownsRow base t size v n xs) : ∃ B cb, v = .slice B n cb := by
  rcases h.2 with ⟨hv, h0⟩ | ⟨g, cap, cur, hv, _⟩
  · exact ⟨none, 0, by rw [hv, h0]⟩
  · exact ⟨_, _, hv⟩
set_option maxRecDepth 100000 in
set_option maxHeartbeats 4000000 in
theorem slclone_any (A : Option Addr) (len c : Nat) (l : List Rn) (hl : l.length = len) (hc : len ≤ c ∧ c ≤ maxLen) (hs : len ≤ 2000000) (w : World) (hA : RnAt w A l) :
    Calls Try.prog 39 #[.slice A len c] w (OwnRet l len w) := by
  obtain ⟨i0, hi, hz0, hz1, hz2⟩ := info_parts info34
  have q31 : ∀ (w : World) (a : Option Addr) (n c n' c' : Nat), (binOp .eql 31 (.slice a n c) (.slice none n' c')).run Try.prog w = .ok (.bool a.isNone) w := fun w a n c n' c' => Lib.run_eql_slice_nil w _ _ a n c n' c' Try.underlying31
  cases A with
  | none =>
    have hl0 : l = [] := by
      rcases hA with h | ⟨g, o, h, _⟩
      · exact h
      · cases h
    subst hl0
    subst hl
    go_enter Try.func39, Try.ntmps39
    go_wp2
    go_ret
    exact ⟨none, 0, rfl, World.ownsRow_nil _ _ _ _, Below.refl _ _⟩
  | some a =>
    by_cases h0 : len = 0
    · subst h0
      have hl0 : l = [] := List.eq_nil_of_length_eq_zero hl
      subst hl0
      clear hA
      go_enter Try.func39, Try.ntmps39
      go_wp2_with (at_builtin; refine wpList_append_own _ rfl _ _ 31 rfl w.heap.size 34 i0 (.agg #[.int .i64 0, .int .i64 0, .int .i64 0]) 3 24 Try.underlying31 hi hz0 hz1 hz2 rfl (by decide) _ _ _ rfl (World.ownsRow_made w #[] 0 (Nat.le_refl _) (Nat.zero_le _) (by simp)) a 0 c [] rfl rfl (by intro j u hj; simp at hj) (by intro u hu; simp at hu) (by decide) (by decide) (by simp) ?_)
      intro v' w1 hown hgrow hnil
      obtain ⟨B, cb, rfl⟩ := own_form hown
      clear hnil
      go_wp2
      go_ret
      exact ⟨B, cb, rfl, hown, ((Below.refl _ w).alloc (Nat.le_refl _) _).grown hgrow (by simp) (by intro k hk; simp [Value.ownBlock] at hk; omega)⟩
    · obtain ⟨b, off, hab, hb⟩ : ∃ b off, a = ⟨b, off, none⟩ ∧ b < w.heap.size := by
        rcases hA with h | ⟨g, o, h, hg, _⟩
        · subst h; exact absurd hl.symm h0
        · exact ⟨g, o, Option.some.inj h, hg⟩
      subst hab
      have hrow := rnat_row hA
      have hcell := Go.Lib.hid hrow
      have hln := Go.Lib.hid ((rowR_len l).trans (by rw [hl]))
      clear hrow hA hl h0
      go_enter Try.func39, Try.ntmps39
      go_wp2_with (at_builtin; refine wpList_append_own _ rfl _ _ 31 rfl w.heap.size 34 i0 (.agg #[.int .i64 0, .int .i64 0, .int .i64 0]) 3 24 Try.underlying31 hi hz0 hz1 hz2 rfl (by decide) _ _ _ rfl (World.ownsRow_made w #[] 0 (Nat.le_refl _) (Nat.zero_le _) (by simp)) ⟨b, off, none⟩ len c (rowR l) rfl ?qc1 ?qc2 ?qc3 ?qc4 ?qc5 ?qc6 ?_)
      case qc1 => exact hln.out
      case qc2 =>
        intro j u hj
        rw [Addr.add_lit]
        exact Lib.cell?_alloc_some _ (hcell.out j u hj)
      case qc3 => exact rowR_one l
      case qc4 => rw [Nat.zero_add]; unfold maxLen; omega
      case qc5 => rw [Nat.zero_add]; omega
      case qc6 => simp
      intro v' w1 hown hgrow hnil
      have hown' : w1.ownsRow w.heap.size 34 3 v' len (rowR l) := by simpa using hown
      obtain ⟨B, cb, rfl⟩ := own_form hown'
      clear hown hnil
      go_wp2
      go_ret
      exact ⟨B, cb, rfl, hown', ((Below.refl _ w).alloc (Nat.le_refl _) _).grown hgrow (by simp) (by intro k hk; simp [Value.ownBlock] at hk; omega)⟩

set_option maxRecDepth 100000 in
set_option maxHeartbeats 4000000 in
theorem runs_any (b : Nat) (R : List Rn) (w : World) (h : MpAt w b R) (hs : R.length ≤ 2000000) : Calls Try.prog 16 #[.pointer (some ⟨b, 0, none⟩)] w (OwnRet R R.length w) := by
  obtain ⟨A, n, c, h1, h2, h3, h4, h5⟩ := h
  subst h2
  have cC := slclone_any A R.length c R rfl ⟨h3, h4⟩ hs w h5
  have hbc := h1.cell
  clear h1 h5
  go_enter Try.func16, Try.ntmps16
  go_wp2_with (go_at_call 39; (with_reducible refine cC.mono ?_); rintro e w1 ⟨B, cb, rfl, hown, hb1⟩)
  go_ret
  exact ⟨B, cb, rfl, hown, hb1⟩
end Go.Proofs.Ytioehncdkdfcmaa
