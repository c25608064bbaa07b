/- Layer 7: Clone. -/
import Derived.Test.YtbkpokipibgdfaaJ9
import Derived.WalkSpells
namespace Go.Proofs.Ytbkpokipibgdfaa
open Go.RowKit Go.Lib

theorem rowP_len (l : List Pr) : (rowP l).length = l.length * 2 := by
  unfold rowP
  induction l with
  | nil => rfl
  | cons x l ih => rw [List.flatMap_cons, List.length_append, ih, List.length_cons]; simp; omega
theorem rowP_one (l : List Pr) : ∀ u ∈ rowP l, u.oneCell' = true := by
  intro u hu
  unfold rowP at hu
  rw [List.mem_flatMap] at hu
  obtain ⟨x, _, hu⟩ := hu
  simp only [List.mem_cons, List.not_mem_nil, or_false] at hu
  rcases hu with rfl | rfl <;> rfl
theorem prat_row {w : World} {g o : Nat} {l : List Pr} (h : PrAt w (some ⟨g, o, none⟩) l) : ∀ j u, (rowP l)[j]? = some u → w.cell? ⟨g, o + j, none⟩ = some u := by
  intro j u hj
  rcases h with h | ⟨g', o', hg, _, hc⟩
  · subst h; simp [rowP] at hj
  · injection hg with hg; injection hg with h1 h2 _
    subst h1 h2
    have hlt : j < l.length * 2 := by rw [← rowP_len]; exact (List.getElem?_eq_some_iff.1 hj).1
    obtain ⟨e0, e1⟩ := rowP_get l (j / 2) (by omega)
    obtain ⟨c0, c1⟩ := hc (j / 2) (by omega)
    rcases Nat.mod_two_eq_zero_or_one j with h | h
    · have : j / 2 * 2 = j := by omega
      rw [this] at e0 c0
      rw [c0]; exact e0.symm.trans hj
    · have : j / 2 * 2 + 1 = j := by omega
      rw [this] at e1
      rw [Nat.add_assoc, this] at c1
      rw [c1]; exact e1.symm.trans hj
/-- A list in memory of the call's own. -/
def OwnRet (l : List Pr) (n : Nat) (w : World) (e : Ending) (w' : World) : Prop := ∃ B cb, e = .returned (.slice B n cb) ∧ w'.ownsRow w.heap.size 55 2 (.slice B n cb) n (rowP l) ∧ Below w.heap.size w w'
theorem own_form {w : World} {base n size : Nat} {t : TypeId} {v : Value} {xs : List Value} (h : w.ownsRow base t size v n xs) : ∃ B cb, v = .slice B n cb := by
  rcases h.2 with ⟨hv, h0⟩ | ⟨g, cap, cur, hv, _⟩
  · exact ⟨none, 0, by rw [hv, h0]⟩
  · exact ⟨_, _, hv⟩
set_option maxRecDepth 100000 in
set_option maxHeartbeats 4000000 in
theorem slclone_any (A : Option Addr) (len c : Nat) (l : List Pr) (hl : l.length = len) (hc : len ≤ c ∧ c ≤ maxLen) (hs : len ≤ 1000) (w : World) (hA : PrAt w A l) :
    Calls Try.prog 92 #[.slice A len c] w (OwnRet l len w) := by
  obtain ⟨i0, hi, hz0, hz1, hz2⟩ := info_parts info57
  have q43 : ∀ (w : World) (a : Option Addr) (n c n' c' : Nat), (binOp .eql 26 (.slice a n c) (.slice none n' c')).run Try.prog w = .ok (.bool a.isNone) w := fun w a n c n' c' => Lib.run_eql_slice_nil w _ _ a n c n' c' Try.underlying26
  cases A with
  | none =>
    have hl0 : l = [] := by
      rcases hA with h | ⟨g, o, h, _⟩
      · exact h
      · cases h
    subst hl0
    subst hl
    go_enter Try.func92, Try.ntmps92
    go_wp2
    go_ret
    exact ⟨none, 0, rfl, World.ownsRow_nil _ _ _ _, Below.refl _ _⟩
  | some a =>
    by_cases h0 : len = 0
    · subst h0
      have hl0 : l = [] := List.eq_nil_of_length_eq_zero hl
      subst hl0
      clear hA
      go_enter Try.func92, Try.ntmps92
      go_wp2_with (at_builtin; refine wpList_append_own _ rfl _ _ 26 rfl w.heap.size 55 i0 (.agg #[.int .i64 0, .int .i64 0]) 2 16 Try.underlying26 hi hz0 hz1 hz2 rfl (by decide) _ _ _ rfl (World.ownsRow_made w #[] 0 (Nat.le_refl _) (Nat.zero_le _) (by simp)) a 0 c [] rfl rfl (by intro j u hj; simp at hj) (by intro u hu; simp at hu) (by decide) (by decide) (by simp) ?_)
      intro v' w1 hown hgrow hnil
      obtain ⟨B, cb, rfl⟩ := own_form hown
      clear hnil
      go_wp2
      go_ret
      exact ⟨B, cb, rfl, hown, ((Below.refl _ w).alloc (Nat.le_refl _) _).grown hgrow (by simp) (by intro k hk; simp [Value.ownBlock] at hk; omega)⟩
    · obtain ⟨b, off, hab, hb⟩ : ∃ b off, a = ⟨b, off, none⟩ ∧ b < w.heap.size := by
        rcases hA with h | ⟨g, o, h, hg, _⟩
        · subst h; exact absurd hl.symm h0
        · exact ⟨g, o, Option.some.inj h, hg⟩
      subst hab
      have hrow := prat_row hA
      have hcell := Go.Lib.hid hrow
      have hln := Go.Lib.hid ((rowP_len l).trans (by rw [hl]))
      clear hrow hA hl h0
      go_enter Try.func92, Try.ntmps92
      go_wp2_with (at_builtin; refine wpList_append_own _ rfl _ _ 26 rfl w.heap.size 55 i0 (.agg #[.int .i64 0, .int .i64 0]) 2 16 Try.underlying26 hi hz0 hz1 hz2 rfl (by decide) _ _ _ rfl (World.ownsRow_made w #[] 0 (Nat.le_refl _) (Nat.zero_le _) (by simp)) ⟨b, off, none⟩ len c (rowP l) rfl ?qc1 ?qc2 ?qc3 ?qc4 ?qc5 ?qc6 ?_)
      case qc1 => exact hln.out
      case qc2 =>
        intro j u hj
        rw [Addr.add_lit]
        exact Lib.cell?_alloc_some _ (hcell.out j u hj)
      case qc3 => exact rowP_one l
      case qc4 => rw [Nat.zero_add]; unfold maxLen; omega
      case qc5 => rw [Nat.zero_add]; omega
      case qc6 => simp
      intro v' w1 hown hgrow hnil
      have hown' : w1.ownsRow w.heap.size 55 2 v' len (rowP l) := by simpa using hown
      obtain ⟨B, cb, rfl⟩ := own_form hown'
      clear hown hnil
      go_wp2
      go_ret
      exact ⟨B, cb, rfl, hown', ((Below.refl _ w).alloc (Nat.le_refl _) _).grown hgrow (by simp) (by intro k hk; simp [Value.ownBlock] at hk; omega)⟩
set_option maxRecDepth 100000 in
theorem clone_any (A : Option Addr) (len c : Nat) (l : List Pr) (hl : l.length = len) (hc : len ≤ c ∧ c ≤ maxLen) (hs : len ≤ 1000) (w : World) (hA : PrAt w A l) :
    Calls Try.prog 75 #[.slice A len c] w (OwnRet l len w) := by
  have cS := slclone_any A len c l hl hc hs w hA
  clear hl hA
  go_enter Try.func75, Try.ntmps75
  go_wp2_with (go_at_call 92; (with_reducible refine cS.mono ?_); rintro e w1 ⟨B, cb, rfl, hown, hb1⟩)
  go_ret
  exact ⟨B, cb, rfl, hown, hb1⟩
end Go.Proofs.Ytbkpokipibgdfaa
