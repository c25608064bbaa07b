/- Layer 23: copies of lists. -/
import Derived.Test.YtjhppkjngifibaaE2
namespace Go.Proofs.Ytjhppkjngifibaa
open Go.RowKit Go.Lib
set_option linter.unusedVariables false

/-- A world below which W is as it was. -/
structure Bw (W : World) where
  w : World
  h : Below W.heap.size W w
instance bwInh (W : World) : Inhabited (Bw W) := ⟨⟨W, Below.refl _ _⟩⟩
theorem bw_of {W : World} {f : FuncId} {args : Array Value} {v : Value} (h : ∀ p : Bw W, Calls Try.prog f args p.w fun e w' => e = .returned v ∧ Below p.w.heap.size p.w w') (p : Bw W) :
    Calls Try.prog f args p.w fun e w'' => e = .returned v ∧ ∃ p' : Bw W, w'' = p'.w :=
  (h p).mono fun _ w'' ⟨he, hb⟩ => ⟨he, ⟨w'', p.h.trans (hb.mono p.h.size)⟩, rfl⟩
theorem wp_region_bw {id : Nat} {Q : Exit → Act → World → Prop} {a : Act} {W w : World} {l : List Oper} (hm : Try.prog.follows .mixedOrders = true) (hB : Region.lexB .any l.toArray = true) (hw : Below W.heap.size W w)
    (h : wpQuiet Try.prog l.toArray (fun w' => ∃ p : Bw W, w' = p.w) (fun a' => ∀ w', (∃ p : Bw W, w' = p.w) → Q .normal a' w') l a) : (Code.region id l.toArray true).wp Try.prog Q a w :=
  wp_region_quiet (C := fun w' => ∃ p : Bw W, w' = p.w) hm hB ⟨⟨w.drew, hw.drew⟩, rfl⟩ (by simpa using h)
/-- A list of the call's own, from a block on. -/
def OwP (base n : Nat) (l : List Pr) (w : World) (e : Ending) (w' : World) : Prop := ∃ B cb, e = .returned (.slice B n cb) ∧ w'.ownsRow base 61 2 (.slice B n cb) n (rowP l) ∧ Below base w w'
set_option maxRecDepth 100000 in
set_option maxHeartbeats 4000000 in
theorem cloneP_any (A : Option Addr) (len c : Nat) (l : List Pr) (hl : l.length = len) (hc : len ≤ c ∧ c ≤ maxLen) (hs : len ≤ 100000) (w : World) (hA : AtP w A l) :
    Calls Try.prog 89 #[.slice A len c] w (OwP w.heap.size len l w) := by
  obtain ⟨i0, hi, hz0, hz1, hz2⟩ := info_parts info61
  have q43 : ∀ (w : World) (a : Option Addr) (n c n' c' : Nat), (binOp .eql 22 (.slice a n c) (.slice none n' c')).run Try.prog w = .ok (.bool a.isNone) w := fun w a n c n' c' => Lib.run_eql_slice_nil w _ _ a n c n' c' Try.underlying22
  cases A with
  | none =>
    have hl0 : l = [] := by
      rcases hA with h | ⟨g, o, h, _⟩
      · exact h
      · cases h
    subst hl0
    subst hl
    go_enter Try.func89, Try.ntmps89
    go_wp2
    go_ret
    exact ⟨none, 0, rfl, World.ownsRow_nil _ _ _ _, Below.refl _ _⟩
  | some a =>
    by_cases h0 : len = 0
    · subst h0
      have hl0 : l = [] := List.eq_nil_of_length_eq_zero hl
      subst hl0
      clear hA
      go_enter Try.func89, Try.ntmps89
      go_wp2_with (at_builtin; refine wpList_append_own _ rfl _ _ 22 rfl w.heap.size 61 i0 (.agg #[.int .i64 0, .int .i64 0]) 2 16 Try.underlying22 hi hz0 hz1 hz2 rfl (by decide) _ _ _ rfl (World.ownsRow_made w #[] 0 (Nat.le_refl _) (Nat.zero_le _) (by simp)) a 0 c [] rfl rfl (by intro j u hj; simp at hj) (by intro u hu; simp at hu) (by decide) (by decide) (by simp) ?_)
      intro v' w1 hown hgrow hnil
      obtain ⟨B, cb, rfl⟩ := own_form hown
      clear hnil
      go_wp2
      go_ret
      exact ⟨B, cb, rfl, hown, ((Below.refl _ w).alloc (Nat.le_refl _) _).grown hgrow (by simp) (by intro k hk; simp [Value.ownBlock] at hk; omega)⟩
    · obtain ⟨b, off, hab, hb⟩ : ∃ b off, a = ⟨b, off, none⟩ ∧ b < w.heap.size := by
        rcases hA with h | ⟨g, o, h, hg, _⟩
        · subst h; exact absurd hl.symm h0
        · exact ⟨g, o, Option.some.inj h, hg⟩
      subst hab
      have hrow := hA.cells
      have hcell := Go.Lib.hid hrow
      have hln := Go.Lib.hid ((rowP_len l).trans (by rw [hl]))
      clear hrow hA hl h0
      go_enter Try.func89, Try.ntmps89
      go_wp2_with (at_builtin; refine wpList_append_own _ rfl _ _ 22 rfl w.heap.size 61 i0 (.agg #[.int .i64 0, .int .i64 0]) 2 16 Try.underlying22 hi hz0 hz1 hz2 rfl (by decide) _ _ _ rfl (World.ownsRow_made w #[] 0 (Nat.le_refl _) (Nat.zero_le _) (by simp)) ⟨b, off, none⟩ len c (rowP l) rfl ?qc1 ?qc2 ?qc3 ?qc4 ?qc5 ?qc6 ?_)
      case qc1 => exact hln.out
      case qc2 =>
        intro j u hj
        rw [Addr.add_lit]
        exact Lib.cell?_alloc_some _ (hcell.out j u hj)
      case qc3 => exact rowP_one l
      case qc4 => rw [Nat.zero_add]; unfold maxLen; omega
      case qc5 => rw [Nat.zero_add]; omega
      case qc6 => simp
      intro v' w1 hown hgrow hnil
      have hown' : w1.ownsRow w.heap.size 61 2 v' len (rowP l) := by simpa using hown
      obtain ⟨B, cb, rfl⟩ := own_form hown'
      clear hown hnil
      go_wp2
      go_ret
      exact ⟨B, cb, rfl, hown', ((Below.refl _ w).alloc (Nat.le_refl _) _).grown hgrow (by simp) (by intro k hk; simp [Value.ownBlock] at hk; omega)⟩
/-- A list of the call's own, from a block on. -/
def OwD (base n : Nat) (l : List Dl) (w : World) (e : Ending) (w' : World) : Prop := ∃ B cb, e = .returned (.slice B n cb) ∧ w'.ownsRow base 59 2 (.slice B n cb) n (rowD l) ∧ Below base w w'
set_option maxRecDepth 100000 in
set_option maxHeartbeats 4000000 in
theorem cloneD_any (A : Option Addr) (len c : Nat) (l : List Dl) (hl : l.length = len) (hc : len ≤ c ∧ c ≤ maxLen) (hs : len ≤ 100000) (w : World) (hA : AtD w A l) :
    Calls Try.prog 92 #[.slice A len c] w (OwD w.heap.size len l w) := by
  obtain ⟨i0, hi, hz0, hz1, hz2⟩ := info_parts info59
  have q43 : ∀ (w : World) (a : Option Addr) (n c n' c' : Nat), (binOp .eql 23 (.slice a n c) (.slice none n' c')).run Try.prog w = .ok (.bool a.isNone) w := fun w a n c n' c' => Lib.run_eql_slice_nil w _ _ a n c n' c' Try.underlying23
  cases A with
  | none =>
    have hl0 : l = [] := by
      rcases hA with h | ⟨g, o, h, _⟩
      · exact h
      · cases h
    subst hl0
    subst hl
    go_enter Try.func92, Try.ntmps92
    go_wp2
    go_ret
    exact ⟨none, 0, rfl, World.ownsRow_nil _ _ _ _, Below.refl _ _⟩
  | some a =>
    by_cases h0 : len = 0
    · subst h0
      have hl0 : l = [] := List.eq_nil_of_length_eq_zero hl
      subst hl0
      clear hA
      go_enter Try.func92, Try.ntmps92
      go_wp2_with (at_builtin; refine wpList_append_own _ rfl _ _ 23 rfl w.heap.size 59 i0 (.agg #[.int .i64 0, .int .i64 0]) 2 16 Try.underlying23 hi hz0 hz1 hz2 rfl (by decide) _ _ _ rfl (World.ownsRow_made w #[] 0 (Nat.le_refl _) (Nat.zero_le _) (by simp)) a 0 c [] rfl rfl (by intro j u hj; simp at hj) (by intro u hu; simp at hu) (by decide) (by decide) (by simp) ?_)
      intro v' w1 hown hgrow hnil
      obtain ⟨B, cb, rfl⟩ := own_form hown
      clear hnil
      go_wp2
      go_ret
      exact ⟨B, cb, rfl, hown, ((Below.refl _ w).alloc (Nat.le_refl _) _).grown hgrow (by simp) (by intro k hk; simp [Value.ownBlock] at hk; omega)⟩
    · obtain ⟨b, off, hab, hb⟩ : ∃ b off, a = ⟨b, off, none⟩ ∧ b < w.heap.size := by
        rcases hA with h | ⟨g, o, h, hg, _⟩
        · subst h; exact absurd hl.symm h0
        · exact ⟨g, o, Option.some.inj h, hg⟩
      subst hab
      have hrow := hA.cells
      have hcell := Go.Lib.hid hrow
      have hln := Go.Lib.hid ((rowD_len l).trans (by rw [hl]))
      clear hrow hA hl h0
      go_enter Try.func92, Try.ntmps92
      go_wp2_with (at_builtin; refine wpList_append_own _ rfl _ _ 23 rfl w.heap.size 59 i0 (.agg #[.int .i64 0, .int .i64 0]) 2 16 Try.underlying23 hi hz0 hz1 hz2 rfl (by decide) _ _ _ rfl (World.ownsRow_made w #[] 0 (Nat.le_refl _) (Nat.zero_le _) (by simp)) ⟨b, off, none⟩ len c (rowD l) rfl ?qc1 ?qc2 ?qc3 ?qc4 ?qc5 ?qc6 ?_)
      case qc1 => exact hln.out
      case qc2 =>
        intro j u hj
        rw [Addr.add_lit]
        exact Lib.cell?_alloc_some _ (hcell.out j u hj)
      case qc3 => exact rowD_one l
      case qc4 => rw [Nat.zero_add]; unfold maxLen; omega
      case qc5 => rw [Nat.zero_add]; omega
      case qc6 => simp
      intro v' w1 hown hgrow hnil
      have hown' : w1.ownsRow w.heap.size 59 2 v' len (rowD l) := by simpa using hown
      obtain ⟨B, cb, rfl⟩ := own_form hown'
      clear hown hnil
      go_wp2
      go_ret
      exact ⟨B, cb, rfl, hown', ((Below.refl _ w).alloc (Nat.le_refl _) _).grown hgrow (by simp) (by intro k hk; simp [Value.ownBlock] at hk; omega)⟩
/-- A list of the call's own, from a block on. -/
def OwL (base n : Nat) (l : List Ly) (w : World) (e : Ending) (w' : World) : Prop := ∃ B cb, e = .returned (.slice B n cb) ∧ w'.ownsRow base 74 4 (.slice B n cb) n (rowL l) ∧ Below base w w'
set_option maxRecDepth 100000 in
set_option maxHeartbeats 4000000 in
theorem cloneL_any (A : Option Addr) (len c : Nat) (l : List Ly) (hl : l.length = len) (hc : len ≤ c ∧ c ≤ maxLen) (hs : len ≤ 100000) (w : World) (hA : AtL w A l) :
    Calls Try.prog 74 #[.slice A len c] w (OwL w.heap.size len l w) := by
  obtain ⟨i0, hi, hz0, hz1, hz2⟩ := info_parts info74
  have q43 : ∀ (w : World) (a : Option Addr) (n c n' c' : Nat), (binOp .eql 24 (.slice a n c) (.slice none n' c')).run Try.prog w = .ok (.bool a.isNone) w := fun w a n c n' c' => Lib.run_eql_slice_nil w _ _ a n c n' c' Try.underlying24
  cases A with
  | none =>
    have hl0 : l = [] := by
      rcases hA with h | ⟨g, o, h, _⟩
      · exact h
      · cases h
    subst hl0
    subst hl
    go_enter Try.func74, Try.ntmps74
    go_wp2
    go_ret
    exact ⟨none, 0, rfl, World.ownsRow_nil _ _ _ _, Below.refl _ _⟩
  | some a =>
    by_cases h0 : len = 0
    · subst h0
      have hl0 : l = [] := List.eq_nil_of_length_eq_zero hl
      subst hl0
      clear hA
      go_enter Try.func74, Try.ntmps74
      go_wp2_with (at_builtin; refine wpList_append_own _ rfl _ _ 24 rfl w.heap.size 74 i0 (.agg #[.int .i64 0, .int .i64 0, .int .i64 0, .bool false]) 4 32 Try.underlying24 hi hz0 hz1 hz2 rfl (by decide) _ _ _ rfl (World.ownsRow_made w #[] 0 (Nat.le_refl _) (Nat.zero_le _) (by simp)) a 0 c [] rfl rfl (by intro j u hj; simp at hj) (by intro u hu; simp at hu) (by decide) (by decide) (by simp) ?_)
      intro v' w1 hown hgrow hnil
      obtain ⟨B, cb, rfl⟩ := own_form hown
      clear hnil
      go_wp2
      go_ret
      exact ⟨B, cb, rfl, hown, ((Below.refl _ w).alloc (Nat.le_refl _) _).grown hgrow (by simp) (by intro k hk; simp [Value.ownBlock] at hk; omega)⟩
    · obtain ⟨b, off, hab, hb⟩ : ∃ b off, a = ⟨b, off, none⟩ ∧ b < w.heap.size := by
        rcases hA with h | ⟨g, o, h, hg, _⟩
        · subst h; exact absurd hl.symm h0
        · exact ⟨g, o, Option.some.inj h, hg⟩
      subst hab
      have hrow := hA.cells
      have hcell := Go.Lib.hid hrow
      have hln := Go.Lib.hid ((rowL_len l).trans (by rw [hl]))
      clear hrow hA hl h0
      go_enter Try.func74, Try.ntmps74
      go_wp2_with (at_builtin; refine wpList_append_own _ rfl _ _ 24 rfl w.heap.size 74 i0 (.agg #[.int .i64 0, .int .i64 0, .int .i64 0, .bool false]) 4 32 Try.underlying24 hi hz0 hz1 hz2 rfl (by decide) _ _ _ rfl (World.ownsRow_made w #[] 0 (Nat.le_refl _) (Nat.zero_le _) (by simp)) ⟨b, off, none⟩ len c (rowL l) rfl ?qc1 ?qc2 ?qc3 ?qc4 ?qc5 ?qc6 ?_)
      case qc1 => exact hln.out
      case qc2 =>
        intro j u hj
        rw [Addr.add_lit]
        exact Lib.cell?_alloc_some _ (hcell.out j u hj)
      case qc3 => exact rowL_one l
      case qc4 => rw [Nat.zero_add]; unfold maxLen; omega
      case qc5 => rw [Nat.zero_add]; omega
      case qc6 => simp
      intro v' w1 hown hgrow hnil
      have hown' : w1.ownsRow w.heap.size 74 4 v' len (rowL l) := by simpa using hown
      obtain ⟨B, cb, rfl⟩ := own_form hown'
      clear hown hnil
      go_wp2
      go_ret
      exact ⟨B, cb, rfl, hown', ((Below.refl _ w).alloc (Nat.le_refl _) _).grown hgrow (by simp) (by intro k hk; simp [Value.ownBlock] at hk; omega)⟩
end Go.Proofs.Ytjhppkjngifibaa
