/- Layer 12: the cells of known: the reference's Set (61), cell (36). -/
import Derived.Test.YtkdhffidkopmcaaB4
import Derived.OwnWalk
namespace Go.Proofs.Ytkdhffidkopmcaa
open Go.RowKit Go.Lib Go.Maps
set_option linter.unusedVariables false

theorem info77 : (Try.prog.info? 77).map (fun i => (i.zero, i.size, i.bytes)) = some (some (.agg #[.int .i64 0, .int .i64 0]), 2, 16) := by kernel_rfl
theorem add0' (g j : Nat) : (⟨g, 0, none⟩ : Addr).add j = ⟨g, j, none⟩ := by unfold Addr.add; split <;> simp_all
theorem cell_new2 (w : World) (u v : Value) (t : TypeId) : ∀ j x, ([u, v] : List Value)[j]? = some x → (w.alloc (.cells #[u, v] t)).cell? ((⟨w.heap.size, 0, none⟩ : Addr).add j) = some x := by
  intro j x h
  rw [add0', World.cell?_alloc_new]
  match j, h with
  | 0, h => simpa using h
  | 1, h => simpa using h
  | j + 2, h => simp at h
/-- What Set hands back. -/
def SetO (l : List Pr) (w : World) (e : Ending) (w' : World) : Prop := ∃ A c, e = .returned (.slice A l.length c) ∧ l.length ≤ c ∧ c ≤ maxLen ∧ PrAt w' A l ∧ (∀ a, A = some a → w.heap.size ≤ a.block) ∧ Below w.heap.size w w'
theorem own_pr {w : World} {base : Nat} {v : Value} {n : Nat} {xs : List Value} {l : List Pr} (h : w.ownsRow base 77 2 v n xs) (hn : l.length = n) (hx : xs = l.flatMap fun x => [.int .i64 x.1, .int .i64 x.2]) : ∃ A c, v = .slice A l.length c ∧ l.length ≤ c ∧ c ≤ maxLen ∧ PrAt w A l ∧ ∀ a, A = some a → base ≤ a.block := by
  subst hn hx
  obtain ⟨_, h1 | ⟨g, cap, cur, rfl, hb, hg, hc1, hc2, _⟩⟩ := id h
  · exact ⟨none, 0, by rw [h1.1, h1.2], by omega, by decide, .inl (List.eq_nil_of_length_eq_zero h1.2), fun a h => by cases h⟩
  · refine ⟨some ⟨g, 0, none⟩, cap, rfl, hc1, hc2, .inr ⟨g, 0, rfl, (Array.getElem?_eq_some_iff.1 hg).1, fun k hk => ?_⟩, fun a h => by cases h; exact hb⟩
    have key : ∀ (l : List Pr) k (hk : k < l.length), (l.flatMap fun x => [Value.int .i64 x.1, .int .i64 x.2])[k * 2]? = some (.int .i64 l[k].1) ∧ (l.flatMap fun x => [Value.int .i64 x.1, .int .i64 x.2])[k * 2 + 1]? = some (.int .i64 l[k].2) := by
      intro l
      induction l with
      | nil => intro k hk; simp at hk
      | cons a r ih =>
        intro k hk
        cases k with
        | zero => exact ⟨rfl, rfl⟩
        | succ k =>
          obtain ⟨q1, q2⟩ := ih k (by simpa using hk)
          rw [List.flatMap_cons]
          refine ⟨?_, ?_⟩
          · rw [List.getElem?_append_right (by simp; omega)]
            simpa [show (k + 1) * 2 - 2 = k * 2 by omega] using q1
          · rw [List.getElem?_append_right (by simp; omega)]
            simpa [show (k + 1) * 2 + 1 - 2 = k * 2 + 1 by omega] using q2
    obtain ⟨k1, k2⟩ := key l k hk
    rw [Nat.zero_add]
    exact ⟨(h.cellAt (k * 2) (by omega)).trans k1, (h.cellAt (k * 2 + 1) (by omega)).trans k2⟩

set_option maxRecDepth 100000 in
set_option maxHeartbeats 4000000 in
theorem set_same (A : Option Addr) (c : Nat) (p z : Int) (w : World) : Calls Try.prog 61 #[.slice A 0 c, .int .i64 p, .int .i64 z, .int .i64 z] w (SetO [] w) := by
  have b1 : (z == z) = true := beq_self_eq_true z
  go_enter Try.func61, Try.ntmps61
  go_wp2_with fail
  go_loopw [9, 10, 11] (fun v s10 s11 wr => v = .slice none 0 0 ∧ s10 = .bool true ∧ s11 = .int .i64 0 ∧ wr = w) (fun _ _ _ _ => 0)
  case atStart => exact ⟨rfl, rfl, rfl, rfl⟩
  case round =>
    obtain ⟨rfl, rfl, rfl, rfl⟩ := hrel
    go_wp2
    go_ret
    exact ⟨none, 0, by simp, Nat.le_refl _, by decide, .inl rfl, (fun a h => by cases h), Below.refl _ _⟩

set_option maxRecDepth 100000 in
set_option maxHeartbeats 4000000 in
theorem set_nil (p v z : Int) (h : (v == z) = false) (w : World) : Calls Try.prog 61 #[.slice none 0 0, .int .i64 p, .int .i64 v, .int .i64 z] w (SetO [(p, v)] w) := by
  obtain ⟨i0, hi, hz0, hz1, hz2⟩ := info_parts info77
  go_enter Try.func61, Try.ntmps61
  go_wp2_with fail
  go_loopw [9, 10, 11] (fun v s10 s11 wr => v = .slice none 0 0 ∧ s10 = .bool false ∧ s11 = .int .i64 0 ∧ wr = w) (fun _ _ _ _ => 0)
  case atStart => exact ⟨rfl, rfl, rfl, rfl⟩
  case round =>
    obtain ⟨rfl, rfl, rfl, rfl⟩ := hrel
    have hown := World.ownsRow_nil wr wr.heap.size 77 2
    go_wp2_with (first
      | (at_builtin; refine wpList_append_own _ rfl _ _ 30 rfl wr.heap.size 77 i0 (.agg #[.int .i64 0, .int .i64 0]) 2 16 Try.underlying30 hi hz0 hz1 hz2 rfl (by decide) _ _ _ rfl (hown.alloc _) ⟨wr.heap.size, 0, none⟩ 1 1 [.int .i64 p, .int .i64 v] rfl rfl (cell_new2 _ _ _ _) (by intro u hu; simp at hu; rcases hu with rfl | rfl <;> rfl) (by unfold maxLen; omega) (by omega) (by simp) ?_; intro v1 w1 hown1 hgrow1 _)
      | fail)
    go_ret
    obtain ⟨A, c, q1, q2, q3, q4, q5⟩ := own_pr (l := [(p, v)]) hown1 rfl rfl
    exact ⟨A, c, by simp [q1], q2, q3, q4, q5, ((Below.refl _ wr).alloc (Nat.le_refl _) _).grown hgrow1 (by simp) (fun j e => by cases e)⟩

set_option maxRecDepth 100000 in
set_option maxHeartbeats 4000000 in
theorem set_one (A : Option Addr) (c : Nat) (hc : 1 ≤ c ∧ c ≤ maxLen) (y v z : Int) (h : (v == z) = false) (w : World) (hA : PrAt w A [(60, y)]) : Calls Try.prog 61 #[.slice A 1 c, .int .i64 61, .int .i64 v, .int .i64 z] w (SetO [(60, y), (61, v)] w) := by
  obtain ⟨i0, hi, hz0, hz1, hz2⟩ := info_parts info77
  rcases hA with h0 | ⟨g, o, rfl, hg, hcl⟩
  · cases h0
  obtain ⟨c0, c1⟩ := hcl 0 (by simp)
  have d0 : w.cell? ⟨g, o + 0 * 2, none⟩ = some (.int .i64 60) := c0
  have d1 : w.cell? ⟨g, o + 0 * 2 + 1, none⟩ = some (.int .i64 y) := c1
  rw [Nat.zero_mul, Nat.add_zero] at d0 d1
  have hc1 := hc.1
  have hc2 := hc.2
  unfold maxLen at hc2
  clear hcl c0 c1 hc
  have hb0 := Below.refl w.heap.size w
  go_enter Try.func61, Try.ntmps61
  go_wp2_with fail
  have hn0 := World.ownsRow_nil w w.heap.size 77 2
  go_loopw [9, 10, 11] (fun u s10 s11 wr => s10 = .bool false ∧ ((u = .slice none 0 0 ∧ s11 = .int .i64 0 ∧ wr = w) ∨ (s11 = .int .i64 1 ∧ wr.ownsRow w.heap.size 77 2 u 1 [.int .i64 60, .int .i64 y] ∧ Below w.heap.size w wr))) (fun _ _ s11 _ => 1 - (RowKit.intOf s11).toNat)
  case atStart => exact ⟨rfl, .inl ⟨rfl, rfl, rfl⟩⟩
  case round =>
    obtain ⟨rfl, hrel⟩ := hrel
    rcases hrel with ⟨rfl, rfl, rfl⟩ | ⟨rfl, hown, hb⟩
    · go_wp2_with (first
        | (at_builtin; refine wpList_append_own _ rfl _ _ 30 rfl wr.heap.size 77 i0 (.agg #[.int .i64 0, .int .i64 0]) 2 16 Try.underlying30 hi hz0 hz1 hz2 rfl (by decide) _ _ _ rfl (hn0.alloc _) ⟨wr.heap.size, 0, none⟩ 1 1 [.int .i64 60, .int .i64 y] rfl rfl (cell_new2 _ _ _ _) (by intro u hu; simp at hu; rcases hu with rfl | rfl <;> rfl) (by unfold maxLen; omega) (by omega) (by simp) ?_; intro v1 w1 hown1 hgrow1 _)
        | fail)
      have HO := Go.Lib.hid hown1
      have HB := Go.Lib.hid (((Below.refl _ wr).alloc (Nat.le_refl _) (.cells #[.int .i64 60, .int .i64 y] 77)).grown hgrow1 (by simp) (fun j e => by cases e))
      clear hown1 hgrow1
      go_roundw
      case rel => exact ⟨rfl, .inr ⟨by go_num, HO.out, HB.out⟩⟩
      case measure => simp [RowKit.intOf]
    · have HB := Go.Lib.hid hb
      have hbs := hb.size
      go_wp2_with (first
        | (at_builtin; refine wpList_append_own _ rfl _ _ 30 rfl w.heap.size 77 i0 (.agg #[.int .i64 0, .int .i64 0]) 2 16 Try.underlying30 hi hz0 hz1 hz2 rfl (by decide) _ _ _ rfl (hown.alloc _) ⟨wr.heap.size, 0, none⟩ 1 1 [.int .i64 61, .int .i64 v] rfl rfl (cell_new2 _ _ _ _) (by intro u hu; simp at hu; rcases hu with rfl | rfl <;> rfl) (by unfold maxLen; omega) (by omega) (by simp; omega) ?_; intro v1 w1 hown1 hgrow1 _)
        | fail)
      go_ret
      obtain ⟨A, c, q1, q2, q3, q4, q5⟩ := own_pr (l := [(60, y), (61, v)]) hown1 rfl rfl
      exact ⟨A, c, by simp [q1], q2, q3, q4, q5, (HB.out.alloc hbs _).grown hgrow1 (by simp; omega) (fun j e => (World.ownsRow.lt hown j e).1)⟩
end Go.Proofs.Ytkdhffidkopmcaa
