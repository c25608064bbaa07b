/- Layer 7: the reference's Of. -/
import Derived.Test.YtbkpokipibgdfaaJ1
namespace Go.Proofs.Ytbkpokipibgdfaa
open Go.RowKit Go.Lib

/-- The reference's rows in memory. -/
def RRowAt (w : World) (g : Nat) (l : List Row) : Prop := g < w.heap.size ∧ ∀ k (h : k < l.length),
  w.cell? ⟨g, k * 6, none⟩ = some (.int .i64 l[k].1) ∧ w.cell? ⟨g, k * 6 + 1, none⟩ = some (.int .i64 l[k].2.2.1) ∧ w.cell? ⟨g, k * 6 + 2, none⟩ = some (.int .i64 l[k].2.2.2.1) ∧
  w.cell? ⟨g, k * 6 + 3, none⟩ = some (.int .i64 l[k].2.2.2.2.1) ∧ w.cell? ⟨g, k * 6 + 4, none⟩ = some (.int .i64 l[k].2.2.2.2.2) ∧ w.cell? ⟨g, k * 6 + 5, none⟩ = some (.string l[k].2.1)
theorem rowR6_len (r : Row) : (rowR6 r).length = 6 := rfl
theorem rowsR_get (l : List Row) : ∀ k (h : k < l.length) j, j < 6 → (l.flatMap rowR6)[k * 6 + j]? = (rowR6 l[k])[j]? := by
  induction l with
  | nil => intro k h; simp at h
  | cons a l ih =>
    intro k h j hj
    rw [List.flatMap_cons]
    cases k with
    | zero => rw [Nat.zero_mul, Nat.zero_add, List.getElem?_append_left (by rw [rowR6_len]; exact hj)]; rfl
    | succ k =>
      rw [List.getElem?_append_right (by rw [rowR6_len]; omega), rowR6_len, show (k + 1) * 6 + j - 6 = k * 6 + j by omega]
      exact ih k (by simpa using h) j hj
theorem ref_rows {w : World} {g : Nat} (hg : w.heap[g]? = some (.cells cellsR 57 (0, 0))) : RRowAt w g tabP := by
  refine ⟨(Array.getElem?_eq_some_iff.1 hg).1, fun k hk => ?_⟩
  have key : ∀ j, j < 6 → w.cell? ⟨g, k * 6 + j, none⟩ = (rowR6 tabP[k])[j]? := fun j hj => by
    rw [cell_of_row w g _ _ _ _ hg]
    unfold cellsR
    rw [List.getElem?_toArray]
    exact rowsR_get tabP k hk j hj
  exact ⟨key 0 (by omega), key 1 (by omega), key 2 (by omega), key 3 (by omega), key 4 (by omega), key 5 (by omega)⟩
/-- What the reference's table hands back. -/
def GetsR (w : World) (e : Ending) (w' : World) : Prop := ∃ g, e = .returned (.slice (some ⟨g, 0, none⟩) 45 45) ∧ RRowAt w' g tabP ∧ Below w.heap.size w w'
theorem refTable_gets (w : World) : Calls Try.prog 42 #[] w (GetsR w) := (refTable_any w).mono fun e w' ⟨he, hw⟩ => by
  subst hw
  exact ⟨_, he, ref_rows (World.alloc_heap_new w _), (Below.refl _ w).alloc (Nat.le_refl _) _⟩
def rowRet (r : Row) (b : Bool) : Ending := .returned (.tuple #[.agg #[.int .i64 r.1, .int .i64 r.2.2.1, .int .i64 r.2.2.2.1, .int .i64 r.2.2.2.2.1, .int .i64 r.2.2.2.2.2, .string r.2.1], .bool b])
/-- What Of hands back. -/
def OfPost (p : Int) (w : World) (e : Ending) (w' : World) : Prop :=
  ((∃ r ∈ tabP, r.1 = p ∧ e = rowRet r true) ∨ ((∀ r ∈ tabP, r.1 ≠ p) ∧ e = rowRet (0, ⟨#[]⟩, 0, 0, 0, 0) false)) ∧ Below w.heap.size w w'
theorem tab_none {p : Int} (h : ∀ j (hj : j < tabP.length), j < 45 → tabP[j].1 ≠ p) : ∀ r ∈ tabP, r.1 ≠ p := by
  intro r hr
  obtain ⟨j, hj, rfl⟩ := List.mem_iff_getElem.1 hr
  exact h j hj hj

set_option maxRecDepth 100000 in
set_option maxHeartbeats 4000000 in
theorem of_any (p : Int) (w : World) : Calls Try.prog 35 #[.int .i64 p] w (OfPost p w) := by
  have cT := fun w' => refTable_gets w'
  have o2 := ObjAt.new w #[.int .i64 0, .int .i64 0, .int .i64 0, .int .i64 0, .int .i64 0, .string ⟨#[]⟩] 57
  have B0 : Below w.heap.size w (w.alloc (.cells #[.int .i64 0, .int .i64 0, .int .i64 0, .int .i64 0, .int .i64 0, .string ⟨#[]⟩] 57)) := (Below.refl _ w).alloc (Nat.le_refl _) _
  go_enter Try.func35, Try.ntmps35
  go_wp2_with (go_at_call 42; (with_reducible refine (cT _).mono ?_); rintro e w1 ⟨g, rfl, hR, hb1⟩)
  have o3 := o2.below hb1
  have bb := B0.trans (hb1.mono (by simp))
  have s0 := o3.s0
  have s1 := o3.s1
  have s2 := o3.s2
  have s3 := o3.s3
  have s4 := o3.s4
  have s5 := o3.s5
  have f0 := o3.frozen 0
  have f1 := o3.frozen 1
  have f2 := o3.frozen 2
  have f3 := o3.frozen 3
  have f4 := o3.frozen 4
  have f5 := o3.frozen 5
  have HR := Go.Lib.hid hR
  clear hR cT hb1 o2 B0
  go_loop [5] (fun i => ∃ k : Nat, k ≤ 45 ∧ i = .int .i64 k ∧ Hid (∀ j (hj : j < tabP.length), j < k → tabP[j].1 ≠ p)) (fun i => 45 - (intOf i).toNat)
  case atStart => exact ⟨0, by omega, rfl, Go.Lib.hid fun j _ h => by omega⟩
  case round =>
    obtain ⟨k, hk, rfl, HN⟩ := hrel
    by_cases hlt : k < 45
    · obtain ⟨c0, c1, c2, c3, c4, c5⟩ := HR.out.2 k hlt
      have hmem : tabP[k]'hlt ∈ tabP := List.getElem_mem _
      have MEM := Go.Lib.hid hmem
      clear hmem
      generalize hr : tabP[k]'hlt = r at c0 c1 c2 c3 c4 c5 MEM
      have RR := Go.Lib.hid hr
      clear hr
      obtain ⟨ra, rb, rc, rd, re, rf⟩ := r
      dsimp only at c0 c1 c2 c3 c4 c5
      by_cases he : ra = p
      · have he' : (ra == p) = true := by simpa using he
        have HE := Go.Lib.hid he
        clear he
        go_wp2
        have q := set6 o3 (.int .i64 ra) (.int .i64 rc) (.int .i64 rd) (.int .i64 re) (.int .i64 rf) (.string rb)
        have q0 := q.s0
        have q1 := q.s1
        have q2 := q.s2
        have q3 := q.s3
        have q4 := q.s4
        have q5 := q.s5
        exact bodyPost_ret (v := .tuple #[.agg #[.int .i64 ra, .int .i64 rc, .int .i64 rd, .int .i64 re, .int .i64 rf, .string rb], .bool true]) (by simp [results, Try.results35, go_sem, q0, q1, q2, q3, q4, q5]) rfl ⟨.inl ⟨_, MEM.out, HE.out, rfl⟩, set6_below bb (Nat.le_refl _) _ _ _ _ _ _⟩
      · have he' : (ra == p) = false := by simpa using he
        have HE := Go.Lib.hid he
        clear he
        go_wp2
        go_round
        case rel => exact ⟨k + 1, by omega, by go_num, Go.Lib.hid fun j hj hjk => by
          by_cases h : j = k
          · subst h; exact fun h2 => HE.out ((congrArg (·.1) RR.out).symm.trans h2)
          · exact HN.out j hj (by omega)⟩
        case measure => simp [intOf]; omega
    · obtain rfl : k = 45 := by omega
      go_wp2
      have q := set6 o3 (.int .i64 0) (.int .i64 0) (.int .i64 0) (.int .i64 0) (.int .i64 0) (.string ⟨#[]⟩)
      have q0 := q.s0
      have q1 := q.s1
      have q2 := q.s2
      have q3 := q.s3
      have q4 := q.s4
      have q5 := q.s5
      exact bodyPost_ret (v := .tuple #[.agg #[.int .i64 0, .int .i64 0, .int .i64 0, .int .i64 0, .int .i64 0, .string ⟨#[]⟩], .bool false]) (by simp [results, Try.results35, go_sem, q0, q1, q2, q3, q4, q5]) rfl ⟨.inr ⟨tab_none HN.out, rfl⟩, set6_below bb (Nat.le_refl _) _ _ _ _ _ _⟩
end Go.Proofs.Ytbkpokipibgdfaa
