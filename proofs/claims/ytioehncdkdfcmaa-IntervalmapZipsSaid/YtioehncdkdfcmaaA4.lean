/- Layer 5: appendRun. -/
import Derived.Test.YtioehncdkdfcmaaA2
import Derived.Test.YtioehncdkdfcmaaG1
import Derived.OwnWalk
import Derived.Maps.AppendAt
import Derived.IntWalk
namespace Go.Proofs.Ytioehncdkdfcmaa
open Go.RowKit Go.Lib

def rowR (l : List Rn) : List Value := l.flatMap fun x => [.int .i64 x.1, .int .i64 x.2.1, .int .i64 x.2.2]
theorem rowR_snoc (l : List Rn) (x : Rn) : rowR (l ++ [x]) = rowR l ++ [.int .i64 x.1, .int .i64 x.2.1, .int .i64 x.2.2] := by simp [rowR]
theorem rowR_get (l : List Rn) : ∀ k (h : k < l.length), (rowR l)[k * 3]? = some (.int .i64 l[k].1) ∧ (rowR l)[k * 3 + 1]? = some (.int .i64 l[k].2.1) ∧ (rowR l)[k * 3 + 2]? = some (.int .i64 l[k].2.2) := by
  induction l with
  | nil => intro k h; simp at h
  | cons x l ih =>
    intro k h
    cases k with
    | zero => exact ⟨rfl, rfl, rfl⟩
    | succ k =>
      have e : rowR (x :: l) = .int .i64 x.1 :: .int .i64 x.2.1 :: .int .i64 x.2.2 :: rowR l := by simp [rowR]
      have hs : ∀ j, (rowR (x :: l))[(k + 1) * 3 + j]? = (rowR l)[k * 3 + j]? := fun j => by
        rw [e, show (k + 1) * 3 + j = k * 3 + j + 1 + 1 + 1 by omega, List.getElem?_cons_succ, List.getElem?_cons_succ, List.getElem?_cons_succ]
      obtain ⟨h0, h1, h2⟩ := ih k (by simpa using h)
      exact ⟨(hs 0).trans h0, (hs 1).trans h1, (hs 2).trans h2⟩
theorem info34 : (Try.prog.info? 34).map (fun i => (i.zero, i.size, i.bytes)) = some (some (.agg #[.int .i64 0, .int .i64 0, .int .i64 0]), 3, 24) := by kernel_rfl
theorem cell_new3 (w : World) (a b c : Value) (t : TypeId) : ∀ j u, [a, b, c][j]? = some u → (w.alloc (.cells #[a, b, c] t)).cell? ((⟨w.heap.size, 0, none⟩ : Addr).add j) = some u := by
  intro j u hj
  match j, hj with
  | 0, hj => simp at hj; subst hj; simp [Addr.add]
  | 1, hj => simp at hj; subst hj; simp [Addr.add]
  | 2, hj => simp at hj; subst hj; simp [Addr.add]
set_option maxRecDepth 100000 in
set_option maxHeartbeats 4000000 in
theorem append_skip (B : Option Addr) (n c : Nat) (r : Rn) (w : World) (hr : r.2.1 ≤ r.1) (hn : n ≤ 2000000) : Calls Try.prog 48 #[.slice B n c, rnV r] w fun e w' => e = .returned (.slice B n c) ∧ Below w.heap.size w w' := by
  obtain ⟨x, y, z⟩ := r
  unfold rnV
  dsimp only at hr ⊢
  go_enter Try.func48, Try.ntmps48
  go_wp2
  go_ret
  exact ⟨rfl, (Below.refl _ w).alloc (Nat.le_refl _) _⟩
set_option maxRecDepth 100000 in
set_option maxHeartbeats 8000000 in
theorem append_new (base : Nat) (B : Option Addr) (n c : Nat) (L : List Rn) (r : Rn) (w : World) (hown : w.ownsRow base 34 3 (.slice B n c) n (rowR L)) (hL : L.length = n) (hb : base ≤ w.heap.size) (hr : r.1 < r.2.1) (hx : ∀ k (h : k < L.length), n = k + 1 → L[k].2.2 ≠ r.2.2) (hn : n ≤ 2000000) :
    Calls Try.prog 48 #[.slice B n c, rnV r] w fun e w' => ∃ B' c', e = .returned (.slice B' (n + 1) c') ∧ w'.ownsRow base 34 3 (.slice B' (n + 1) c') (n + 1) (rowR (L ++ [r])) ∧ Below base w w' := by
  obtain ⟨i0, hi, hz0, hz1, hz2⟩ := info_parts info34
  obtain ⟨x, y, z⟩ := r
  unfold rnV
  dsimp only at hr hx ⊢
  cases n with
  | zero =>
    clear hx
    go_enter Try.func48, Try.ntmps48
    go_wp2
    have b0 : Below base w (w.alloc (.cells #[.int .i64 x, .int .i64 y, .int .i64 z] 34)) := (Below.refl _ w).alloc hb _
    have ow0 : (w.alloc (.cells #[.int .i64 x, .int .i64 y, .int .i64 z] 34)).ownsRow base 34 3 (.slice B 0 c) 0 (rowR L) := hown.alloc _
    have o0 : ObjAt (w.alloc (.cells #[.int .i64 x, .int .i64 y, .int .i64 z] 34)) w.heap.size #[.int .i64 x, .int .i64 y, .int .i64 z] 34 := ObjAt.new w _ 34
    go_quiet (fail)
    have hbq : Below base w ((w.alloc (.cells #[.int .i64 x, .int .i64 y, .int .i64 z] 34)).drewN nq) := bdrew b0 nq
    have hownq : ((w.alloc (.cells #[.int .i64 x, .int .i64 y, .int .i64 z] 34)).drewN nq).ownsRow base 34 3 (.slice B 0 c) 0 (rowR L) := ow0
    have oq : ObjAt ((w.alloc (.cells #[.int .i64 x, .int .i64 y, .int .i64 z] 34)).drewN nq) w.heap.size #[.int .i64 x, .int .i64 y, .int .i64 z] 34 := o0
    clear b0 ow0 o0 hown
    generalize (w.alloc (.cells #[.int .i64 x, .int .i64 y, .int .i64 z] 34)).drewN nq = wq at hbq hownq oq ⊢
    have hbs := Nat.le_trans hb hbq.size
    have c0 : wq.cell? ⟨w.heap.size, 0, none⟩ = some (.int .i64 x) := oq.get rfl
    have c1 : wq.cell? ⟨w.heap.size, 1, none⟩ = some (.int .i64 y) := oq.get rfl
    have c2 : wq.cell? ⟨w.heap.size, 2, none⟩ = some (.int .i64 z) := oq.get rfl
    go_wp2_with (at_builtin; refine wpList_append_own _ rfl _ _ 31 rfl base 34 i0 (.agg #[.int .i64 0, .int .i64 0, .int .i64 0]) 3 24 Try.underlying31 hi hz0 hz1 hz2 rfl (by decide) _ _ _ rfl (hownq.alloc _) ⟨wq.heap.size, 0, none⟩ 1 1 [.int .i64 x, .int .i64 y, .int .i64 z] rfl rfl (cell_new3 _ _ _ _ _) (by intro u hu; simp at hu; rcases hu with rfl | rfl | rfl <;> rfl) (by unfold maxLen; omega) (by omega) (by simp; omega) ?_; intro v1 w1 hown1 hgrow1 _; obtain ⟨g1, cap1, rfl⟩ := ownsRow_succ hown1)
    go_ret
    exact ⟨some ⟨g1, 0, none⟩, cap1, rfl, by rw [rowR_snoc]; exact hown1, (hbq.alloc hbs _).grown hgrow1 (by simp; omega) (fun j e => (hownq.lt j e).1)⟩
  | succ k =>
    obtain ⟨gb, hB⟩ : ∃ gb, B = some ⟨gb, 0, none⟩ := by
      obtain ⟨g', cap', hv⟩ := ownsRow_succ hown
      exact ⟨g', by injection hv⟩
    subst hB
    have hkl : k < L.length := by omega
    have hne := hx k hkl rfl
    obtain ⟨_, _, e2⟩ := rowR_get L k hkl
    have d2 := (hown.cellAt (k * 3 + 2) (by omega)).trans e2
    clear e2
    generalize L[k].2.2 = q at d2 hne
    clear hx
    have hgl := (hown.lt gb rfl).2
    have d2' : (w.alloc (.cells #[.int .i64 x, .int .i64 y, .int .i64 z] 34)).cell? ⟨gb, k * 3 + 2, none⟩ = some (.int .i64 q) := (((Below.refl w.heap.size w).alloc (Nat.le_refl _) _).cell (p := ⟨gb, k * 3 + 2, none⟩) hgl).trans d2
    have q1 : (0 : Int) ≤ (k : Int) := by omega
    have q2 : (k : Int) < (k : Int) + 1 := by omega
    have q4 : IntKind.i64.wrap (k : Int) = k := IntWalk.i64_in _ (by omega)
    have q5 : (q == z) = false := by simpa using hne
    go_enter Try.func48, Try.ntmps48
    go_wp2
    have b0 : Below base w (w.alloc (.cells #[.int .i64 x, .int .i64 y, .int .i64 z] 34)) := (Below.refl _ w).alloc hb _
    have ow0 : (w.alloc (.cells #[.int .i64 x, .int .i64 y, .int .i64 z] 34)).ownsRow base 34 3 (.slice (some ⟨gb, 0, none⟩) (k + 1) c) (k + 1) (rowR L) := hown.alloc _
    have o0 : ObjAt (w.alloc (.cells #[.int .i64 x, .int .i64 y, .int .i64 z] 34)) w.heap.size #[.int .i64 x, .int .i64 y, .int .i64 z] 34 := ObjAt.new w _ 34
    go_quiet (fail)
    clear q1 q2 q4 q5 d2 d2'
    have hbq : Below base w ((w.alloc (.cells #[.int .i64 x, .int .i64 y, .int .i64 z] 34)).drewN nq) := bdrew b0 nq
    have hownq : ((w.alloc (.cells #[.int .i64 x, .int .i64 y, .int .i64 z] 34)).drewN nq).ownsRow base 34 3 (.slice (some ⟨gb, 0, none⟩) (k + 1) c) (k + 1) (rowR L) := ow0
    have oq : ObjAt ((w.alloc (.cells #[.int .i64 x, .int .i64 y, .int .i64 z] 34)).drewN nq) w.heap.size #[.int .i64 x, .int .i64 y, .int .i64 z] 34 := o0
    clear b0 ow0 o0 hown
    generalize (w.alloc (.cells #[.int .i64 x, .int .i64 y, .int .i64 z] 34)).drewN nq = wq at hbq hownq oq ⊢
    have hbs := Nat.le_trans hb hbq.size
    have c0 : wq.cell? ⟨w.heap.size, 0, none⟩ = some (.int .i64 x) := oq.get rfl
    have c1 : wq.cell? ⟨w.heap.size, 1, none⟩ = some (.int .i64 y) := oq.get rfl
    have c2 : wq.cell? ⟨w.heap.size, 2, none⟩ = some (.int .i64 z) := oq.get rfl
    go_wp2_with (at_builtin; refine wpList_append_own _ rfl _ _ 31 rfl base 34 i0 (.agg #[.int .i64 0, .int .i64 0, .int .i64 0]) 3 24 Try.underlying31 hi hz0 hz1 hz2 rfl (by decide) _ _ _ rfl (hownq.alloc _) ⟨wq.heap.size, 0, none⟩ 1 1 [.int .i64 x, .int .i64 y, .int .i64 z] rfl rfl (cell_new3 _ _ _ _ _) (by intro u hu; simp at hu; rcases hu with rfl | rfl | rfl <;> rfl) (by unfold maxLen; omega) (by omega) (by simp; omega) ?_; intro v1 w1 hown1 hgrow1 _; obtain ⟨g1, cap1, rfl⟩ := ownsRow_succ hown1)
    go_ret
    exact ⟨some ⟨g1, 0, none⟩, cap1, rfl, by rw [rowR_snoc]; exact hown1, (hbq.alloc hbs _).grown hgrow1 (by simp; omega) (fun j e => (hownq.lt j e).1)⟩
end Go.Proofs.Ytioehncdkdfcmaa
