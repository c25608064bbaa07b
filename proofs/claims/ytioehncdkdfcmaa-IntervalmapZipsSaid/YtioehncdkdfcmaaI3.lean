/- Layer 5: the reference's Runs. -/
import Derived.Test.YtioehncdkdfcmaaI2
namespace Go.Proofs.Ytioehncdkdfcmaa
open Go.RowKit Go.Lib Im

theorem units_snoc (i : Int) (a : List Int) (x : Int) : units i (a ++ [x]) = units i a ++ [(i + a.length, i + a.length + 1, x)] := by
  induction a generalizing i with
  | nil => simp [units]
  | cons y a ih =>
    rw [List.cons_append, units, ih, units, List.cons_append, List.length_cons]
    have e : i + 1 + (a.length : Int) = i + ((a.length + 1 : Nat) : Int) := by omega
    rw [e]
theorem units_take (l : List Int) {k : Nat} (h : k < l.length) : units 0 (l.take (k + 1)) = units 0 (l.take k) ++ [((k : Int), (k : Int) + 1, l[k])] := by
  rw [List.take_succ_eq_append_getElem h, units_snoc, List.length_take, Nat.min_eq_left (by omega), Int.zero_add]
theorem app_nil (r : Rn) (h : r.1 < r.2.1) : app [] r = [r] := by unfold app; rw [if_neg (by omega)]; rfl
theorem app_join (L : List Rn) (q r : Rn) (h : r.1 < r.2.1) (e : q.2.2 = r.2.2) : app (L ++ [q]) r = L ++ [(q.1, r.2.1, q.2.2)] := by
  unfold app
  rw [if_neg (by omega)]
  simp only [List.getLast?_concat, List.dropLast_concat]
  rw [if_pos e]
theorem app_put (L : List Rn) (q r : Rn) (h : r.1 < r.2.1) (e : q.2.2 ≠ r.2.2) : app (L ++ [q]) r = L ++ [q] ++ [r] := by
  unfold app
  rw [if_neg (by omega)]
  simp only [List.getLast?_concat, List.dropLast_concat]
  rw [if_neg e]
theorem info35 : (Try.prog.info? 35).map (fun i => (i.zero, i.size, i.bytes)) = some (some (.agg #[.int .i64 0, .int .i64 0, .int .i64 0]), 3, 24) := by kernel_rfl
theorem own_set3 {w : World} {base g n c : Nat} {e : TypeId} {xs : List Value} (h : w.ownsRow base e 3 (.slice (some ⟨g, 0, none⟩) n c) n xs) (p : Nat) (v : Value) :
    (w.setCell ⟨g, p, none⟩ v).ownsRow base e 3 (.slice (some ⟨g, 0, none⟩) n c) n (xs.set p v) := by
  rcases h.2 with ⟨hv, h0⟩ | ⟨g', cap, cur, hv, hb, hg, hc1, hc2, hsz, htk⟩
  · cases hv
  · injection hv with e1 _ e2
    injection e1 with e1
    injection e1 with e1 _ _
    subst e1 e2
    refine ⟨by rw [List.length_set]; exact h.1, .inr ⟨g, c, cur.set! p v, rfl, hb, ?_, hc1, hc2, ?_, ?_⟩⟩
    · rw [setCell_eq_setRow w g p cur e (0, 0) _ hg]
      exact setRow_heap w g _ _ e _ hg
    · simp [hsz]
    · rw [← htk]
      simp [List.take_set]
/-- The reference's runs, handed back. -/
def OwnU (J : List Rn) (w : World) (e : Ending) (w' : World) : Prop := ∃ B c, e = .returned (.slice B J.length c) ∧ w'.ownsRow w.heap.size 35 3 (.slice B J.length c) J.length (rowR J) ∧ Below w.heap.size w w'
theorem own_list {w : World} {base n c : Nat} {A : Option Addr} {l : List Int} (hA : w.ownsRow base 3 1 (.slice A n c) n (intsV l)) (hl : l.length = n) {k : Nat} (hk : k < n) : ∃ g, A = some ⟨g, 0, none⟩ ∧ g < w.heap.size ∧ w.cell? ⟨g, k, none⟩ = some (.int .i64 (l[k]'(by omega))) := by
  obtain ⟨X, cb, e, h1, h2⟩ := own_formI hA
  simp only [Value.slice.injEq, true_and] at e
  obtain ⟨rfl, rfl⟩ := e
  cases A with
  | none => have := (h1 rfl).1; omega
  | some ad =>
    obtain ⟨e, _, hlt⟩ := h2 ad rfl
    obtain ⟨g, hg⟩ : ∃ g, ad = ⟨g, 0, none⟩ := ⟨_, e⟩
    subst hg
    exact ⟨g, rfl, hlt, (hA.cellAt k (by omega)).trans (intsV_get (by omega))⟩
set_option maxRecDepth 100000 in
set_option maxHeartbeats 16000000 in
theorem rruns_any (A : Option Addr) (n c : Nat) (l : List Int) (hl : l.length = n) (w : World) (hA : w.ownsRow 0 3 1 (.slice A n c) n (intsV l)) (hn : n ≤ 1000000) :
    Calls Try.prog 47 #[.slice A n c] w (OwnU (runs l) w) := by
  obtain ⟨i0, hi, hz0, hz1, hz2⟩ := info_parts info35
  have HA := Go.Lib.hid hA
  have HL := Go.Lib.hid hl
  clear hA hl
  go_enter Try.func47, Try.ntmps47
  go_wp2
  go_loopw [3, 4, 5] (fun o i x wr => ∃ (k m : Nat) (B : Option Addr) (cb : Nat) (J : List Rn), k ≤ n ∧ m ≤ k ∧ i = .int .i64 k ∧ o = .slice B m cb ∧ Hid (wr.ownsRow w.heap.size 35 3 (.slice B m cb) m (rowR J)) ∧ Hid (J.length = m) ∧ Hid (J = (units 0 (l.take k)).foldl app []) ∧ Hid (Below w.heap.size w wr)) (fun _ i _ _ => n - (RowKit.intOf i).toNat)
  case atStart => exact ⟨0, 0, none, 0, [], Nat.zero_le _, Nat.le_refl _, rfl, rfl, Go.Lib.hid (World.ownsRow_nil _ _ _ _), Go.Lib.hid rfl, Go.Lib.hid rfl, Go.Lib.hid (Below.refl _ _)⟩
  case round =>
    obtain ⟨k, m, B, cb, J, hk, hmk, rfl, rfl, HO, HJL, HJ, HB⟩ := hrel
    have hb := HB.out.size
    by_cases hlt : k < n
    · obtain ⟨gA, rfl, hgA, hcA⟩ := own_list HA.out HL.out hlt
      have d0 := (HB.out.cell (p := ⟨gA, k, none⟩) hgA).trans hcA
      have HU := Go.Lib.hid (units_take l (k := k) (by rw [HL.out]; exact hlt))
      clear hcA hgA
      generalize l[k]'(by rw [HL.out]; exact hlt) = y at d0 HU
      have hkw : IntKind.i64.wrap ((k : Int) + 1) = (k : Int) + 1 := IntWalk.i64_in _ (by omega)
      have HS : Hid ((units 0 (l.take (k + 1))).foldl app [] = app J ((k : Int), (k : Int) + 1, y)) := Go.Lib.hid (by rw [HU.out, List.foldl_append, ← HJ.out]; rfl)
      clear HU HJ
      rcases List.eq_nil_or_concat J with hE | ⟨J0, q, hE⟩
      · subst hE
        obtain rfl : m = 0 := by have := HJL.out; simpa using this.symm
        have HE := Go.Lib.hid (HS.out.trans (app_nil _ (by show (k : Int) < (k : Int) + 1; omega)))
        clear HS HJL
        go_wp2
        go_quiet (fail)
        have HOq : Hid ((wr.drewN nq).ownsRow w.heap.size 35 3 (.slice B 0 cb) 0 (rowR [])) := HO
        have HBq : Hid (Below w.heap.size w (wr.drewN nq)) := Go.Lib.hid (bdrew HB.out nq)
        have d0q : (wr.drewN nq).cell? ⟨gA, k, none⟩ = some (.int .i64 y) := d0
        clear HO HB d0
        generalize wr.drewN nq = wq at HOq HBq d0q ⊢
        have hbs := HBq.out.size
        go_wp2_with (at_builtin; refine wpList_append_own _ rfl _ _ 32 rfl w.heap.size 35 i0 (.agg #[.int .i64 0, .int .i64 0, .int .i64 0]) 3 24 Try.underlying32 hi hz0 hz1 hz2 rfl (by decide) _ _ _ rfl (HOq.out.alloc _) ⟨wq.heap.size, 0, none⟩ 1 1 [.int .i64 k, .int .i64 ((k : Int) + 1), .int .i64 y] rfl rfl (cell_new3 _ _ _ _ _) (by intro u hu; simp at hu; rcases hu with rfl | rfl | rfl <;> rfl) (by unfold maxLen; omega) (by omega) (by simp; omega) ?_; intro v1 w1 hown1 hgrow1 _; obtain ⟨g1, cap1, rfl⟩ := ownsRow_succ hown1)
        go_roundw
        case rel => exact ⟨k + 1, 0 + 1, some ⟨g1, 0, none⟩, cap1, [] ++ [((k : Int), (k : Int) + 1, y)], by omega, by omega, by go_num, rfl, Go.Lib.hid (by rw [rowR_snoc]; exact hown1), Go.Lib.hid (by rfl), Go.Lib.hid HE.out.symm, Go.Lib.hid ((HBq.out.alloc hbs _).grown hgrow1 (by simp; omega) (fun j e => (HOq.out.lt j e).1))⟩
        case measure => simp [RowKit.intOf]; omega
      · rw [List.concat_eq_append] at hE
        subst hE
        obtain ⟨x0, x1, x2⟩ := q
        obtain rfl : m = J0.length + 1 := by have := HJL.out; simpa using this.symm
        obtain ⟨j0, hj0⟩ : ∃ j0, J0.length = j0 := ⟨_, rfl⟩
        have HJ0 := Go.Lib.hid hj0
        rw [hj0] at HO hmk ⊢
        clear HJL
        obtain ⟨gB, hBB⟩ : ∃ gB, B = some ⟨gB, 0, none⟩ := by
          obtain ⟨g', cap', hv⟩ := ownsRow_succ HO.out
          exact ⟨g', by injection hv⟩
        subst hBB
        obtain ⟨e0, e1, e2⟩ := rowR_get (J0 ++ [(x0, x1, x2)]) j0 (by rw [List.length_append, hj0]; simp)
        have hlast : (J0 ++ [(x0, x1, x2)])[j0]'(by rw [List.length_append, hj0]; simp) = (x0, x1, x2) := by rw [List.getElem_append_right (by omega)]; simp
        rw [hlast] at e1 e2
        dsimp only at e1 e2
        have d1 := (HO.out.cellAt (j0 * 3 + 1) (by omega)).trans e1
        have d2 := (HO.out.cellAt (j0 * 3 + 2) (by omega)).trans e2
        have f1 := HO.out.frozenAt (j0 * 3 + 1)
        clear e0 e1 e2 hlast hj0
        have q1 : (0 : Int) ≤ (j0 : Int) := by omega
        have q2 : (j0 : Int) < (j0 : Int) + 1 := by omega
        have q3 : (0 : Int) < (j0 : Int) + 1 := by omega
        have q4 : IntKind.i64.wrap (j0 : Int) = j0 := IntWalk.i64_in _ (by omega)
        have q5 : (0 : Int) ≤ (k : Int) := by omega
        have q6 : (k : Int) < (n : Int) := by omega
        by_cases hz : x2 = y
        · have HE := Go.Lib.hid (HS.out.trans (app_join J0 (x0, x1, x2) ((k : Int), (k : Int) + 1, y) (by show (k : Int) < (k : Int) + 1; omega) hz))
          have HN1 := Go.Lib.hid (fun nq => own_set3 (show (wr.drewN nq).ownsRow w.heap.size 35 3 (.slice (some ⟨gB, 0, none⟩) (j0 + 1) cb) (j0 + 1) (rowR (J0 ++ [(x0, x1, x2)])) from HO.out) (j0 * 3 + 1) (.int .i64 ((k : Int) + 1)))
          rw [rowR_last HJ0.out] at HN1
          have HB1 := Go.Lib.hid (fun nq => (bdrew HB.out nq).setCell (p := ⟨gB, j0 * 3 + 1, none⟩) (HO.out.lt gB rfl).1 (.int .i64 ((k : Int) + 1)))
          clear HS HO HB
          subst hz
          go_wp2
          go_quiet (fail)
          have d1q : (wr.drewN nq).cell? ⟨gB, j0 * 3 + 1, none⟩ = some (.int .i64 x1) := d1
          have f1q : (wr.drewN nq).frozen? ⟨gB, j0 * 3 + 1, none⟩ = false := f1
          go_wp2
          go_roundw
          case rel => exact ⟨k + 1, j0 + 1, some ⟨gB, 0, none⟩, cb, _, by omega, by omega, by go_num, rfl, Go.Lib.hid (HN1.out nq), Go.Lib.hid (by rw [List.length_append, HJ0.out]; rfl), Go.Lib.hid HE.out.symm, Go.Lib.hid (HB1.out nq)⟩
          case measure => simp [RowKit.intOf]; omega
        · have HE := Go.Lib.hid (HS.out.trans (app_put J0 (x0, x1, x2) ((k : Int), (k : Int) + 1, y) (by show (k : Int) < (k : Int) + 1; omega) hz))
          have hzb : (x2 == y) = false := by simpa using hz
          clear HS hz
          go_wp2
          go_quiet (fail)
          have HOq : Hid ((wr.drewN nq).ownsRow w.heap.size 35 3 (.slice (some ⟨gB, 0, none⟩) (j0 + 1) cb) (j0 + 1) (rowR (J0 ++ [(x0, x1, x2)]))) := HO
          have HBq : Hid (Below w.heap.size w (wr.drewN nq)) := Go.Lib.hid (bdrew HB.out nq)
          have d0q : (wr.drewN nq).cell? ⟨gA, k, none⟩ = some (.int .i64 y) := d0
          clear HO HB d0 d1 d2 f1 q1 q2 q3 q4 q5 q6 hzb
          generalize wr.drewN nq = wq at HOq HBq d0q ⊢
          have hbs := HBq.out.size
          go_wp2_with (at_builtin; refine wpList_append_own _ rfl _ _ 32 rfl w.heap.size 35 i0 (.agg #[.int .i64 0, .int .i64 0, .int .i64 0]) 3 24 Try.underlying32 hi hz0 hz1 hz2 rfl (by decide) _ _ _ rfl (HOq.out.alloc _) ⟨wq.heap.size, 0, none⟩ 1 1 [.int .i64 k, .int .i64 ((k : Int) + 1), .int .i64 y] rfl rfl (cell_new3 _ _ _ _ _) (by intro u hu; simp at hu; rcases hu with rfl | rfl | rfl <;> rfl) (by unfold maxLen; omega) (by omega) (by simp; omega) ?_; intro v1 w1 hown1 hgrow1 _; obtain ⟨g1, cap1, rfl⟩ := ownsRow_succ hown1)
          go_roundw
          case rel => exact ⟨k + 1, (j0 + 1) + 1, some ⟨g1, 0, none⟩, cap1, J0 ++ [(x0, x1, x2)] ++ [((k : Int), (k : Int) + 1, y)], by omega, by omega, by go_num, rfl, Go.Lib.hid (by rw [rowR_snoc]; exact hown1), Go.Lib.hid (by rw [List.length_append, List.length_append, HJ0.out]; rfl), Go.Lib.hid HE.out.symm, Go.Lib.hid ((HBq.out.alloc hbs _).grown hgrow1 (by simp; omega) (fun j e => (HOq.out.lt j e).1))⟩
          case measure => simp [RowKit.intOf]; omega
    · obtain rfl : n = k := by omega
      go_wp2
      go_ret
      have hR : J = runs l := by rw [HJ.out, List.take_of_length_le (by rw [HL.out]; exact Nat.le_refl _)]; rfl
      have hm : (runs l).length = m := by rw [← hR]; exact HJL.out
      refine ⟨B, cb, by rw [hm]; rfl, ?_, HB.out⟩
      rw [hm, ← hR]
      exact HO.out
end Go.Proofs.Ytioehncdkdfcmaa
