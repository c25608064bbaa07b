/- Layer 7: put, drop, Set, Clear. -/
import Derived.Test.YtjdjfokfilnnoaaJM
import Derived.Test.YtjdjfokfilnnoaaQ2
namespace Go.Proofs.Ytjdjfokfilnnoaa
open Go.RowKit Go.Lib

theorem own_prat' {w : World} {base n cb : Nat} {B : Option Addr} {l : List Pr} (h : w.ownsRow base 57 2 (.slice B n cb) n (rowP l)) (hl : l.length = n) : PrAt w B l := by
  obtain ⟨A, c, hv, _, _, hP⟩ := PVal.own h hl
  injection hv with e1 _ _
  rw [e1]; exact hP
theorem own_caps {w : World} {base n cb size : Nat} {t : TypeId} {B : Option Addr} {xs : List Value} (h : w.ownsRow base t size (.slice B n cb) n xs) : n ≤ cb ∧ cb ≤ maxLen := by
  rcases h.2 with ⟨hv, h0⟩ | ⟨g, cap, cur, hv, _, _, h1, h2, _⟩
  · injection hv with _ e1 e2; subst e2; exact ⟨by omega, by decide⟩
  · injection hv with _ e1 e2; subst e2; exact ⟨h1, h2⟩
theorem rowP_set (l : List Pr) : ∀ (i : Nat) (k v : Int) (h : i < l.length), l[i].1 = k → (rowP l).set (i * 2 + 1) (.int .i64 v) = rowP (l.take i ++ (k, v) :: l.drop (i + 1)) := by
  induction l with
  | nil => intro i k v h; simp at h
  | cons x l ih =>
    intro i k v h hk
    rw [rowP_cons]
    cases i with
    | zero =>
      simp only [List.getElem_cons_zero] at hk
      subst hk
      simp [rowP]
    | succ i =>
      have e1 : (i + 1) * 2 + 1 = i * 2 + 1 + 1 + 1 := by omega
      rw [e1]
      show (Value.int .i64 x.1 :: Value.int .i64 x.2 :: rowP l).set (i * 2 + 1 + 1 + 1) (.int .i64 v) = _
      rw [List.set_cons_succ, List.set_cons_succ, ih i k v (by simpa using h) (by simpa using hk), List.take_succ_cons, List.cons_append, rowP_cons, List.drop_succ_cons]
      rfl
theorem own_store {w : World} {base g n cb i : Nat} {l : List Pr} {k v : Int} (h : w.ownsRow base 57 2 (.slice (some ⟨g, 0, none⟩) n cb) n (rowP l)) (hl : l.length = n) (hi : i < n) (hk : (l[i]'(by omega)).1 = k) :
    (w.setCell ⟨g, i * 2 + 1, none⟩ (.int .i64 v)).ownsRow base 57 2 (.slice (some ⟨g, 0, none⟩) n cb) n (rowP (l.take i ++ (k, v) :: l.drop (i + 1))) := by
  rcases h.2 with ⟨hv, h0⟩ | ⟨g', cap, cur, hv, hb, hg, hc1, hc2, hsz, htk⟩
  · cases hv
  · injection hv with e1 _ e2
    injection e1 with e1
    injection e1 with e1 _ _
    subst e1 e2
    have hset := rowP_set l i k v (by omega) hk
    refine ⟨by rw [← hset, List.length_set, rowP_len, hl], .inr ⟨g, cb, cur.set! (i * 2 + 1) (.int .i64 v), rfl, hb, ?_, hc1, hc2, ?_, ?_⟩⟩
    · rw [setCell_eq_setRow w g (i * 2 + 1) cur 57 (0, 0) _ hg]
      exact setRow_heap w g _ _ 57 _ hg
    · simp [hsz]
    · rw [← hset, ← htk]
      simp [List.take_set]
set_option maxRecDepth 100000 in
set_option maxHeartbeats 8000000 in
theorem put_yes (w : World) (base n : Nat) (B : Option Addr) (cb : Nat) (l : List Pr) (k v : Int) (hs : SortP l) (hl : l.length = n) (hn : n ≤ 900)
    (hown : w.ownsRow base 57 2 (.slice B n cb) n (rowP l)) (hb : getB l k = true) (hbw : base ≤ w.heap.size) :
    Calls Try.prog 52 #[.slice B n cb, .int .i64 k, .int .i64 v] w (InsRet base n (setP l k v) w) := by
  obtain ⟨hc1, hc2⟩ := own_caps hown
  unfold maxLen at hc2
  have cS := fun w' hA => search_yes l hs B n cb hl (by omega) k w' hA hb
  have hP := own_prat' hown hl
  have HL := Go.Lib.hid hl
  clear hl hb
  go_enter Try.func52, Try.ntmps52
  go_wp2_with fail
  refine (cS _ hP).mono ?_
  rintro e w1 ⟨⟨i, hi, hk, rfl⟩, hb1⟩
  have hin : i < n := by rw [← HL.out]; exact hi
  have hset := set_at hs v hi hk
  obtain ⟨gb, hB⟩ : ∃ gb, B = some ⟨gb, 0, none⟩ := by
    obtain ⟨m, rfl⟩ : ∃ m, n = m + 1 := ⟨n - 1, by omega⟩
    obtain ⟨g', cap', hv⟩ := ownsRow_succ hown
    exact ⟨g', by injection hv⟩
  subst hB
  have hown1 := row_below hown hb1
  have hgb := (hown1.lt gb rfl).1
  obtain ⟨e1, e2⟩ := rowP_get l i hi
  have c1 := (hown1.cellAt (i * 2 + 1) (by omega)).trans e2
  have f1 := hown1.frozenAt (i * 2 + 1)
  have hfin := own_store (v := v) hown1 HL.out hin hk
  have HF := Go.Lib.hid hfin
  have HSET := Go.Lib.hid hset
  clear hown hown1 hP cS hs hfin hset e1 e2 hk
  generalize (l[i]).2 = ov at c1
  go_wp2
  go_ret
  exact ⟨some ⟨gb, 0, none⟩, cb, rfl, by rw [HSET.out]; exact HF.out, ((hb1.mono hbw).setCell (p := ⟨gb, i * 2 + 1, none⟩) hgb _)⟩
set_option maxRecDepth 100000 in
set_option maxHeartbeats 8000000 in
theorem put_no (w : World) (base n : Nat) (B : Option Addr) (cb : Nat) (l : List Pr) (k v : Int) (hs : SortP l) (hl : l.length = n) (hn : n ≤ 900)
    (hown : w.ownsRow base 57 2 (.slice B n cb) n (rowP l)) (hb : getB l k = false) (hbw : base ≤ w.heap.size) :
    Calls Try.prog 52 #[.slice B n cb, .int .i64 k, .int .i64 v] w (InsRet base (n + 1) (setP l k v) w) := by
  obtain ⟨hc1, hc2⟩ := own_caps hown
  unfold maxLen at hc2
  have cS := fun w' hA => search_no l hs B n cb hl (by omega) k w' hA hb
  have hP := own_prat' hown hl
  have HL := Go.Lib.hid hl
  have HB := Go.Lib.hid hb
  clear hl hb
  go_enter Try.func52, Try.ntmps52
  go_wp2_with fail
  refine (cS _ hP).mono ?_
  rintro e w1 ⟨⟨i, hpart, rfl⟩, hb1⟩
  have hset := set_absent v HB.out hpart
  have hin : i ≤ n := by rw [← HL.out]; exact hpart.1
  have hown1 := (row_below hown hb1).alloc (.cells #[.int .i64 k, .int .i64 0] 57)
  have hz1 := hb1.size
  have cI := insert_any (w1.alloc (.cells #[.int .i64 k, .int .i64 0] 57)) base n i w1.heap.size B cb l k 0 HL.out hin (by omega) (by rw [World.size_alloc]; omega) hown1 (ObjAt.new w1 _ 57) (fun e => by
    subst e
    have := ((row_below hown hb1).lt w1.heap.size rfl).2
    omega)
  have HSET := Go.Lib.hid hset
  clear hown hown1 hP cS hs hset hpart
  go_wp2_with fail
  refine cI.mono ?_
  rintro e w2 ⟨B2, cb2, rfl, hown2, hb2⟩
  obtain ⟨gb, hB⟩ : ∃ gb, B2 = some ⟨gb, 0, none⟩ := by
    obtain ⟨g', cap', hv⟩ := ownsRow_succ hown2
    exact ⟨g', by injection hv⟩
  subst hB
  have hl1 : (l.take i ++ (k, 0) :: l.drop i).length = n + 1 := by rw [ins_len l i _ (by rw [HL.out]; exact hin), HL.out]
  have hlt : (l.take i).length = i := by rw [List.length_take, HL.out]; omega
  have hgb := (hown2.lt gb rfl).1
  have hki : ((l.take i ++ (k, 0) :: l.drop i)[i]'(by omega)) = (k, 0) := by
    rw [List.getElem_append_right (by omega)]
    simp [hlt]
  obtain ⟨e1, e2⟩ := rowP_get (l.take i ++ (k, 0) :: l.drop i) i (by omega)
  rw [hki] at e2
  have c1 := (hown2.cellAt (i * 2 + 1) (by omega)).trans e2
  have f1 := hown2.frozenAt (i * 2 + 1)
  obtain ⟨_, hcm2⟩ := own_caps hown2
  unfold maxLen at hcm2
  have hfin := own_store (i := i) (k := k) (v := v) hown2 hl1 (by omega) (by rw [hki])
  have HF := Go.Lib.hid hfin
  have hin2 : i < n + 1 := by omega
  have HLT := Go.Lib.hid hlt
  have HBB := Go.Lib.hid ((((hb1.mono hbw).alloc (by omega) _).trans hb2).setCell (p := ⟨gb, i * 2 + 1, none⟩) hgb (.int .i64 v))
  clear hown2 hfin e1 e2 hki hl1 hlt cI hb1 hb2
  dsimp only at c1
  go_wp2
  go_ret
  refine ⟨some ⟨gb, 0, none⟩, cb2, rfl, ?_, HBB.out⟩
  have e : (l.take i ++ (k, 0) :: l.drop i).take i ++ (k, v) :: (l.take i ++ (k, 0) :: l.drop i).drop (i + 1) = l.take i ++ (k, v) :: l.drop i := by
    rw [List.take_left' HLT.out, List.drop_append, HLT.out, List.drop_eq_nil_of_le (by rw [HLT.out]; omega), Nat.add_sub_cancel_left, List.nil_append, List.drop_succ_cons, List.drop_zero]
  rw [HSET.out, ← e]
  exact HF.out
end Go.Proofs.Ytjdjfokfilnnoaa
