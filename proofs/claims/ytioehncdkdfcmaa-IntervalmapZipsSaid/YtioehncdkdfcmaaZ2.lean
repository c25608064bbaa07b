/- Layer 5: the reference's Zip. -/
import Derived.Test.YtioehncdkdfcmaaI3
import Derived.Test.YtioehncdkdfcmaaZ1
import Derived.StillTailTactics
import Derived.Deep.RegionHeld3
import Derived.Deep.AppendLies
namespace Go.Proofs.Ytioehncdkdfcmaa
open Go.RowKit Go.Lib

def rowQ (l : List Im2.Rq) : List Value := l.flatMap fun x => [.int .i64 x.1, .int .i64 x.2.1, .int .i64 x.2.2.1, .int .i64 x.2.2.2]
theorem rowQ_snoc (l : List Im2.Rq) (x : Im2.Rq) : rowQ (l ++ [x]) = rowQ l ++ [.int .i64 x.1, .int .i64 x.2.1, .int .i64 x.2.2.1, .int .i64 x.2.2.2] := by simp [rowQ]
theorem rowQ_len (l : List Im2.Rq) : (rowQ l).length = l.length * 4 := by
  induction l with
  | nil => rfl
  | cons x l ih =>
    have e : rowQ (x :: l) = .int .i64 x.1 :: .int .i64 x.2.1 :: .int .i64 x.2.2.1 :: .int .i64 x.2.2.2 :: rowQ l := by simp [rowQ]
    rw [e, List.length_cons, List.length_cons, List.length_cons, List.length_cons, ih, List.length_cons]; omega
theorem rowQ_get (l : List Im2.Rq) : ∀ k (h : k < l.length), (rowQ l)[k * 4]? = some (.int .i64 l[k].1) ∧ (rowQ l)[k * 4 + 1]? = some (.int .i64 l[k].2.1) ∧ (rowQ l)[k * 4 + 2]? = some (.int .i64 l[k].2.2.1) ∧ (rowQ l)[k * 4 + 3]? = some (.int .i64 l[k].2.2.2) := by
  induction l with
  | nil => intro k h; simp at h
  | cons x l ih =>
    intro k h
    cases k with
    | zero => exact ⟨rfl, rfl, rfl, rfl⟩
    | succ k =>
      have e : rowQ (x :: l) = .int .i64 x.1 :: .int .i64 x.2.1 :: .int .i64 x.2.2.1 :: .int .i64 x.2.2.2 :: rowQ l := by simp [rowQ]
      have hs : ∀ j, (rowQ (x :: l))[(k + 1) * 4 + j]? = (rowQ l)[k * 4 + j]? := fun j => by
        rw [e, show (k + 1) * 4 + j = k * 4 + j + 1 + 1 + 1 + 1 by omega, List.getElem?_cons_succ, List.getElem?_cons_succ, List.getElem?_cons_succ, List.getElem?_cons_succ]
      obtain ⟨h0, h1, h2, h3⟩ := ih k (by simpa using h)
      exact ⟨(hs 0).trans h0, (hs 1).trans h1, (hs 2).trans h2, (hs 3).trans h3⟩
theorem rowQ_last {L : List Im2.Rq} {k : Nat} (hL : L.length = k) (a b : Int) (z : Int × Int) (y : Int) : (rowQ (L ++ [(a, b, z)])).set (k * 4 + 1) (.int .i64 y) = rowQ (L ++ [(a, y, z)]) := by
  rw [rowQ_snoc, rowQ_snoc, List.set_append_right _ _ (by rw [rowQ_len, hL]; omega), rowQ_len, hL, show k * 4 + 1 - k * 4 = 1 by omega]
  rfl
theorem info73 : (Try.prog.info? 73).map (fun i => (i.zero, i.size, i.bytes)) = some (some (.agg #[.int .i64 0, .int .i64 0, .int .i64 0, .int .i64 0]), 4, 32) := by kernel_rfl
theorem cell_new4 (w : World) (a b c d : Value) (t : TypeId) : ∀ j u, [a, b, c, d][j]? = some u → (w.alloc (.cells #[a, b, c, d] t)).cell? ((⟨w.heap.size, 0, none⟩ : Addr).add j) = some u := by
  intro j u hj
  match j, hj with
  | 0, hj => simp at hj; subst hj; simp [Addr.add]
  | 1, hj => simp at hj; subst hj; simp [Addr.add]
  | 2, hj => simp at hj; subst hj; simp [Addr.add]
  | 3, hj => simp at hj; subst hj; simp [Addr.add]
theorem own_set4 {w : World} {base g n c : Nat} {e : TypeId} {xs : List Value} (h : w.ownsRow base e 4 (.slice (some ⟨g, 0, none⟩) n c) n xs) (p : Nat) (v : Value) :
    (w.setCell ⟨g, p, none⟩ v).ownsRow base e 4 (.slice (some ⟨g, 0, none⟩) n c) n (xs.set p v) := by
  rcases h.2 with ⟨hv, h0⟩ | ⟨g', cap, cur, hv, hb, hg, hc1, hc2, hsz, htk⟩
  · cases hv
  · injection hv with e1 _ e2
    injection e1 with e1
    injection e1 with e1 _ _
    subst e1 e2
    refine ⟨by rw [List.length_set]; exact h.1, .inr ⟨g, c, cur.set! p v, rfl, hb, ?_, hc1, hc2, ?_, ?_⟩⟩
    · rw [setCell_eq_setRow w g p cur e (0, 0) _ hg]
      exact setRow_heap w g _ _ e _ hg
    · simp [hsz]
    · rw [← htk]
      simp [List.take_set]
/-- The reference's pairs, handed back. -/
def OwnQ (E : TypeId) (J : List Im2.Rq) (w : World) (e : Ending) (w' : World) : Prop := ∃ B c, e = .returned (.slice B J.length c) ∧ w'.ownsRow w.heap.size E 4 (.slice B J.length c) J.length (rowQ J) ∧ Below w.heap.size w w'
set_option maxRecDepth 100000 in
set_option maxHeartbeats 16000000 in
theorem rzip_any (A C : Option Addr) (n c c2 : Nat) (la lb : List Int) (hla : la.length = n) (hlb : lb.length = n) (w : World) (hA : w.ownsRow 0 3 1 (.slice A n c) n (intsV la)) (hC : w.ownsRow 0 3 1 (.slice C n c2) n (intsV lb)) (hn : n ≤ 1000000) :
    Calls Try.prog 32 #[.slice A n c, .slice C n c2] w (OwnQ 73 (Im2.runs (la.zip lb)) w) := by
  obtain ⟨i0, hi, hz0, hz1, hz2⟩ := info_parts info73
  have HA := Go.Lib.hid hA
  have HC := Go.Lib.hid hC
  have HLA := Go.Lib.hid hla
  have HLB := Go.Lib.hid hlb
  have HL : Hid ((la.zip lb).length = n) := Go.Lib.hid (by rw [List.length_zip, hla, hlb, Nat.min_self])
  clear hA hC hla hlb
  go_enter Try.func32, Try.ntmps32
  go_wp2
  go_loopw [5, 6, 7] (fun o i x wr => ∃ (k m : Nat) (B : Option Addr) (cb : Nat) (J : List Im2.Rq), k ≤ n ∧ m ≤ k ∧ i = .int .i64 k ∧ o = .slice B m cb ∧ Hid (wr.ownsRow w.heap.size 73 4 (.slice B m cb) m (rowQ J)) ∧ Hid (J.length = m) ∧ Hid (J = (Im2.units 0 ((la.zip lb).take k)).foldl Im2.app []) ∧ Hid (Below w.heap.size w wr)) (fun _ i _ _ => n - (RowKit.intOf i).toNat)
  case atStart => exact ⟨0, 0, none, 0, [], Nat.zero_le _, Nat.le_refl _, rfl, rfl, Go.Lib.hid (World.ownsRow_nil _ _ _ _), Go.Lib.hid rfl, Go.Lib.hid rfl, Go.Lib.hid (Below.refl _ _)⟩
  case round =>
    obtain ⟨k, m, B, cb, J, hk, hmk, rfl, rfl, HO, HJL, HJ, HB⟩ := hrel
    have hb := HB.out.size
    by_cases hlt : k < n
    · obtain ⟨gA, rfl, hgA, hcA⟩ := own_list HA.out HLA.out hlt
      obtain ⟨gC, rfl, hgC, hcC⟩ := own_list HC.out HLB.out hlt
      have d0 := (HB.out.cell (p := ⟨gA, k, none⟩) hgA).trans hcA
      have d1 := (HB.out.cell (p := ⟨gC, k, none⟩) hgC).trans hcC
      have HU := Go.Lib.hid (Im2.units_take (la.zip lb) (k := k) (by rw [HL.out]; exact hlt))
      rw [List.getElem_zip] at HU
      clear hcA hgA hcC hgC
      generalize la[k]'(by rw [HLA.out]; exact hlt) = ya at d0 HU
      generalize lb[k]'(by rw [HLB.out]; exact hlt) = yb at d1 HU
      have hkw : IntKind.i64.wrap ((k : Int) + 1) = (k : Int) + 1 := IntWalk.i64_in _ (by omega)
      have HS : Hid ((Im2.units 0 ((la.zip lb).take (k + 1))).foldl Im2.app [] = Im2.app J ((k : Int), (k : Int) + 1, (ya, yb))) := Go.Lib.hid (by rw [HU.out, List.foldl_append, ← HJ.out]; rfl)
      have q5 : (0 : Int) ≤ (k : Int) := by omega
      have q6 : (k : Int) < (n : Int) := by omega
      clear HU HJ
      rcases List.eq_nil_or_concat J with hE | ⟨J0, q, hE⟩
      · subst hE
        obtain rfl : m = 0 := by have := HJL.out; simpa using this.symm
        have HE := Go.Lib.hid (HS.out.trans (Im2.app_nil _ (by show (k : Int) < (k : Int) + 1; omega)))
        clear HS HJL
        go_wp2
        go_quiet (fail)
        have HOq : Hid ((wr.drewN nq).ownsRow w.heap.size 73 4 (.slice B 0 cb) 0 (rowQ [])) := HO
        have HBq : Hid (Below w.heap.size w (wr.drewN nq)) := Go.Lib.hid (bdrew HB.out nq)
        have d0q : (wr.drewN nq).cell? ⟨gA, k, none⟩ = some (.int .i64 ya) := d0
        have d1q : (wr.drewN nq).cell? ⟨gC, k, none⟩ = some (.int .i64 yb) := d1
        clear HO HB d0 d1
        generalize wr.drewN nq = wq0 at HOq HBq d0q d1q ⊢
        go_wp2
        have hbs := HBq.out.size
        have hgA : gA < w.heap.size := (HA.out.lt gA rfl).2
        have hgC : gC < w.heap.size := (HC.out.lt gC rfl).2
        have ag : (Value.slice B 0 cb).ownBlock ≠ some gA := fun h => by have := (HOq.out.lt gA h).1; omega
        have ac : (Value.slice B 0 cb).ownBlock ≠ some gC := fun h => by have := (HOq.out.lt gC h).1; omega
        have hown := HOq.out
        go_region_held3 (fun w' => w'.cell? ⟨gA, k, none⟩ = some (.int .i64 ya) ∧ w'.cell? ⟨gC, k, none⟩ = some (.int .i64 yb))
          (first
            | go_keep
            | (go_split_ands
               refine ⟨?_, ?_⟩
               · (rw [hgrow.cell_far _ (by simp; omega) (Ne.symm ag)]; assumption)
               · (rw [hgrow.cell_far _ (by simp; omega) (Ne.symm ac)]; assumption)))
          ((refine step_append_lies _ (by rfl) _ _ _ (by rfl) w.heap.size 73 i0 _ 4 32 Try.underlying69 hi hz0 hz1 hz2 rfl (by omega) _ 0 (rowQ ([])) (by rfl) ((hown.alloc _).drew)
              ⟨wq0.heap.size, 0, none⟩ 1 1 [.int .i64 k, .int .i64 ((k : Int) + 1), .int .i64 ya, .int .i64 yb] (by rfl) (by rfl) (World.news_of_block (cs := #[.int .i64 k, .int .i64 ((k : Int) + 1), .int .i64 ya, .int .i64 yb]) (t := 73) (fr := (0, 0)) (heap_alloc_new wq0 _)) (by simp [Value.oneCell'])
              (by omega) (by unfold maxLen; omega) (by omega) (by simp; omega) (wq0.heap.size + 1) (by simp) ?_; intro gg cap' w1 hown1 hgrow hat hlt'))
        have hown2 := Go.Lib.hid hown1
        have hgrow2 := Go.Lib.hid hgrow
        clear hown1 hgrow d0q d1q
        go_wp2
        go_roundw
        case rel => exact ⟨k + 1, 0 + 1, some ⟨gg, 0, none⟩, cap', [] ++ [((k : Int), (k : Int) + 1, (ya, yb))], by omega, by omega, by go_num, rfl, Go.Lib.hid (by rw [rowQ_snoc]; exact hown2.out), Go.Lib.hid (by rfl), Go.Lib.hid HE.out.symm, Go.Lib.hid ((bdrew1 (HBq.out.alloc hbs _)).grown hgrow2.out (by simp; omega) (fun j e => (hown.lt j e).1))⟩
        case measure => simp [RowKit.intOf]; omega
      · rw [List.concat_eq_append] at hE
        subst hE
        obtain ⟨x0, x1, x2, x3⟩ := q
        obtain rfl : m = J0.length + 1 := by have := HJL.out; simpa using this.symm
        obtain ⟨j0, hj0⟩ : ∃ j0, J0.length = j0 := ⟨_, rfl⟩
        have HJ0 := Go.Lib.hid hj0
        rw [hj0] at HO hmk ⊢
        clear HJL
        obtain ⟨gB, hBB⟩ : ∃ gB, B = some ⟨gB, 0, none⟩ := by
          obtain ⟨g', cap', hv⟩ := ownsRow_succ HO.out
          exact ⟨g', by injection hv⟩
        subst hBB
        obtain ⟨e0, e1, e2, e3⟩ := rowQ_get (J0 ++ [(x0, x1, x2, x3)]) j0 (by rw [List.length_append, hj0]; simp)
        have hlast : (J0 ++ [(x0, x1, x2, x3)])[j0]'(by rw [List.length_append, hj0]; simp) = (x0, x1, x2, x3) := by rw [List.getElem_append_right (by omega)]; simp
        rw [hlast] at e1 e2 e3
        dsimp only at e1 e2 e3
        have c1 := (HO.out.cellAt (j0 * 4 + 1) (by omega)).trans e1
        have c2 := (HO.out.cellAt (j0 * 4 + 2) (by omega)).trans e2
        have c3 := (HO.out.cellAt (j0 * 4 + 3) (by omega)).trans e3
        have f1 := HO.out.frozenAt (j0 * 4 + 1)
        clear e0 e1 e2 e3 hlast hj0
        have q1 : (0 : Int) ≤ (j0 : Int) := by omega
        have q2 : (j0 : Int) < (j0 : Int) + 1 := by omega
        have q3 : (0 : Int) < (j0 : Int) + 1 := by omega
        have q4 : IntKind.i64.wrap (j0 : Int) = j0 := IntWalk.i64_in _ (by omega)
        by_cases hz : x2 = ya
        · by_cases hy : x3 = yb
          · have HE := Go.Lib.hid (HS.out.trans (Im2.app_join J0 (x0, x1, x2, x3) ((k : Int), (k : Int) + 1, (ya, yb)) (by show (k : Int) < (k : Int) + 1; omega) (by rw [hz, hy])))
            have HN1 := Go.Lib.hid (fun nq => own_set4 (show (wr.drewN nq).ownsRow w.heap.size 73 4 (.slice (some ⟨gB, 0, none⟩) (j0 + 1) cb) (j0 + 1) (rowQ (J0 ++ [(x0, x1, x2, x3)])) from HO.out) (j0 * 4 + 1) (.int .i64 ((k : Int) + 1)))
            rw [rowQ_last HJ0.out] at HN1
            have HB1 := Go.Lib.hid (fun nq => (bdrew HB.out nq).setCell (p := ⟨gB, j0 * 4 + 1, none⟩) (HO.out.lt gB rfl).1 (.int .i64 ((k : Int) + 1)))
            clear HS HO HB
            subst hz hy
            go_wp2
            go_quiet (fail)
            have d1q : (wr.drewN nq).cell? ⟨gB, j0 * 4 + 1, none⟩ = some (.int .i64 x1) := c1
            have f1q : (wr.drewN nq).frozen? ⟨gB, j0 * 4 + 1, none⟩ = false := f1
            go_wp2
            go_roundw
            case rel => exact ⟨k + 1, j0 + 1, some ⟨gB, 0, none⟩, cb, _, by omega, by omega, by go_num, rfl, Go.Lib.hid (HN1.out nq), Go.Lib.hid (by rw [List.length_append, HJ0.out]; rfl), Go.Lib.hid HE.out.symm, Go.Lib.hid (HB1.out nq)⟩
            case measure => simp [RowKit.intOf]; omega
          · have HE := Go.Lib.hid (HS.out.trans (Im2.app_put J0 (x0, x1, x2, x3) ((k : Int), (k : Int) + 1, (ya, yb)) (by show (k : Int) < (k : Int) + 1; omega) (by intro e; injection e with _ e; exact hy e)))
            have hyb : (x3 == yb) = false := by simpa using hy
            clear HS hy
            subst hz
            go_wp2
            go_quiet (fail)
            have HOq : Hid ((wr.drewN nq).ownsRow w.heap.size 73 4 (.slice (some ⟨gB, 0, none⟩) (j0 + 1) cb) (j0 + 1) (rowQ (J0 ++ [(x0, x1, x2, x3)]))) := HO
            clear c1 c2 c3 f1 q1 q2 q3 q4 hyb
            have HBq : Hid (Below w.heap.size w (wr.drewN nq)) := Go.Lib.hid (bdrew HB.out nq)
            have d0q : (wr.drewN nq).cell? ⟨gA, k, none⟩ = some (.int .i64 x2) := d0
            have d1q : (wr.drewN nq).cell? ⟨gC, k, none⟩ = some (.int .i64 yb) := d1
            clear HO HB d0 d1
            generalize wr.drewN nq = wq0 at HOq HBq d0q d1q ⊢
            go_wp2
            have hbs := HBq.out.size
            have hgA : gA < w.heap.size := (HA.out.lt gA rfl).2
            have hgC : gC < w.heap.size := (HC.out.lt gC rfl).2
            have ag : (Value.slice (some ⟨gB, 0, none⟩) (j0 + 1) cb).ownBlock ≠ some gA := fun h => by have := (HOq.out.lt gA h).1; omega
            have ac : (Value.slice (some ⟨gB, 0, none⟩) (j0 + 1) cb).ownBlock ≠ some gC := fun h => by have := (HOq.out.lt gC h).1; omega
            have hown := HOq.out
            go_region_held3 (fun w' => w'.cell? ⟨gA, k, none⟩ = some (.int .i64 x2) ∧ w'.cell? ⟨gC, k, none⟩ = some (.int .i64 yb))
              (first
                | go_keep
                | (go_split_ands
                   refine ⟨?_, ?_⟩
                   · (rw [hgrow.cell_far _ (by simp; omega) (Ne.symm ag)]; assumption)
                   · (rw [hgrow.cell_far _ (by simp; omega) (Ne.symm ac)]; assumption)))
              ((refine step_append_lies _ (by rfl) _ _ _ (by rfl) w.heap.size 73 i0 _ 4 32 Try.underlying69 hi hz0 hz1 hz2 rfl (by omega) _ (j0 + 1) (rowQ (J0 ++ [(x0, x1, x2, x3)])) (by rfl) ((hown.alloc _).drew)
                  ⟨wq0.heap.size, 0, none⟩ 1 1 [.int .i64 k, .int .i64 ((k : Int) + 1), .int .i64 x2, .int .i64 yb] (by rfl) (by rfl) (World.news_of_block (cs := #[.int .i64 k, .int .i64 ((k : Int) + 1), .int .i64 x2, .int .i64 yb]) (t := 73) (fr := (0, 0)) (heap_alloc_new wq0 _)) (by simp [Value.oneCell'])
                  (by omega) (by unfold maxLen; omega) (by omega) (by simp; omega) (wq0.heap.size + 1) (by simp) ?_; intro gg cap' w1 hown1 hgrow hat hlt'))
            have hown2 := Go.Lib.hid hown1
            have hgrow2 := Go.Lib.hid hgrow
            clear hown1 hgrow d0q d1q
            go_wp2
            go_roundw
            case rel => exact ⟨k + 1, (j0 + 1) + 1, some ⟨gg, 0, none⟩, cap', J0 ++ [(x0, x1, x2, x3)] ++ [((k : Int), (k : Int) + 1, (x2, yb))], by omega, by omega, by go_num, rfl, Go.Lib.hid (by rw [rowQ_snoc]; exact hown2.out), Go.Lib.hid (by rw [List.length_append, List.length_append, HJ0.out]; rfl), Go.Lib.hid HE.out.symm, Go.Lib.hid ((bdrew1 (HBq.out.alloc hbs _)).grown hgrow2.out (by simp; omega) (fun j e => (hown.lt j e).1))⟩
            case measure => simp [RowKit.intOf]; omega
        · have HE := Go.Lib.hid (HS.out.trans (Im2.app_put J0 (x0, x1, x2, x3) ((k : Int), (k : Int) + 1, (ya, yb)) (by show (k : Int) < (k : Int) + 1; omega) (by intro e; injection e with e _; exact hz e)))
          have hzb : (x2 == ya) = false := by simpa using hz
          clear HS hz
          go_wp2
          go_quiet (fail)
          have HOq : Hid ((wr.drewN nq).ownsRow w.heap.size 73 4 (.slice (some ⟨gB, 0, none⟩) (j0 + 1) cb) (j0 + 1) (rowQ (J0 ++ [(x0, x1, x2, x3)]))) := HO
          clear c1 c2 c3 f1 q1 q2 q3 q4 hzb
          have HBq : Hid (Below w.heap.size w (wr.drewN nq)) := Go.Lib.hid (bdrew HB.out nq)
          have d0q : (wr.drewN nq).cell? ⟨gA, k, none⟩ = some (.int .i64 ya) := d0
          have d1q : (wr.drewN nq).cell? ⟨gC, k, none⟩ = some (.int .i64 yb) := d1
          clear HO HB d0 d1
          generalize wr.drewN nq = wq0 at HOq HBq d0q d1q ⊢
          go_wp2
          have hbs := HBq.out.size
          have hgA : gA < w.heap.size := (HA.out.lt gA rfl).2
          have hgC : gC < w.heap.size := (HC.out.lt gC rfl).2
          have ag : (Value.slice (some ⟨gB, 0, none⟩) (j0 + 1) cb).ownBlock ≠ some gA := fun h => by have := (HOq.out.lt gA h).1; omega
          have ac : (Value.slice (some ⟨gB, 0, none⟩) (j0 + 1) cb).ownBlock ≠ some gC := fun h => by have := (HOq.out.lt gC h).1; omega
          have hown := HOq.out
          go_region_held3 (fun w' => w'.cell? ⟨gA, k, none⟩ = some (.int .i64 ya) ∧ w'.cell? ⟨gC, k, none⟩ = some (.int .i64 yb))
            (first
              | go_keep
              | (go_split_ands
                 refine ⟨?_, ?_⟩
                 · (rw [hgrow.cell_far _ (by simp; omega) (Ne.symm ag)]; assumption)
                 · (rw [hgrow.cell_far _ (by simp; omega) (Ne.symm ac)]; assumption)))
            ((refine step_append_lies _ (by rfl) _ _ _ (by rfl) w.heap.size 73 i0 _ 4 32 Try.underlying69 hi hz0 hz1 hz2 rfl (by omega) _ (j0 + 1) (rowQ (J0 ++ [(x0, x1, x2, x3)])) (by rfl) ((hown.alloc _).drew)
                ⟨wq0.heap.size, 0, none⟩ 1 1 [.int .i64 k, .int .i64 ((k : Int) + 1), .int .i64 ya, .int .i64 yb] (by rfl) (by rfl) (World.news_of_block (cs := #[.int .i64 k, .int .i64 ((k : Int) + 1), .int .i64 ya, .int .i64 yb]) (t := 73) (fr := (0, 0)) (heap_alloc_new wq0 _)) (by simp [Value.oneCell'])
                (by omega) (by unfold maxLen; omega) (by omega) (by simp; omega) (wq0.heap.size + 1) (by simp) ?_; intro gg cap' w1 hown1 hgrow hat hlt'))
          have hown2 := Go.Lib.hid hown1
          have hgrow2 := Go.Lib.hid hgrow
          clear hown1 hgrow d0q d1q
          go_wp2
          go_roundw
          case rel => exact ⟨k + 1, (j0 + 1) + 1, some ⟨gg, 0, none⟩, cap', J0 ++ [(x0, x1, x2, x3)] ++ [((k : Int), (k : Int) + 1, (ya, yb))], by omega, by omega, by go_num, rfl, Go.Lib.hid (by rw [rowQ_snoc]; exact hown2.out), Go.Lib.hid (by rw [List.length_append, List.length_append, HJ0.out]; rfl), Go.Lib.hid HE.out.symm, Go.Lib.hid ((bdrew1 (HBq.out.alloc hbs _)).grown hgrow2.out (by simp; omega) (fun j e => (hown.lt j e).1))⟩
          case measure => simp [RowKit.intOf]; omega
    · obtain rfl : n = k := by omega
      go_wp2
      go_ret
      have hR : J = Im2.runs (la.zip lb) := by rw [HJ.out, List.take_of_length_le (by rw [HL.out]; exact Nat.le_refl _)]; rfl
      have hm : (Im2.runs (la.zip lb)).length = m := by rw [← hR]; exact HJL.out
      refine ⟨B, cb, by rw [hm]; rfl, ?_, HB.out⟩
      rw [hm, ← hR]
      exact HO.out
end Go.Proofs.Ytioehncdkdfcmaa
