/- Layer 7: slices.Insert of one property: there is room. -/
import Derived.Test.YtjdjfokfilnnoaaJD
import Derived.Shelf.Spec.SlicesInsert
import Derived.Lib.AppendZerosOnto
import Derived.Laws.CopyOwn
import Derived.Deep.RegionLaw
namespace Go.Proofs.Ytjdjfokfilnnoaa
open Go.RowKit Go.Lib

theorem run_copy2 (w : World) (ty : TypeId) (g o dLen dCap : Nat) (a : Addr) (sLen sCap m : Nat) (cur : List Value) (t : TypeId) (cs : List Value)
    (hg : w.heap[g]? = some (.cells cur.toArray t (0, 0))) (hm : Nat.min sLen dLen = m) (hn : cs.length = m * 2)
    (hsrc : ∀ j v, cs[j]? = some v → w.cell? (a.add j) = some v) (hfit : o + cs.length ≤ cur.length) (h1 : ∀ v ∈ cs, v.oneCell' = true) :
    (Builtin.copy_ #[43, 43] ty #[.slice (some ⟨g, o, none⟩) dLen dCap, .slice (some a) sLen sCap]).run Try.prog w =
      .ok (goInt m) (w.setRow g (cur.take o ++ cs ++ cur.drop (o + cs.length)).toArray) := by
  have hl := run_loadCells_list (P := Try.prog) w a cs hsrc
  have hst := run_storeCells_at Try.prog g o t cs 0 cur.toArray w hg (by simpa using hfit) h1
  obtain ⟨i0, hi, hz0, hz1, hz2⟩ := info_parts info57
  rw [hn] at hl hst
  simp [Builtin.copy_, run_underlying Try.underlying43, Builtin.lenOf, Builtin.firstCells, sizeOf, typeInfo, hi, hz1, hm, hl, hst, hn]
/-- The row behind both copies. -/
theorem ins_cells {α : Type} (cur L M R : List α) (h : cur.take (L.length + R.length) = L ++ R) (hl : L.length + M.length + R.length ≤ cur.length) :
    (let c1 := cur.take (L.length + M.length) ++ R ++ cur.drop (L.length + M.length + R.length); c1.take L.length ++ M ++ c1.drop (L.length + M.length)) = L ++ M ++ R ++ cur.drop (L.length + M.length + R.length) := by
  dsimp only
  have h1 : cur.take L.length = L := by
    have := congrArg (List.take L.length) h
    rw [List.take_take, Nat.min_eq_left (by omega), List.take_left] at this
    exact this
  have hA : (cur.take (L.length + M.length)).length = L.length + M.length := by rw [List.length_take]; omega
  have h2 : (cur.take (L.length + M.length) ++ R ++ cur.drop (L.length + M.length + R.length)).take L.length = L := by
    rw [List.append_assoc, List.take_append_of_le_length (by omega), List.take_take, Nat.min_eq_left (by omega), h1]
  have h3 : (cur.take (L.length + M.length) ++ R ++ cur.drop (L.length + M.length + R.length)).drop (L.length + M.length) = R ++ cur.drop (L.length + M.length + R.length) := by
    rw [List.append_assoc, List.drop_append_of_le_length (by omega), List.drop_eq_nil_of_le (by omega), List.nil_append]
  rw [h2, h3]
  simp [List.append_assoc]
/-- Behind an insertion. -/
def InsRet (base n : Nat) (l : List Pr) (w : World) (e : Ending) (w' : World) : Prop := ∃ B cb, e = .returned (.slice B n cb) ∧ w'.ownsRow base 57 2 (.slice B n cb) n (rowP l) ∧ Below base w w'
theorem ins_len (l : List Pr) (i : Nat) (x : Pr) (h : i ≤ l.length) : (l.take i ++ x :: l.drop i).length = l.length + 1 := by
  have : (l.take i ++ x :: l.drop i).length = (l.take i).length + ((l.drop i).length + 1) := by rw [List.length_append]; rfl
  rw [this, List.length_take, List.length_drop]; omega
theorem rowP_cons (x : Pr) (l : List Pr) : rowP (x :: l) = [.int .i64 x.1, .int .i64 x.2] ++ rowP l := by simp [rowP]
theorem ins_row {g n cap i base : Nat} {l : List Pr} {k v : Int} {cur : List Value} {W : World} (hl : l.length = n) (hi : i ≤ n) (hcap : n + 1 ≤ cap) (hcm : cap ≤ maxLen) (hb : base ≤ g) (hsz : cur.length = cap * 2)
    (hg : W.heap[g]? = some (.cells (rowP (l.take i) ++ [Value.int .i64 k, Value.int .i64 v] ++ rowP (l.drop i) ++ cur.drop ((n + 1) * 2)).toArray 57 (0, 0))) :
    W.ownsRow base 57 2 (.slice (some ⟨g, 0, none⟩) (n + 1) cap) (n + 1) (rowP (l.take i ++ (k, v) :: l.drop i)) := by
  have e : rowP (l.take i ++ (k, v) :: l.drop i) = rowP (l.take i) ++ [Value.int .i64 k, Value.int .i64 v] ++ rowP (l.drop i) := by rw [rowP_append, rowP_cons, List.append_assoc]
  have hlen : (rowP (l.take i ++ (k, v) :: l.drop i)).length = (n + 1) * 2 := by rw [rowP_len, ins_len l i _ (by omega), hl]
  refine ⟨hlen, .inr ⟨g, cap, _, rfl, hb, hg, hcap, hcm, ?_, ?_⟩⟩
  · rw [← e]
    simp only [List.size_toArray, List.length_append, hlen, List.length_drop, hsz]
    omega
  · rw [← e]
    show ((rowP (l.take i ++ (k, v) :: l.drop i)) ++ cur.drop ((n + 1) * 2)).take ((n + 1) * 2) = _
    exact List.take_left' hlen
set_option maxRecDepth 100000 in
set_option maxHeartbeats 8000000 in
theorem insert_room (base g n cap i vb : Nat) (l : List Pr) (k v : Int) (cur : List Value) (hl : l.length = n) (hi : i < n) (hn : n ≤ 1000) (hroom : n + 1 ≤ cap) (hcm : cap ≤ maxLen) (hb : base ≤ g) (hsz : cur.length = cap * 2) (htk : cur.take (n * 2) = rowP l) (hne : vb ≠ g)
    (w : World) (hg : w.heap[g]? = some (.cells cur.toArray 57 (0, 0))) (hv : ObjAt w vb #[.int .i64 k, .int .i64 v] 57) :
    Calls Try.prog 64 #[.slice (some ⟨g, 0, none⟩) n cap, .int .i64 i, .slice (some ⟨vb, 0, none⟩) 1 1] w (InsRet base (n + 1) (l.take i ++ (k, v) :: l.drop i) w) := by
  have hcm' := hcm
  unfold maxLen at hcm'
  have hLl : (rowP (l.take i)).length = i * 2 := by rw [rowP_len, List.length_take]; omega
  have hRl : (rowP (l.drop i)).length = (n - i) * 2 := by rw [rowP_len, List.length_drop, hl]
  have hLR : rowP l = rowP (l.take i) ++ rowP (l.drop i) := by rw [← rowP_append, List.take_append_drop]
  have hins := ins_cells cur (rowP (l.take i)) [.int .i64 k, .int .i64 v] (rowP (l.drop i)) (by rw [hLl, hRl, ← hLR, ← htk]; congr 1; omega) (by rw [hLl, hRl, hsz]; simp; omega)
  have hcell : ∀ j u, (rowP (l.drop i))[j]? = some u → w.cell? ⟨g, i * 2 + j, none⟩ = some u := fun j u hj => by
    have h1 : j < (n - i) * 2 := by rw [← hRl]; exact (List.getElem?_eq_some_iff.1 hj).1
    have h2 : (cur.take (n * 2))[i * 2 + j]? = some u := by
      rw [htk, hLR, List.getElem?_append_right (by omega), hLl, Nat.add_sub_cancel_left]; exact hj
    rw [List.getElem?_take, if_pos (by omega)] at h2
    simp [World.cell?, hg, h2]
  have h2l : ([.int .i64 k, .int .i64 v] : List Value).length = 2 := rfl
  rw [hLl, h2l] at hins
  dsimp only at hins
  generalize hR : rowP (l.drop i) = R at hRl hcell hins
  have hR1 : ∀ u ∈ R, u.oneCell' = true := by rw [← hR]; exact rowP_one _
  obtain ⟨c1, hc1⟩ : ∃ c1, c1 = cur.take (i * 2 + 2) ++ R ++ cur.drop (i * 2 + 2 + R.length) := ⟨_, rfl⟩
  rw [← hc1] at hins
  have hc1l : c1.length = cap * 2 := by rw [hc1]; simp only [List.length_append, List.length_take, List.length_drop, hsz, hRl]; omega
  have hov : ∀ lb cb, (callFunc 69 #[.slice (some ⟨vb, 0, none⟩) 1 1, .slice (some ⟨g, (i + 1) * 2, none⟩) lb cb]).run Try.prog w = .ok (.value (.bool false)) w := fun lb cb => by
    rw [run_callFunc_extern Try.func69 (by kernel_rfl) (by kernel_rfl) (by kernel_rfl) (e := Extern.SlicesOverlaps.overlaps #[43, 43] #[4]) (by kernel_rfl),
      Lib.run_overlaps_apart w 43 4 57 Try.underlying43 2 Try.sizeOf57 ⟨vb, 0, none⟩ ⟨g, (i + 1) * 2, none⟩ 1 1 lb cb hne 57 57 2 (cap * 2) (by simp [World.shape?, show w.heap[vb]? = _ from hv]) (by simp [World.shape?, hg, hsz]) (by omega) (hv.frozen 0) (hv.frozen 2)]
    rfl
  have hcp1 : ∀ ty dc sc, (Builtin.copy_ #[43, 43] ty #[.slice (some ⟨g, (i + 1) * 2, none⟩) (n - i) dc, .slice (some ⟨g, i * 2, none⟩) (n + 1 - i) sc]).run Try.prog w.drew = .ok (goInt (n - i : Nat)) (w.drew.setRow g c1.toArray) := fun ty dc sc => by
    have := run_copy2 w.drew ty g ((i + 1) * 2) (n - i) dc ⟨g, i * 2, none⟩ (n + 1 - i) sc (n - i) cur 57 R hg (by simp only [Nat.min_def]; split <;> omega) hRl
      (fun j u hj => by rw [Addr.add_lit]; exact hcell j u hj) (by rw [hRl, hsz]; omega) hR1
    rw [this, hc1, show (i + 1) * 2 = i * 2 + 2 by omega]
  have hcp2 : ∀ (W : World), W.heap[g]? = some (.cells c1.toArray 57 (0, 0)) → W.cell? ⟨vb, 0, none⟩ = some (.int .i64 k) → W.cell? ⟨vb, 1, none⟩ = some (.int .i64 v) → ∀ ty dc, (Builtin.copy_ #[43, 43] ty #[.slice (some ⟨g, i * 2, none⟩) (n + 1 - i) dc, .slice (some ⟨vb, 0, none⟩) 1 1]).run Try.prog W = .ok (goInt (1 : Nat)) (W.setRow g (c1.take (i * 2) ++ [Value.int .i64 k, Value.int .i64 v] ++ c1.drop (i * 2 + 2)).toArray) := fun W hW w0 w1 ty dc =>
    run_copy2 W ty g (i * 2) (n + 1 - i) dc ⟨vb, 0, none⟩ 1 1 1 c1 57 [.int .i64 k, .int .i64 v] hW (by simp only [Nat.min_def]; split <;> omega) rfl
      (fun j u hj => by
        match j, hj with
        | 0, hj => simp at hj; subst hj; simpa [Addr.add] using w0
        | 1, hj => simp at hj; subst hj; simpa [Addr.add] using w1) (by rw [hc1l]; simp; omega) (fun u hu => by simp at hu; rcases hu with rfl | rfl <;> rfl)
  have hg1 : (w.drew.setRow g c1.toArray).heap[g]? = some (.cells c1.toArray 57 (0, 0)) := setRow_heap w.drew g _ _ 57 _ hg
  have hv1 : (w.drew.setRow g c1.toArray).heap[vb]? = some (.cells #[.int .i64 k, .int .i64 v] 57 (0, 0)) := (setRow_other w.drew g vb _ hne).trans hv
  have hk0 : (w.drew.setRow g c1.toArray).cell? ⟨vb, 0, none⟩ = some (.int .i64 k) := by simp [World.cell?, hv1]
  have hk1 : (w.drew.setRow g c1.toArray).cell? ⟨vb, 1, none⟩ = some (.int .i64 v) := by simp [World.cell?, hv1]
  have B1 : Below base w (w.drew.setRow g c1.toArray) := below_setRow (bdrew1 (Below.refl _ w)) hb _
  have HINS := Go.Lib.hid hins
  have HR := Go.Lib.hid hR
  have HRL := Go.Lib.hid hRl
  have HL := Go.Lib.hid hl
  have HSZ := Go.Lib.hid hsz
  have hcp2' := hcp2 _ hg1 hk0 hk1
  have hw1 : IntKind.i64.wrap ((i : Int) + 1) = (i : Int) + 1 := by rw [IntKind.wrap_i64]; omega
  have hb1 : (0 : Int) ≤ (i : Int) + 1 := by omega
  have hb3 : (i : Int) ≤ (n : Int) + 1 := by omega
  have htn : ((i : Int) + 1).toNat = i + 1 := by omega
  have hz2 : ¬ ((i : Int) = (n : Int)) := by omega
  have hb2 : ¬ (cap = i + 1) := by omega
  have hin : i ≤ n := by omega
  have hin1 : i ≤ n + 1 := by omega
  have hb4 : ¬ (cap = i) := by omega
  clear hins hR hRl hl hsz hc1 hc1l hcp2 hLl hLR htk h2l hcell hR1
  go_enter Try.func64, Try.ntmps64
  go_wp2_with (simp only [hov])
  go_region_law (refine step_copy_runI rfl _ _ 43 43 rfl (.slice (some ⟨g, (i + 1) * 2, none⟩) (n - i) (cap - (i + 1))) (.slice (some ⟨g, i * 2, none⟩) (n + 1 - i) (cap - i)) (by simp [Act.eval, Act.put]) (by simp [Act.eval, Act.put]) (hcp1 _ _ _) ?_)
  go_wp2_with (at_builtin; refine wpList_copy_runI _ rfl _ _ 43 43 rfl _ _ rfl rfl (hcp2' _ _) ?_)
  go_ret
  refine ⟨some ⟨g, 0, none⟩, cap, rfl, ?_, below_setRow B1 hb _⟩
  refine ins_row HL.out (by omega) hroom hcm hb HSZ.out (cur := cur) ?_
  rw [HR.out]
  have hg2 := setRow_heap (w.drew.setRow g c1.toArray) g _ (c1.take (i * 2) ++ [Value.int .i64 k, Value.int .i64 v] ++ c1.drop (i * 2 + 2)).toArray 57 _ hg1
  have ea : c1.take (i * 2) ++ (Value.int .i64 k :: Value.int .i64 v :: c1.drop (i * 2 + 2)) = c1.take (i * 2) ++ [Value.int .i64 k, Value.int .i64 v] ++ c1.drop (i * 2 + 2) := by simp
  rw [HINS.out, show i * 2 + 2 + R.length = (n + 1) * 2 by rw [HRL.out]; omega] at hg2 ea
  rw [ea]
  exact hg2
end Go.Proofs.Ytjdjfokfilnnoaa
