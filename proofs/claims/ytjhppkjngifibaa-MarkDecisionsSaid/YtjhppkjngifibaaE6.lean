/- Layer 23: slices.Insert of one property. -/
import Derived.Test.YtjhppkjngifibaaE4
import Derived.Shelf.Spec.SlicesInsert
import Derived.Lib.AppendZerosOnto
import Derived.Laws.CopyOwn
import Derived.Deep.RegionLaw
import Derived.WalkSpells
namespace Go.Proofs.Ytjhppkjngifibaa
open Go.RowKit Go.Lib
set_option linter.unusedVariables false

section
variable {W : World} {b : Nat} {t : TypeId}
theorem ObjAt.q0 {x y z u : Value} (h : ObjAt W b #[x, y, z, u] t) : W.cell? ⟨b, 0, none⟩ = some x := h.get rfl
theorem ObjAt.q1 {x y z u : Value} (h : ObjAt W b #[x, y, z, u] t) : W.cell? ⟨b, 1, none⟩ = some y := h.get rfl
theorem ObjAt.q2 {x y z u : Value} (h : ObjAt W b #[x, y, z, u] t) : W.cell? ⟨b, 2, none⟩ = some z := h.get rfl
theorem ObjAt.q3 {x y z u : Value} (h : ObjAt W b #[x, y, z, u] t) : W.cell? ⟨b, 3, none⟩ = some u := h.get rfl
end
theorem run_copyP (w : World) (ty : TypeId) (g o dLen dCap : Nat) (a : Addr) (sLen sCap m : Nat) (cur : List Value) (t : TypeId) (cs : List Value)
    (hg : w.heap[g]? = some (.cells cur.toArray t (0, 0))) (hm : Nat.min sLen dLen = m) (hn : cs.length = m * 2)
    (hsrc : ∀ j v, cs[j]? = some v → w.cell? (a.add j) = some v) (hfit : o + cs.length ≤ cur.length) (h1 : ∀ v ∈ cs, v.oneCell' = true) :
    (Builtin.copy_ #[22, 22] ty #[.slice (some ⟨g, o, none⟩) dLen dCap, .slice (some a) sLen sCap]).run Try.prog w =
      .ok (goInt m) (w.setRow g (cur.take o ++ cs ++ cur.drop (o + cs.length)).toArray) := by
  have hl := run_loadCells_list (P := Try.prog) w a cs hsrc
  have hst := run_storeCells_at Try.prog g o t cs 0 cur.toArray w hg (by simpa using hfit) h1
  obtain ⟨i0, hi, hz0, hz1, hz2⟩ := info_parts info61
  rw [hn] at hl hst
  simp [Builtin.copy_, run_underlying Try.underlying22, Builtin.lenOf, Builtin.firstCells, sizeOf, typeInfo, hi, hz1, hm, hl, hst, hn]
/-- The row behind both copies. -/
theorem ins_cells {α : Type} (cur L M R : List α) (h : cur.take (L.length + R.length) = L ++ R) (hl : L.length + M.length + R.length ≤ cur.length) :
    (let c1 := cur.take (L.length + M.length) ++ R ++ cur.drop (L.length + M.length + R.length); c1.take L.length ++ M ++ c1.drop (L.length + M.length)) = L ++ M ++ R ++ cur.drop (L.length + M.length + R.length) := by
  dsimp only
  have h1 : cur.take L.length = L := by
    have := congrArg (List.take L.length) h
    rw [List.take_take, Nat.min_eq_left (by omega), List.take_left] at this
    exact this
  have hA : (cur.take (L.length + M.length)).length = L.length + M.length := by rw [List.length_take]; omega
  have h2 : (cur.take (L.length + M.length) ++ R ++ cur.drop (L.length + M.length + R.length)).take L.length = L := by
    rw [List.append_assoc, List.take_append_of_le_length (by omega), List.take_take, Nat.min_eq_left (by omega), h1]
  have h3 : (cur.take (L.length + M.length) ++ R ++ cur.drop (L.length + M.length + R.length)).drop (L.length + M.length) = R ++ cur.drop (L.length + M.length + R.length) := by
    rw [List.append_assoc, List.drop_append_of_le_length (by omega), List.drop_eq_nil_of_le (by omega), List.nil_append]
  rw [h2, h3]
  simp [List.append_assoc]
theorem insP_len (l : List Pr) (i : Nat) (x : Pr) (h : i ≤ l.length) : (l.take i ++ x :: l.drop i).length = l.length + 1 := by
  have : (l.take i ++ x :: l.drop i).length = (l.take i).length + ((l.drop i).length + 1) := by rw [List.length_append]; rfl
  rw [this, List.length_take, List.length_drop]; omega
theorem insP_row {g n cap i base : Nat} {l : List Pr} {xa : Int} {xb : Int} {cur : List Value} {W : World} (hl : l.length = n) (hi : i ≤ n) (hcap : n + 1 ≤ cap) (hcm : cap ≤ maxLen) (hb : base ≤ g) (hsz : cur.length = cap * 2)
    (hg : W.heap[g]? = some (.cells (rowP (l.take i) ++ [Value.int .i64 xa, Value.int .i64 xb] ++ rowP (l.drop i) ++ cur.drop ((n + 1) * 2)).toArray 61 (0, 0))) :
    W.ownsRow base 61 2 (.slice (some ⟨g, 0, none⟩) (n + 1) cap) (n + 1) (rowP (l.take i ++ (xa, xb) :: l.drop i)) := by
  have e : rowP (l.take i ++ (xa, xb) :: l.drop i) = rowP (l.take i) ++ [Value.int .i64 xa, Value.int .i64 xb] ++ rowP (l.drop i) := by rw [rowP_append, rowP_cons, List.append_assoc]; rfl
  have hlen : (rowP (l.take i ++ (xa, xb) :: l.drop i)).length = (n + 1) * 2 := by rw [rowP_len, insP_len l i _ (by omega), hl]
  refine ⟨hlen, .inr ⟨g, cap, _, rfl, hb, hg, hcap, hcm, ?_, ?_⟩⟩
  · rw [← e]
    simp only [List.size_toArray, List.length_append, hlen, List.length_drop, hsz]
    omega
  · rw [← e]
    show ((rowP (l.take i ++ (xa, xb) :: l.drop i)) ++ cur.drop ((n + 1) * 2)).take ((n + 1) * 2) = _
    exact List.take_left' hlen
set_option maxRecDepth 100000 in
set_option maxHeartbeats 8000000 in
theorem insertP_room (base g n cap i vb : Nat) (l : List Pr) (xa : Int) (xb : Int) (cur : List Value) (hl : l.length = n) (hi : i < n) (hn : n ≤ 100000) (hroom : n + 1 ≤ cap) (hcm : cap ≤ maxLen) (hb : base ≤ g) (hsz : cur.length = cap * 2) (htk : cur.take (n * 2) = rowP l) (hne : vb ≠ g)
    (w : World) (hg : w.heap[g]? = some (.cells cur.toArray 61 (0, 0))) (hv : ObjAt w vb #[.int .i64 xa, .int .i64 xb] 61) :
    Calls Try.prog 112 #[.slice (some ⟨g, 0, none⟩) n cap, .int .i64 i, .slice (some ⟨vb, 0, none⟩) 1 1] w (OwP base (n + 1) (l.take i ++ (xa, xb) :: l.drop i) w) := by
  have hcm' := hcm
  unfold maxLen at hcm'
  have hLl : (rowP (l.take i)).length = i * 2 := by rw [rowP_len, List.length_take]; omega
  have hRl : (rowP (l.drop i)).length = (n - i) * 2 := by rw [rowP_len, List.length_drop, hl]
  have hLR : rowP l = rowP (l.take i) ++ rowP (l.drop i) := by rw [← rowP_append, List.take_append_drop]
  have hins := ins_cells cur (rowP (l.take i)) [.int .i64 xa, .int .i64 xb] (rowP (l.drop i)) (by rw [hLl, hRl, ← hLR, ← htk]; congr 1; omega) (by rw [hLl, hRl, hsz]; simp; omega)
  have hcell : ∀ j u, (rowP (l.drop i))[j]? = some u → w.cell? ⟨g, i * 2 + j, none⟩ = some u := fun j u hj => by
    have h1 : j < (n - i) * 2 := by rw [← hRl]; exact (List.getElem?_eq_some_iff.1 hj).1
    have h2 : (cur.take (n * 2))[i * 2 + j]? = some u := by
      rw [htk, hLR, List.getElem?_append_right (by omega), hLl, Nat.add_sub_cancel_left]; exact hj
    rw [List.getElem?_take, if_pos (by omega)] at h2
    simp [World.cell?, hg, h2]
  have h2l : ([.int .i64 xa, .int .i64 xb] : List Value).length = 2 := rfl
  rw [hLl, h2l] at hins
  dsimp only at hins
  generalize hR : rowP (l.drop i) = R at hRl hcell hins
  have hR1 : ∀ u ∈ R, u.oneCell' = true := by rw [← hR]; exact rowP_one _
  obtain ⟨c1, hc1⟩ : ∃ c1, c1 = cur.take (i * 2 + 2) ++ R ++ cur.drop (i * 2 + 2 + R.length) := ⟨_, rfl⟩
  rw [← hc1] at hins
  have hc1l : c1.length = cap * 2 := by rw [hc1]; simp only [List.length_append, List.length_take, List.length_drop, hsz, hRl]; omega
  have hov : ∀ lb cb, (callFunc 120 #[.slice (some ⟨vb, 0, none⟩) 1 1, .slice (some ⟨g, (i + 1) * 2, none⟩) lb cb]).run Try.prog w = .ok (.value (.bool false)) w := fun lb cb => by
    rw [run_callFunc_extern Try.func120 (by kernel_rfl) (by kernel_rfl) (by kernel_rfl) (e := Extern.SlicesOverlaps.overlaps #[22, 22] #[4]) (by kernel_rfl),
      Lib.run_overlaps_apart w 22 4 61 Try.underlying22 2 Try.sizeOf61 ⟨vb, 0, none⟩ ⟨g, (i + 1) * 2, none⟩ 1 1 lb cb hne 61 61 2 (cap * 2) (by simp [World.shape?, show w.heap[vb]? = _ from hv]) (by simp [World.shape?, hg, hsz]) (by omega) (hv.frozen 0) (hv.frozen 2)]
    rfl
  have hcp1 : ∀ ty dc sc, (Builtin.copy_ #[22, 22] ty #[.slice (some ⟨g, (i + 1) * 2, none⟩) (n - i) dc, .slice (some ⟨g, i * 2, none⟩) (n + 1 - i) sc]).run Try.prog w.drew = .ok (goInt (n - i : Nat)) (w.drew.setRow g c1.toArray) := fun ty dc sc => by
    have := run_copyP w.drew ty g ((i + 1) * 2) (n - i) dc ⟨g, i * 2, none⟩ (n + 1 - i) sc (n - i) cur 61 R hg (by simp only [Nat.min_def]; split <;> omega) hRl
      (fun j u hj => by rw [Addr.add_lit]; exact hcell j u hj) (by rw [hRl, hsz]; omega) hR1
    rw [this, hc1, show (i + 1) * 2 = i * 2 + 2 by omega]
  have hcp2 : ∀ (W : World), W.heap[g]? = some (.cells c1.toArray 61 (0, 0)) → W.cell? ⟨vb, 0, none⟩ = some (.int .i64 xa) → W.cell? ⟨vb, 1, none⟩ = some (.int .i64 xb) → ∀ ty dc, (Builtin.copy_ #[22, 22] ty #[.slice (some ⟨g, i * 2, none⟩) (n + 1 - i) dc, .slice (some ⟨vb, 0, none⟩) 1 1]).run Try.prog W = .ok (goInt (1 : Nat)) (W.setRow g (c1.take (i * 2) ++ [Value.int .i64 xa, Value.int .i64 xb] ++ c1.drop (i * 2 + 2)).toArray) := fun W hW w0 w1 ty dc =>
    run_copyP W ty g (i * 2) (n + 1 - i) dc ⟨vb, 0, none⟩ 1 1 1 c1 61 [.int .i64 xa, .int .i64 xb] hW (by simp only [Nat.min_def]; split <;> omega) rfl
      (fun j u hj => by
        match j, hj with
        | 0, hj => simp at hj; subst hj; simpa [Addr.add] using w0
        | 1, hj => simp at hj; subst hj; simpa [Addr.add] using w1) (by rw [hc1l]; simp; omega) (fun u hu => by simp at hu; rcases hu with rfl | rfl <;> rfl)
  have hg1 : (w.drew.setRow g c1.toArray).heap[g]? = some (.cells c1.toArray 61 (0, 0)) := setRow_heap w.drew g _ _ 61 _ hg
  have hv1 : (w.drew.setRow g c1.toArray).heap[vb]? = some (.cells #[.int .i64 xa, .int .i64 xb] 61 (0, 0)) := (setRow_other w.drew g vb _ hne).trans hv
  have hk0 : (w.drew.setRow g c1.toArray).cell? ⟨vb, 0, none⟩ = some (.int .i64 xa) := by simp [World.cell?, hv1]
  have hk1 : (w.drew.setRow g c1.toArray).cell? ⟨vb, 1, none⟩ = some (.int .i64 xb) := by simp [World.cell?, hv1]
  have B1 : Below base w (w.drew.setRow g c1.toArray) := below_setRow (bdrew1 (Below.refl _ w)) hb _
  have HINS := Go.Lib.hid hins
  have HR := Go.Lib.hid hR
  have HRL := Go.Lib.hid hRl
  have HL := Go.Lib.hid hl
  have HSZ := Go.Lib.hid hsz
  have hcp2' := hcp2 _ hg1 hk0 hk1
  have hw1 : IntKind.i64.wrap ((i : Int) + 1) = (i : Int) + 1 := by rw [IntKind.wrap_i64]; omega
  have hb1 : (0 : Int) ≤ (i : Int) + 1 := by omega
  have hb3 : (i : Int) ≤ (n : Int) + 1 := by omega
  have htn : ((i : Int) + 1).toNat = i + 1 := by omega
  have hz2 : ¬ ((i : Int) = (n : Int)) := by omega
  have hb2 : ¬ (cap = i + 1) := by omega
  have hin : i ≤ n := by omega
  have hin1 : i ≤ n + 1 := by omega
  have hb4 : ¬ (cap = i) := by omega
  clear hins hR hRl hl hsz hc1 hc1l hcp2 hLl hLR htk h2l hcell hR1
  go_enter Try.func112, Try.ntmps112
  go_wp2_with (simp only [hov])
  go_region_law (refine step_copy_runI rfl _ _ 22 22 rfl (.slice (some ⟨g, (i + 1) * 2, none⟩) (n - i) (cap - (i + 1))) (.slice (some ⟨g, i * 2, none⟩) (n + 1 - i) (cap - i)) (by simp [Act.eval, Act.put]) (by simp [Act.eval, Act.put]) (hcp1 _ _ _) ?_)
  go_wp2_with (at_builtin; refine wpList_copy_runI _ rfl _ _ 22 22 rfl _ _ rfl rfl (hcp2' _ _) ?_)
  go_ret
  refine ⟨some ⟨g, 0, none⟩, cap, rfl, ?_, below_setRow B1 hb _⟩
  refine insP_row HL.out (by omega) hroom hcm hb HSZ.out (cur := cur) ?_
  rw [HR.out]
  have hg2 := setRow_heap (w.drew.setRow g c1.toArray) g _ (c1.take (i * 2) ++ [Value.int .i64 xa, Value.int .i64 xb] ++ c1.drop (i * 2 + 2)).toArray 61 _ hg1
  have ea : c1.take (i * 2) ++ (Value.int .i64 xa :: Value.int .i64 xb :: c1.drop (i * 2 + 2)) = c1.take (i * 2) ++ [Value.int .i64 xa, Value.int .i64 xb] ++ c1.drop (i * 2 + 2) := by simp
  rw [HINS.out, show i * 2 + 2 + R.length = (n + 1) * 2 by rw [HRL.out]; omega] at hg2 ea
  rw [ea]
  exact hg2
theorem zeroP_size (k : Nat) : (Builtin.zeroCells (Value.agg #[.int .i64 0, .int .i64 0]).cells k).size = k * 2 := by simp [Builtin.zeroCells, Value.cells]
/-- The row behind both copies into new memory. -/
theorem grow_cells {α : Type} (cur L M R : List α) (h : cur.take L.length = L) (_ : L.length + M.length + R.length ≤ cur.length) :
    (let c1 := cur.take L.length ++ M ++ cur.drop (L.length + M.length); c1.take (L.length + M.length) ++ R ++ c1.drop (L.length + M.length + R.length)) = L ++ M ++ R ++ cur.drop (L.length + M.length + R.length) := by
  dsimp only
  rw [h]
  have hA : (L ++ M).length = L.length + M.length := List.length_append
  rw [List.take_left' hA, ← hA, List.drop_append, List.drop_drop, List.drop_eq_nil_of_le (by omega : (L ++ M).length ≤ (L ++ M).length + R.length), List.nil_append]
  congr 2
  omega
set_option maxRecDepth 100000 in
set_option maxHeartbeats 8000000 in
theorem insertP_grow (w : World) (base g n i vb : Nat) (l : List Pr) (xa : Int) (xb : Int) (cur : List Value) (hl : l.length = n) (hi : i < n) (hn : n ≤ 100000) (hbw : base ≤ w.heap.size) (_ : cur.length = n * 2) (htk : cur.take (n * 2) = rowP l)
    (hg : w.heap[g]? = some (.cells cur.toArray 61 (0, 0))) (hv : ObjAt w vb #[.int .i64 xa, .int .i64 xb] 61) :
    Calls Try.prog 112 #[.slice (some ⟨g, 0, none⟩) n n, .int .i64 i, .slice (some ⟨vb, 0, none⟩) 1 1] w (OwP base (n + 1) (l.take i ++ (xa, xb) :: l.drop i) w) := by
  obtain ⟨i0, hi0, hz0, hzs, hzb⟩ := info_parts info61
  have hLl : (rowP (l.take i)).length = i * 2 := by rw [rowP_len, List.length_take]; omega
  have hRl : (rowP (l.drop i)).length = (n - i) * 2 := by rw [rowP_len, List.length_drop, hl]
  have hLR : rowP l = rowP (l.take i) ++ rowP (l.drop i) := by rw [← rowP_append, List.take_append_drop]
  have hgw : g < w.heap.size := (Array.getElem?_eq_some_iff.1 hg).1
  have hvw : vb < w.heap.size := hv.lt
  have hcur : ∀ j u, (rowP l)[j]? = some u → w.cell? ⟨g, j, none⟩ = some u := fun j u hj => by
    rw [← htk] at hj
    rw [List.getElem?_take] at hj
    split at hj
    · simp [World.cell?, hg, hj]
    · cases hj
  have hcell : ∀ j u, (rowP (l.drop i))[j]? = some u → w.cell? ⟨g, i * 2 + j, none⟩ = some u := fun j u hj => hcur _ u (by rw [hLR, List.getElem?_append_right (by omega), hLl, Nat.add_sub_cancel_left]; exact hj)
  have hold : (Builtin.firstCells i0.size i (.slice (some ⟨g, 0, none⟩) i n)).run Try.prog w.drew = .ok (rowP (l.take i)).toArray w.drew := by
    rw [hzs]
    exact run_firstCells_some w.drew 2 i ⟨g, 0, none⟩ i n (rowP (l.take i)) (by rw [hLl]) (fun j u hj => by
      rw [Addr.add_lit, Nat.zero_add]
      exact hcur j u (by rw [hLR, List.getElem?_append_left (List.getElem?_eq_some_iff.1 hj).1]; exact hj))
  obtain ⟨G, hG⟩ : ∃ G, G = grownCap w (n + 1) n 61 := ⟨_, rfl⟩
  have hGn : n + 1 ≤ G := by rw [hG]; exact grownCap_ge w _ _ _
  have hGm : G ≤ maxLen := by rw [hG]; exact grownCap_le_maxLen w (n + 1) n 61 (by unfold maxLen; omega)
  obtain ⟨ROW, hROW⟩ : ∃ ROW : List Value, ROW.toArray = (rowP (l.take i)).toArray ++ Builtin.zeroCells (Value.agg #[.int .i64 0, .int .i64 0]).cells (n + 1 - i) ++ Builtin.zeroCells (Value.agg #[.int .i64 0, .int .i64 0]).cells (G - (n + 1)) := ⟨((rowP (l.take i)).toArray ++ Builtin.zeroCells (Value.agg #[.int .i64 0, .int .i64 0]).cells (n + 1 - i) ++ Builtin.zeroCells (Value.agg #[.int .i64 0, .int .i64 0]).cells (G - (n + 1))).toList, by simp⟩
  have hrz : ∀ ty, (Builtin.append_ #[22, 3] ty #[.slice (some ⟨g, 0, none⟩) i n, .int .i64 ((n : Int) + 1 - (i : Int))]).run Try.prog w = .ok (.slice (some ⟨w.heap.size, 0, none⟩) (n + 1) G) (w.drew.alloc (.cells ROW.toArray 61)) := fun ty => by
    have h := Lib.run_append_grow_zeros w 22 3 ty 61 i0 _ .i64 .i64 Try.underlying22 Try.underlying3 hi0 hz0 (some ⟨g, 0, none⟩) i n (rowP (l.take i)) hold (n + 1 - i) (by omega) (by omega) (by omega) (by omega) (by rw [hzb]; omega) (by rw [hzb, show i + (n + 1 - i) = n + 1 by omega]; exact growslice_fits (by omega) (by omega))
    rw [show i + (n + 1 - i) = n + 1 by omega] at h
    rw [show (n : Int) + 1 - (i : Int) = ((n + 1 - i : Nat) : Int) by omega, hROW, hG]
    exact h
  have hRowL : ROW.length = G * 2 := by
    have := congrArg Array.size hROW
    simp only [List.size_toArray, Array.size_append, zeroP_size, hLl] at this
    omega
  have hRowT : ROW.take (i * 2) = rowP (l.take i) := by
    have := congrArg Array.toList hROW
    simp only [Array.toList_append] at this
    rw [this, List.append_assoc, List.take_left' hLl]
  have h2l : ([Value.int .i64 xa, Value.int .i64 xb] : List Value).length = 2 := rfl
  have hins := grow_cells ROW (rowP (l.take i)) [Value.int .i64 xa, Value.int .i64 xb] (rowP (l.drop i)) (by rw [hLl]; exact hRowT) (by rw [hLl, hRl, hRowL, h2l]; omega)
  rw [hLl, h2l] at hins
  dsimp only at hins
  generalize hR : rowP (l.drop i) = R at hRl hcell hins
  have hR1 : ∀ u ∈ R, u.oneCell' = true := by rw [← hR]; exact rowP_one _
  obtain ⟨c1, hc1⟩ : ∃ c1, c1 = ROW.take (i * 2) ++ [Value.int .i64 xa, Value.int .i64 xb] ++ ROW.drop (i * 2 + 2) := ⟨_, rfl⟩
  rw [← hc1] at hins
  have hc1l : c1.length = G * 2 := by rw [hc1]; simp only [List.length_append, List.length_take, List.length_drop, hRowL, h2l]; omega
  obtain ⟨H, hH⟩ : ∃ H, H = w.heap.size := ⟨_, rfl⟩
  have hcpA : ∀ (W : World), W.heap[H]? = some (.cells ROW.toArray 61 (0, 0)) → W.cell? ⟨vb, 0, none⟩ = some (.int .i64 xa) → W.cell? ⟨vb, 1, none⟩ = some (.int .i64 xb) → ∀ ty dc, (Builtin.copy_ #[22, 22] ty #[.slice (some ⟨H, i * 2, none⟩) (n + 1 - i) dc, .slice (some ⟨vb, 0, none⟩) 1 1]).run Try.prog W = .ok (goInt (1 : Nat)) (W.setRow H c1.toArray) := fun W hW w0 w1 ty dc => by
    have := run_copyP W ty H (i * 2) (n + 1 - i) dc ⟨vb, 0, none⟩ 1 1 1 ROW 61 [Value.int .i64 xa, Value.int .i64 xb] hW (by simp only [Nat.min_def]; split <;> omega) rfl
      (fun j u hj => by
        match j, hj with
        | 0, hj => simp at hj; subst hj; simpa [Addr.add] using w0
        | 1, hj => simp at hj; subst hj; simpa [Addr.add] using w1) (by rw [hRowL, h2l]; omega) (fun u hu => by simp at hu; rcases hu with rfl | rfl <;> rfl)
    rw [this, hc1, h2l]
  have hcpB : ∀ (W : World), W.heap[H]? = some (.cells c1.toArray 61 (0, 0)) → (∀ j u, R[j]? = some u → W.cell? ⟨g, i * 2 + j, none⟩ = some u) → ∀ ty dc sc, (Builtin.copy_ #[22, 22] ty #[.slice (some ⟨H, (i + 1) * 2, none⟩) (n - i) dc, .slice (some ⟨g, i * 2, none⟩) (n - i) sc]).run Try.prog W = .ok (goInt (n - i : Nat)) (W.setRow H (c1.take (i * 2 + 2) ++ R ++ c1.drop (i * 2 + 2 + R.length)).toArray) := fun W hW hs ty dc sc => by
    have := run_copyP W ty H ((i + 1) * 2) (n - i) dc ⟨g, i * 2, none⟩ (n - i) sc (n - i) c1 61 R hW (by simp only [Nat.min_def]; split <;> omega) hRl
      (fun j u hj => by rw [Addr.add_lit]; exact hs j u hj) (by rw [hRl, hc1l]; omega) hR1
    rw [this, show (i + 1) * 2 = i * 2 + 2 by omega]
  rw [← hH] at hrz
  have hA0 : ((w.alloc (.cells ROW.toArray 61)).drew).heap[H]? = some (.cells ROW.toArray 61 (0, 0)) := by rw [hH]; exact World.alloc_heap_new w _
  have Ba : Below w.heap.size w ((w.alloc (.cells ROW.toArray 61)).drew) := bdrew1 ((Below.refl _ w).alloc (Nat.le_refl _) _)
  have Bb : Below w.heap.size w (((w.alloc (.cells ROW.toArray 61)).drew).setRow H c1.toArray) := below_setRow Ba (by omega) _
  have hk0 := (Ba.cell (p := ⟨vb, 0, none⟩) hvw).trans hv.a0
  have hk1 := (Ba.cell (p := ⟨vb, 1, none⟩) hvw).trans hv.a1
  have hB0 := setRow_heap ((w.alloc (.cells ROW.toArray 61)).drew) H _ c1.toArray 61 _ hA0
  have hB1 : ∀ j u, R[j]? = some u → ((((w.alloc (.cells ROW.toArray 61)).drew).setRow H c1.toArray).drew).cell? ⟨g, i * 2 + j, none⟩ = some u := fun j u hj => ((bdrew1 Bb).cell (p := ⟨g, i * 2 + j, none⟩) hgw).trans (hcell j u hj)
  have hcA := hcpA _ hA0 hk0 hk1
  have hcB := hcpB ((((w.alloc (.cells ROW.toArray 61)).drew).setRow H c1.toArray).drew) hB0 hB1
  have HINS := Go.Lib.hid hins
  have HR := Go.Lib.hid hR
  have HRL := Go.Lib.hid hRl
  have HL := Go.Lib.hid hl
  have HSZ := Go.Lib.hid hRowL
  have HH := Go.Lib.hid hH
  have HBB := Go.Lib.hid Bb
  have HB0 := Go.Lib.hid hB0
  unfold maxLen at hGm
  have hw1 : IntKind.i64.wrap ((i : Int) + 1) = (i : Int) + 1 := by rw [IntKind.wrap_i64]; omega
  have hb1 : (0 : Int) ≤ (i : Int) + 1 := by omega
  have htn : ((i : Int) + 1).toNat = i + 1 := by omega
  have hz2 : ¬ ((i : Int) = (n : Int)) := by omega
  have hz3 : (n : Int) < (n : Int) + 1 := by omega
  have hin : i ≤ n := by omega
  have hni : ¬ (n = i) := by omega
  have hGi : ¬ (G = i) := by omega
  have hGi1 : ¬ (G = i + 1) := by omega
  clear hins hR hRl hl hc1 hc1l hcpA hcpB hLl hLR htk h2l hcell hR1 hcur hold hG hROW hRowL hRowT hH hA0 Ba Bb hk0 hk1 hB0 hB1 hg hv hz0 hzs hzb hi0
  go_enter Try.func112, Try.ntmps112
  go_wp2_with (first
    | (at_builtin; refine Lib.wpList_append_run _ rfl _ _ _ _ rfl _ _ rfl rfl _ _ (hrz _) ?_)
    | (at_builtin; refine wpList_copy_runI _ rfl _ _ 22 22 rfl _ _ rfl rfl (hcA _ _) ?_))
  go_region_law (refine step_copy_runI rfl _ _ 22 22 rfl (.slice (some ⟨H, (i + 1) * 2, none⟩) (n - i) (G - (i + 1))) (.slice (some ⟨g, i * 2, none⟩) (n - i) (n - i)) (by simp [Act.eval, Act.put]) (by simp [Act.eval, Act.put]) (hcB _ _ _) ?_)
  go_wp2
  go_ret
  refine ⟨some ⟨H, 0, none⟩, G, rfl, ?_, (below_setRow (bdrew1 HBB.out) (by rw [HH.out]; exact Nat.le_refl _) _).mono hbw⟩
  refine insP_row HL.out (by omega) hGn (by unfold maxLen; exact hGm) (by rw [HH.out]; exact hbw) HSZ.out (cur := ROW) ?_
  rw [HR.out]
  have hg2 := setRow_heap ((((w.alloc (.cells ROW.toArray 61)).drew).setRow H c1.toArray).drew) H _ (c1.take (i * 2 + 2) ++ (R ++ c1.drop (i * 2 + 2 + R.length))).toArray 61 _ HB0.out
  have e3 : c1.take (i * 2 + 2) ++ (R ++ c1.drop (i * 2 + 2 + R.length)) = rowP (l.take i) ++ [Value.int .i64 xa, Value.int .i64 xb] ++ R ++ ROW.drop ((n + 1) * 2) := by
    rw [← List.append_assoc, HINS.out, show i * 2 + 2 + R.length = (n + 1) * 2 by rw [HRL.out]; omega]
  refine hg2.trans ?_
  rw [e3]
/-- slices.Insert at the end. -/
theorem insertP_end (w : World) (base n vb : Nat) (B : Option Addr) (cb : Nat) (l : List Pr) (xa : Int) (xb : Int) (hl : l.length = n) (hn : n ≤ 100000) (hbw : base ≤ w.heap.size)
    (hown : w.ownsRow base 61 2 (.slice B n cb) n (rowP l)) (hv : ObjAt w vb #[.int .i64 xa, .int .i64 xb] 61) :
    Calls Try.prog 112 #[.slice B n cb, .int .i64 n, .slice (some ⟨vb, 0, none⟩) 1 1] w (OwP base (n + 1) (l.take n ++ (xa, xb) :: l.drop n) w) := by
  obtain ⟨i0, hi, hz0, hz1, hz2⟩ := info_parts info61
  have he : rowP (l.take n ++ (xa, xb) :: l.drop n) = rowP l ++ [.int .i64 xa, .int .i64 xb] := by
    rw [← hl, List.take_length, List.drop_length]; exact rowP_snoc l (xa, xb)
  have hnews : ∀ j u, ([Value.int .i64 xa, Value.int .i64 xb] : List Value)[j]? = some u → w.cell? ((⟨vb, 0, none⟩ : Addr).add j) = some u := fun j u hj => by
    match j, hj with
    | 0, hj => simp at hj; subst hj; simpa [Addr.add] using hv.a0
    | 1, hj => simp at hj; subst hj; simpa [Addr.add] using hv.a1
  have HE := Go.Lib.hid he
  have HNW := Go.Lib.hid hnews
  have hnn : ((n : Int) == (n : Int)) = true := by simp
  clear he hnews hl hv
  rcases hown.2 with ⟨hvv, h0⟩ | ⟨g, cap, cur, hvv, hgb, hgh, hcap, hcm, _⟩
  · injection hvv with h1 h2 h3
    subst h1 h2 h3
    clear h0
    go_enter Try.func112, Try.ntmps112
    go_wp2_with (at_builtin; refine wpList_append_own _ rfl _ _ 22 rfl base 61 i0 (.agg #[.int .i64 0, .int .i64 0]) 2 16 Try.underlying22 hi hz0 hz1 hz2 rfl (by decide) _ _ _ rfl hown ⟨vb, 0, none⟩ 1 1 [.int .i64 xa, .int .i64 xb] rfl rfl HNW.out (by intro u hu; simp at hu; rcases hu with rfl | rfl <;> rfl) (by decide) (by decide) hbw ?_; intro v1 w1 hown1 hgrow1 _; obtain ⟨g1, cap1, rfl⟩ := ownsRow_succ hown1)
    go_ret
    exact ⟨some ⟨g1, 0, none⟩, cap1, rfl, by rw [HE.out]; exact hown1, ((Below.refl _ w).mono hbw).grown hgrow1 hbw (fun j e => (hown.lt j e).1)⟩
  · injection hvv with h1 h2 h3
    clear h2
    subst h1 h3
    unfold maxLen at hcm
    clear hgh
    by_cases hcn : cb = n
    · subst hcn
      go_enter Try.func112, Try.ntmps112
      go_wp2_with (at_builtin; refine wpList_append_own _ rfl _ _ 22 rfl base 61 i0 (.agg #[.int .i64 0, .int .i64 0]) 2 16 Try.underlying22 hi hz0 hz1 hz2 rfl (by decide) _ _ _ rfl hown ⟨vb, 0, none⟩ 1 1 [.int .i64 xa, .int .i64 xb] rfl rfl HNW.out (by intro u hu; simp at hu; rcases hu with rfl | rfl <;> rfl) (by unfold maxLen; omega) (by omega) hbw ?_; intro v1 w1 hown1 hgrow1 _; obtain ⟨g1, cap1, rfl⟩ := ownsRow_succ hown1)
      go_ret
      exact ⟨some ⟨g1, 0, none⟩, cap1, rfl, by rw [HE.out]; exact hown1, ((Below.refl _ w).mono hbw).grown hgrow1 hbw (fun j e => (hown.lt j e).1)⟩
    · go_enter Try.func112, Try.ntmps112
      go_wp2_with (at_builtin; refine wpList_append_own _ rfl _ _ 22 rfl base 61 i0 (.agg #[.int .i64 0, .int .i64 0]) 2 16 Try.underlying22 hi hz0 hz1 hz2 rfl (by decide) _ _ _ rfl hown ⟨vb, 0, none⟩ 1 1 [.int .i64 xa, .int .i64 xb] rfl rfl HNW.out (by intro u hu; simp at hu; rcases hu with rfl | rfl <;> rfl) (by unfold maxLen; omega) (by omega) hbw ?_; intro v1 w1 hown1 hgrow1 _; obtain ⟨g1, cap1, rfl⟩ := ownsRow_succ hown1)
      go_ret
      exact ⟨some ⟨g1, 0, none⟩, cap1, rfl, by rw [HE.out]; exact hown1, ((Below.refl _ w).mono hbw).grown hgrow1 hbw (fun j e => (hown.lt j e).1)⟩
/-- slices.Insert of one property into a list of one's own. -/
theorem insertP_any (w : World) (base n i vb : Nat) (B : Option Addr) (cb : Nat) (l : List Pr) (xa : Int) (xb : Int) (hl : l.length = n) (hi : i ≤ n) (hn : n ≤ 100000) (hbw : base ≤ w.heap.size)
    (hown : w.ownsRow base 61 2 (.slice B n cb) n (rowP l)) (hv : ObjAt w vb #[.int .i64 xa, .int .i64 xb] 61) (hne : B ≠ some ⟨vb, 0, none⟩) :
    Calls Try.prog 112 #[.slice B n cb, .int .i64 i, .slice (some ⟨vb, 0, none⟩) 1 1] w (OwP base (n + 1) (l.take i ++ (xa, xb) :: l.drop i) w) := by
  by_cases hin : i = n
  · subst hin
    exact insertP_end w base i vb B cb l xa xb hl hn hbw hown hv
  rcases hown.2 with ⟨hvv, h0⟩ | ⟨g, cap, cur, hvv, hgb, hgh, hcap, hcm, hsz, htk⟩
  · omega
  · injection hvv with h1 _ h3
    subst h1 h3
    obtain ⟨cur⟩ := cur
    have hne' : vb ≠ g := fun e => hne (by rw [e])
    by_cases hroom : n + 1 ≤ cb
    · exact insertP_room base g n cb i vb l xa xb cur hl (by omega) hn hroom hcm hgb (by simpa using hsz) htk hne' w hgh hv
    · obtain rfl : cb = n := by omega
      exact insertP_grow w base g cb i vb l xa xb cur hl (by omega) hn hbw (by simpa using hsz) htk hgh hv
end Go.Proofs.Ytjhppkjngifibaa
