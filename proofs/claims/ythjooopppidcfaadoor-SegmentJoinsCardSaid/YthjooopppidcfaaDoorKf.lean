/- Layer 3: the program's iterator over tokens. -/
import Derived.Test.YthjooopppidcfaaDoorKd
import Derived.Test.YthjooopppidcfaaDoorSw
import Derived.Test.YthjooopppidcfaaDoorMF
namespace Go.Proofs.YthjooopppidcfaaDoor
open Go.RowKit Go.Shelf Go.Lib
open Gc

attribute [local go_sem] Oper.semAt_some

/-- The iterator's own type of cells: the clusters'. -/
def TC (t : TypeId) : Bool := t == 93

def tokV (x : Int × Nat × Nat) : Value := .agg #[.int .i64 x.1, .int .i64 (x.2.1 : Nat), .int .i64 (x.2.2 : Nat)]
def toU (P : List Nat) (x : Int × Nat × Nat) : Int × Nat × Nat := (x.1, cut P x.2.1, cut P x.2.2)
theorem utok_toU (P : List Nat) : utok P = (Sg.toks (segC P) 0).map (toU P) := rfl

/-- Before the cluster i; pre what has come. -/
def RestT (P : List Nat) (i : Nat) (pre : List (Int × Nat × Nat)) : Prop := i ≤ (segC P).length ∧ utok P = pre ++ (Sg.toks (segC P) i).map (toU P)
theorem RestT.zero (P : List Nat) : RestT P 0 [] := ⟨Nat.zero_le _, rfl⟩
theorem RestT.next {P : List Nat} {i : Nat} {pre : List (Int × Nat × Nat)} (h : RestT P i pre) (hi : i < (segC P).length) :
    RestT P (Sg.tokEnd (segC P) i) (pre ++ [(Sg.tokKind (segC P) i, cut P i, cut P (Sg.tokEnd (segC P) i))]) := by
  refine ⟨(Sg.tokEnd_lt _ i hi).2, ?_⟩
  rw [h.2, Sg.toks_go hi, List.map_cons, List.append_assoc]; rfl
theorem RestT.short {P : List Nat} {i : Nat} {pre : List (Int × Nat × Nat)} (h : RestT P i pre) (hi : i < (segC P).length) : pre.length < (utok P).length := by
  rw [h.2, Sg.toks_go hi, List.length_append, List.map_cons, List.length_cons]; omega
theorem RestT.cutPre {P : List Nat} {i : Nat} {pre : List (Int × Nat × Nat)} (h : RestT P i pre) : pre <+: utok P := ⟨_, h.2.symm⟩
theorem RestT.end {P : List Nat} {i : Nat} {pre : List (Int × Nat × Nat)} (h : RestT P i pre) (hi : ¬ i < (segC P).length) : utok P = pre := by
  rw [h.2, Sg.toks_stop hi, List.map_nil, List.append_nil]

/-- What holds within a round: the text's box, its clusters, what its caller says. -/
structure Mid3 (W0 : World) (Bs g : Nat) (J : List (Int × Nat × Nat) → World → Prop) (pre : List (Int × Nat × Nat)) (W : World) : Prop where
  box : W.heap[Bs]? = W0.heap[Bs]?
  row : W.heap[g]? = W0.heap[g]?
  inj : J pre W
section
variable {W0 W W' : World} {Bs g B : Nat} {J : List (Int × Nat × Nat) → World → Prop} {pre : List (Int × Nat × Nat)}
theorem Mid3.below (h : Mid3 W0 Bs g J pre W) (hJ : AbT TC B J) (hb : Below W.heap.size W W') (h1 : Bs < W0.heap.size) (h2 : g < W0.heap.size) : Mid3 W0 Bs g J pre W' := by
  have key : ∀ k, k < W0.heap.size → W.heap[k]? = W0.heap[k]? → W'.heap[k]? = W0.heap[k]? := fun k hk e => by
    refine (hb.block k ?_).trans e
    have := Array.getElem?_eq_getElem hk
    rw [← e] at this
    exact (Array.getElem?_eq_some_iff.1 this).1
  exact ⟨key Bs h1 h.box, key g h2 h.row, hJ pre W W' none h.inj (grown_below hb rfl) (fun _ e => by cases e)⟩
theorem Mid3.yield (h : Mid3 W0 Bs g J pre W) (hk : Kpt TC Bs W W') {cur : Array Value} (ho : W0.heap[g]? = some (.cells cur 93 (0, 0))) {pre' : List (Int × Nat × Nat)} (hJ' : J pre' W') : Mid3 W0 Bs g J pre' W' :=
  ⟨hk.str.trans h.box, (hk.same g _ (h.row.trans ho) rfl).trans ho.symm, hJ'⟩
theorem Mid3.rows (h : Mid3 W0 Bs g J pre W) {C : List Span} (R : Row W0 g C) : Row W g C := by
  refine ⟨?_, fun k hk => ⟨(World.cell?_of_block (a := ⟨g, k * 3, none⟩) h.row).trans (R.2 k hk).1, (World.cell?_of_block (a := ⟨g, k * 3 + 1, none⟩) h.row).trans (R.2 k hk).2.1, (World.cell?_of_block (a := ⟨g, k * 3 + 2, none⟩) h.row).trans (R.2 k hk).2.2⟩⟩
  have := Array.getElem?_eq_getElem R.1
  rw [← h.row] at this
  exact (Array.getElem?_eq_some_iff.1 this).1
theorem Mid3.cells (h : Mid3 W0 Bs g J pre W) {pv cv : Value} (ho : W0.heap[Bs]? = some (.cells #[pv, cv] 71 (0, 0))) : W.cell? ⟨Bs, 0, none⟩ = some pv ∧ W.cell? ⟨Bs, 1, none⟩ = some cv := by
  have := h.box.trans ho
  refine ⟨?_, ?_⟩ <;> simp [World.cell?, this]
end

/-- How the iterator ends. -/
def TokPost (P : List Nat) (J Jx : List (Int × Nat × Nat) → World → Prop) (e : Ending) (W' : World) : Prop :=
  (∃ v, e = .returned v) ∧ ((∃ xs, xs = utok P ∧ J xs W') ∨ (∃ pre, pre <+: utok P ∧ Jx pre W'))

set_option maxRecDepth 100000 in
set_option maxHeartbeats 4000000 in
theorem toks_gen (n : Nat) (hn : 1 ≤ n) (L Bs g cap pc : Nat) (A : Option Addr) (cur : Array Value) (P : List Nat) (hP : P.length ≤ 1000) (J Jx : List (Int × Nat × Nat) → World → Prop) (W : World)
    (hJ : AbT TC W.heap.size J) (hbox : W.heap[Bs]? = some (.cells #[.slice A P.length pc, .slice (some ⟨g, 0, none⟩) (clu P).length cap] 71 (0, 0))) (hrow : W.heap[g]? = some (.cells cur 93 (0, 0))) (hR : Row W g (clu P))
    (hY : ∀ pre x W1, J pre W1 → pre.length < (utok P).length → YieldAt Fence.wide (n - 1) Tryd.prog L #[tokV x] W1 fun e W' =>
      (e = .returned (.bool true) ∧ J (pre ++ [x]) W' ∧ Kpt TC Bs W1 W') ∨ (e = .returned (.bool false) ∧ Jx (pre ++ [x]) W')) (h0 : J [] W) :
    CallsIn Fence.wide n Tryd.prog 59 #[.func (.yield L) #[] #[], .pointer (some ⟨Bs, 0, none⟩)] W (TokPost P J Jx) := by
  have hBlt : Bs < W.heap.size := (Array.getElem?_eq_some_iff.1 hbox).1
  have hglt := hR.1
  have hlc : (clu P).length ≤ 1000 := Nat.le_trans (clu_le P) hP
  have cK := fun pc' cap' A' i w' hi (R' : Row w' g (clu P)) => tokenAt_any (clu P) g cap' P.length pc' A' i w' hi hlc R'
  have CG := Go.Lib.hid (fun k h => clu_get P k h)
  rw [clu_cls] at cK
  have hls : (segC P).length = (clu P).length := by rw [segC_len, clu_len]
  have HLS := Go.Lib.hid hls
  clear hls
  obtain ⟨m, hm⟩ : ∃ m, (clu P).length = m := ⟨_, rfl⟩
  have HM := Go.Lib.hid hm
  rw [hm] at hlc hbox
  simp only [hm] at cK
  clear hm
  have M0 : Hid (Mid3 W Bs g J [] W) := Go.Lib.hid ⟨rfl, rfl, h0⟩
  have BX := Go.Lib.hid hbox
  have RW := Go.Lib.hid hrow
  have RR := Go.Lib.hid hR
  have JJ := Go.Lib.hid hJ
  have YY := Go.Lib.hid hY
  clear hbox hrow hR h0 hJ hY
  refine callsIn_of_wp Tryd.func59 rfl trivial ?_ rfl
  simp only [Tryd.ntmps59, List.size_toArray, List.length_cons, List.length_nil, Nat.reduceAdd, Nat.reduceSub, Array.replicate_succ, Array.replicate_zero, List.push_toArray, List.append_toArray, List.nil_append, List.cons_append]
  gi_wp2
  gi_loopw [3] (fun s3 wr => ∃ (i : Nat) (pre : List (Int × Nat × Nat)), s3 = .int .i64 (i : Nat) ∧ i ≤ m ∧ Hid (RestT P i pre) ∧ Hid (Mid3 W Bs g J pre wr))
    (fun s3 _ => m - (RowKit.intOf s3).toNat)
  case atStart => exact ⟨0, [], rfl, Nat.zero_le _, Go.Lib.hid (RestT.zero P), M0⟩
  case round =>
    clear M0
    obtain ⟨i, pre, rfl, him, R, M⟩ := hrel
    obtain ⟨hx0, hx1⟩ := M.out.cells BX.out
    by_cases hlt : i < m
    · have hi' : i < (clu P).length := by rw [HM.out]; exact hlt
      have hi3 : i < (segC P).length := by rw [HLS.out]; exact hi'
      have hrw := M.out.rows RR.out
      have ck := cK pc cap A i wr hlt hrw
      have he := Sg.tokEnd_lt (segC P) i hi3
      rw [HLS.out, HM.out] at he
      have HN := Go.Lib.hid (R.out.next hi3)
      have HS := Go.Lib.hid (R.out.short hi3)
      generalize Sg.tokKind (segC P) i = kd at ck HN
      generalize Sg.tokEnd (segC P) i = en at ck HN he
      obtain ⟨e', rfl⟩ : ∃ e', en = e' + 1 := ⟨en - 1, by omega⟩
      have he2 : e' < (clu P).length := by rw [HM.out]; omega
      have cf := (hrw.2 i hi').2.1
      have ct := (hrw.2 e' he2).2.2
      rw [CG.out i hi'] at cf
      rw [CG.out e' he2] at ct
      dsimp only at cf ct
      generalize cut P i = f at cf HN
      generalize cut P (e' + 1) = t at ct HN
      have hs1 : IntKind.i64.wrap (e' : Int) = (e' : Int) := IntWalk.i64_in _ (by omega)
      have S1 := Go.Lib.hid hs1
      have hgw := hrw.1
      clear hs1 R hrw hi' hi3 he2
      gi_wp2_with (refine ⟨trivial, ?_⟩; gi_at_call 60; (with_reducible refine (callsIn_wide.2 ck).mono ?_); rintro e w2 ⟨rfl, hb2⟩)
      refine wpIn_region_still_tail 16 (by kernel_rfl) (by kernel_rfl) ?_
      simp only [List.take_succ_cons, List.take_zero, List.drop_succ_cons, List.drop_zero]
      have hd2 : Below wr.heap.size wr { w2 with drawn := w2.drawn + 1 } := ⟨hb2.os, hb2.tape, hb2.output, hb2.size, hb2.block⟩
      generalize ({ w2 with drawn := w2.drawn + 1 } : World) = w3 at hd2 ⊢
      have M3 := Go.Lib.hid (M.out.below JJ.out hd2 hBlt hglt)
      obtain ⟨y0, y1⟩ := M3.out.cells BX.out
      have cf3 := (hd2.cell (p := ⟨g, i * 3 + 1, none⟩) hgw).trans cf
      have ct3 := (hd2.cell (p := ⟨g, e' * 3 + 2, none⟩) hgw).trans ct
      have hs1 := S1.out
      have hem : e' < m := by omega
      obtain ⟨fn, tmps, assign, body, hy, hRd⟩ := YY.out pre (kd, f, t) w3 M3.out.inj HS.out
      unfold tokV at hy
      dsimp only at hy
      have HY := Go.Lib.hid hy
      have HD2 := Go.Lib.hid hd2.size
      clear cf ct hx0 hx1 hd2 hb2 hy
      repeat still_step
      refine wpStill_nil ?_
      have hy := HY.out
      clear hs1 cf3 ct3 y0 y1
      gi_wp2
      refine hRd.mono ?_
      rintro e w6 (⟨rfl, hJ6, hk6⟩ | ⟨rfl, hJx6⟩)
      · have M6 := Go.Lib.hid (M3.out.yield hk6 RW.out hJ6)
        clear hy
        gi_wp2
        go_roundw
        case rel => exact ⟨e' + 1, pre ++ [(kd, f, t)], by go_num, by omega, HN, M6⟩
        case measure => simp [RowKit.intOf]; omega
      · gi_wp2
        refine bodyPost_ret (results_none rfl _ _ _) rfl ?_
        exact ⟨⟨_, rfl⟩, .inr ⟨pre ++ [(kd, f, t)], HN.out.cutPre, hJx6⟩⟩
    · gi_wp2
      go_end0
      exact ⟨⟨_, rfl⟩, .inl ⟨pre, (R.out.end (by rw [HLS.out, HM.out]; exact hlt)).symm, M.out.inj⟩⟩

/-- A text in memory: its box. -/
def TxtAt (w : World) (Bs : Nat) (P : List Nat) : Prop := ∃ A pc cv, w.heap[Bs]? = some (.cells #[.slice A P.length pc, cv] 71 (0, 0)) ∧ PAt w A P ∧ CObj w cv (clu P)
theorem toks_any (n : Nat) (hn : 1 ≤ n) (Bs : Nat) (P : List Nat) (hP : P.length ≤ 1000) (w : World) (hT : TxtAt w Bs P) :
    SeqT TC Bs Fence.wide n Tryd.prog 59 #[.pointer (some ⟨Bs, 0, none⟩)] (fun x => #[tokV x]) (fun xs => xs = utok P) (fun pre => pre <+: utok P) (utok P).length w := by
  intro L J Jx W hb hJ hJx hY h0
  obtain ⟨A, pc, cv, h1, h2, g, cap, cur, rfl, h3, h4⟩ := hT
  have hB : Bs < w.heap.size := (Array.getElem?_eq_some_iff.1 h1).1
  exact toks_gen n hn L Bs g cap pc A cur P hP J Jx W hJ ((hb.block Bs hB).trans h1) ((hb.block g h4.1).trans h3) (h4.below hb h4.1) hY h0
end Go.Proofs.YthjooopppidcfaaDoor
