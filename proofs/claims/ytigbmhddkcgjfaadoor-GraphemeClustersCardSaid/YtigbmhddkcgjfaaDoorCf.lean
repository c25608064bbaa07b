import Derived.Test.YtigbmhddkcgjfaaDoorTr
namespace Go.Proofs.YtigbmhddkcgjfaaDoor
open Go.RowKit Go.Shelf Go.Lib
open Gc

attribute [local go_sem] Oper.semAt_some

theorem info9 : (Tryd.prog.info? 9).map (fun i => (i.zero, i.size, i.bytes)) = some (some (.string ByteArray.empty), 1, 16) := by kernel_rfl
theorem keeps_below {B : Nat} {W W' : World} (h : Below W.heap.size W W') : KeepsFrom B W W' :=
  ⟨h.size, fun k _ _ hk _ => (h.block k (Array.getElem?_eq_some_iff.1 hk).1).trans hk⟩
theorem kpt_below {T : TypeId → Bool} {Bs : Nat} {W W' : World} (hBs : Bs < W.heap.size) (h : Below W.heap.size W W') : Kpt T Bs W W' :=
  ⟨h.size, h.block Bs hBs, fun k _ hk _ => (h.block k (Array.getElem?_eq_some_iff.1 hk).1).trans hk⟩

theorem stepIn_append_own {F : Fence} {n : Nat} {P : Program} (w : World) {ops : Array Oper} {o : Oper} {a : Act} {K : Act → World → Prop} {Q : Exit → Act → World → Prop} {E : Prop}
    (hg : o.guard = none) (s x : Operand) (t : TypeId) (hop : o.op = Op.call { callee := Callee.builtin Builtin.append, args := #[s, x], argTypes := #[t, t] })
    (base : Nat) (e : TypeId) (i : TypeInfo) (z : Value) (size bytes : Nat) (h1 : P.underlying t = some (.slice e)) (h2 : P.info? e = some i) (h3 : i.zero = some z) (h4 : i.size = size) (h5 : i.bytes = bytes) (h6 : z.cells.size = size) (h7 : 0 < size)
    (v : Value) (k : Nat) (xs : List Value) (hs : a.eval s = v) (hown : w.ownsRow base e size v k xs) (ad : Addr) (m c : Nat) (news : List Value) (hx : a.eval x = .slice (some ad) m c) (hn : news.length = m * size)
    (hc : ∀ j u, news[j]? = some u → w.cell? (ad.add j) = some u) (h1c : ∀ u ∈ news, u.oneCell' = true) (b1 : k + m ≤ maxLen) (b2 : (k + m) * bytes ≤ 140737488355328) (b3 : base ≤ w.heap.size)
    (hK : ∀ v' w', w'.ownsRow base e size v' (k + m) (xs ++ news) → w.grownBy w' v.ownBlock → (v' = .slice none 0 0 ↔ v = .slice none 0 0 ∧ m = 0) → K (a.put o.dst v') w') :
    if Region.wanted o (yielded ops a.tmps) = true then Oper.wpIn F n P o a w K Q else E := by
  have hw : Region.wanted o (yielded ops a.tmps) = true := by simp [Region.wanted, hg]
  rw [if_pos hw]
  obtain ⟨v', w', hrun, r1, r2, r3⟩ := run_append_own (P := P) w base t o.type e i z size bytes h1 h2 h3 h4 h5 h6 h7 v k xs hown ad m c news hn hc h1c b1 b2 b3
  unfold Oper.wpIn
  refine ⟨?_, ?_⟩
  · simp [Oper.about, hop, resolve, Target.leads, Sem.run_pure]
  · rw [Oper.semAt_plain F _ _ (by rw [hop]; intro c hc'; cases hc')]
    simp [execOp, hop, resolve, invoke, builtin, hs, hx, hrun, Result.andThen]
    exact hK v' w' r1 r2 r3

def txts (s : ByteArray) (P : List Nat) (pre : List (Nat × Nat)) : List Value := pre.map fun x => .string (s.extract (U.off P x.1) (U.off P x.2))
def StrsPost (l : List Value) (w : World) (e : Ending) (w' : World) : Prop := ∃ v, e = .returned (.tuple #[v, .int .i64 0]) ∧ w'.ownsRow w.heap.size 9 1 v l.length l ∧ Below w.heap.size w w'

set_option maxRecDepth 100000 in
set_option maxHeartbeats 2000000 in
theorem clusters_bad {s : ByteArray} {P : List Nat} {bad : List UInt8} (h : Str s P bad) (hb : bad ≠ []) (w : World) (hT : Tabs w) : Calls Tryd.prog 20 #[.string s] w (Pair2 (.slice none 0 0) (.int .i64 12) w) := by
  have cV := valid_any h w hT
  rw [decide_eq_false hb] at cV
  go_enter Tryd.func20, Tryd.ntmps20
  go_wp2_with (go_at_call 36; refine cV.mono ?_; rintro e w1 ⟨rfl, hb1⟩)
  go_ret2
  exact ⟨rfl, hb1⟩

set_option maxRecDepth 100000 in
set_option maxHeartbeats 4000000 in
theorem list_in {s : ByteArray} {P : List Nat} (h : Str s P []) (w : World) (hT : Tabs w) : CallsIn Fence.wide 6 Tryd.prog 20 #[.string s] w (StrsPost (txts s P (cls (cp P))) w) := by
  have cV := valid_any h w hT
  rw [decide_eq_true rfl] at cV
  have hlen : (cls (cp P)).length ≤ 100000 := by
    have h1 := bnd_length_le (cp P)
    have h2 := h.len
    have h3 : (cp P).length = P.length := by simp [cp, clsOf]
    omega
  obtain ⟨i0, hi, hz0, hz1, hz2⟩ := info_parts info9
  refine callsIn_of_wp_marks Tryd.func20 rfl trivial ?_ rfl
  simp only [Tryd.ntmps20, List.size_toArray, List.length_cons, List.length_nil, Nat.reduceAdd, Nat.reduceSub, Array.replicate_succ, Array.replicate_zero, List.push_toArray, List.append_toArray, List.nil_append, List.cons_append]
  gi_wp2_with (first
    | (refine ⟨trivial, ?_⟩; gi_at_call 36; (with_reducible refine (callsIn_wide.2 cV).mono ?_); rintro e w1 ⟨rfl, hb1⟩; clear cV)
    | (refine ⟨trivial, ?_⟩; gi_at_call 37; refine (clusters_in s _ _).mono ?_; rintro e w2 ⟨rfl, rfl⟩))
  have hs1 := hb1.size
  have hB0 : Below w.heap.size w ((w1.alloc (.cells #[.slice none 0 0] 35)).alloc (.cells #[.string s] 9)) := (hb1.alloc hs1 _).alloc (by simp; omega) _
  have bN := Boxed.new w1 35 (.slice none 0 0)
  have bS := Boxed.new (w1.alloc (.cells #[.slice none 0 0] 35)) 9 (.string s)
  rw [World.size_alloc] at bS
  have hr0 : w1.ownsRow (w1.heap.size + 2) 9 1 (.slice none 0 0) 0 [] := ⟨rfl, .inl ⟨rfl, rfl⟩⟩
  refine rangeT1 (T := TT) (Bs := w1.heap.size + 1) rfl (by decide) (gf := 47) (lb := #[.pointer (some ⟨w1.heap.size + 1, 0, none⟩)]) rfl trivial (enters_of Tryd.func47 (by kernel_rfl) rfl)
    (by simp) (iter_any 5 (by decide) (w1.heap.size + 1) s P h.pts h.whole h.room _ bS)
    (fun pre W => (∃ v, Boxed W w1.heap.size 35 v ∧ W.ownsRow (w1.heap.size + 2) 9 1 v pre.length (txts s P pre) ∧ True) ∧ Boxed W (w1.heap.size + 1) 9 (.string s) ∧ Below w.heap.size w W) (fun _ _ _ => False)
    (OwnT.and (OwnT.row rfl rfl 1 (fun pre => pre.length) (fun pre => txts s P pre) (fun _ _ => True)) (OwnT.and (OwnT.boxed rfl _) (OwnT.below (Nat.le_refl _) (by simp; omega)))) (fun _ _ _ _ _ hs _ _ => hs)
    ⟨⟨_, bN.alloc _, (hr0.alloc _).alloc _, trivial⟩, bS, hB0⟩ ?round ?done ?stop
  case round =>
    rintro l pre x W ⟨⟨v, hv, hrow, _⟩, hS, hB⟩ hlt hl hlW
    have htx : (s.extract (U.off P x.1) (U.off P x.2)).size ≤ 100000 := by rw [ByteArray.size_extract]; have := h.size; omega
    have htl : txts s P (pre ++ [x]) = txts s P pre ++ [.string (s.extract (U.off P x.1) (U.off P x.2))] := by simp [txts]
    unfold clV
    generalize s.extract (U.off P x.1) (U.off P x.2) = txt at htx htl ⊢
    have hW1 := hB.size
    have hl' := hl
    simp at hl'
    gi_wp2
    refine ⟨(KeepsOthers.alloc _ _).from _, Kpt.alloc hS.lt _, ⟨⟨v, hv.alloc _, hrow.alloc _, trivial⟩, hS.alloc _, hB.alloc hW1 _⟩, ?_⟩
    rintro V hg ⟨⟨u, hu, hro, _⟩, hSV, hBV⟩
    have hcx : V.cell? ⟨W.heap.size, 1, none⟩ = some (.string txt) := hg.cell (by simp) (fun e => by simp at e; omega)
    have hxlt : W.heap.size < V.heap.size := by have := hg.size; simp at this; omega
    have hBs := hBV.size
    clear hv hrow hS hB
    have kVU : KeepsFrom ((w1.alloc (.cells #[.slice none 0 0] 35)).alloc (.cells #[.string s] 9)).heap.size V V.drew := (KeepsOthers.drew V).from _
    have pVU : Kpt TT (w1.heap.size + 1) V V.drew := ⟨Nat.le_refl _, rfl, fun _ _ h _ => h⟩
    have bVU : Below w.heap.size w V.drew := hBV.trans (below_drews _ V 1)
    have huU : Boxed V.drew w1.heap.size 35 u := hu
    have hroU : V.drew.ownsRow (w1.heap.size + 2) 9 1 u pre.length (txts s P pre) := hro
    have hSU : Boxed V.drew (w1.heap.size + 1) 9 (.string s) := hSV
    have hcU : V.drew.cell? ⟨W.heap.size, 1, none⟩ = some (.string txt) := hcx
    have hxU : W.heap.size < V.drew.heap.size := hxlt
    have cC := fun w' => clone_any txt w' htx
    gi_wp2
    refine wpIn_region_any (by kernel_rfl) ?_
    change wpAnyIn _ _ _ _ _ _ _ _ _ (World.drew _)
    generalize V.drew = U at kVU pVU bVU huU hroU hSU hcU hxU ⊢
    have hcl := huU.cell
    refine wpAnyIn_ready (rs := [0, 1]) (by kernel_rfl) (by simp) (AllReadyIn.cons rfl (fun K hK => ?_) (AllReadyIn.cons rfl (fun K hK => ?_) AllReadyIn.nil))
    · (go_simp; refine hK _ _ ?_; clear hK K); refine wpAnyIn_ready (rs := [1]) (by kernel_rfl) (by simp) (AllReadyIn.cons rfl (fun K hK => ?_) AllReadyIn.nil); (go_simp; refine hK _ _ ?_; clear hK K); refine wpAnyIn_ready (rs := [2]) (by kernel_rfl) (by simp) (AllReadyIn.cons rfl (fun K hK => ?_) AllReadyIn.nil); (go_simp; refine hK _ _ ?_; clear hK K); refine wpAnyIn_ready (rs := [3]) (by kernel_rfl) (by simp) (AllReadyIn.cons rfl (fun K hK => ?_) AllReadyIn.nil); (go_simp; gi_wp2_with (refine ⟨trivial, ?_⟩; gi_at_call 41; (with_reducible refine (CallsIn.inRound l (callsIn_wide.2 (cC _))).mono ?_); rintro e U2 ⟨rfl, b3⟩; have hs3 := b3.size; have huU2 : Boxed U2 w1.heap.size 35 u := (b3.block _ huU.lt).trans huU; have hcl2 := huU2.cell; have hcl3 := (huU2.alloc (.cells #[.string txt] 9)).cell; have hroU2 := row_below hroU b3; have hSU2 : Boxed U2 (w1.heap.size + 1) 9 (.string s) := (b3.block _ hSU.lt).trans hSU; have hwU2 : w.heap.size ≤ U2.heap.size := Nat.le_trans bVU.size hs3; have hwU3 : w1.heap.size + 2 ≤ U2.heap.size := by omega)); refine wpAnyIn_ready (rs := [4]) (by kernel_rfl) (by simp) (AllReadyIn.cons rfl (fun K hK => ?_) AllReadyIn.nil); (go_simp; refine hK _ _ ?_; clear hK K); refine wpAnyIn_ready (rs := [5]) (by kernel_rfl) (by simp) (AllReadyIn.cons rfl (fun K hK => ?_) AllReadyIn.nil); (refine stepIn_append_own _ rfl (.tmp 12) (.tmp 16) 35 rfl (w1.heap.size + 2) 9 i0 (.string ByteArray.empty) 1 16 Tryd.underlying35 hi hz0 hz1 hz2 rfl (by decide) u pre.length (txts s P pre) rfl (hroU2.alloc _) ⟨U2.heap.size, 0, none⟩ 1 1 [.string txt] rfl rfl (cell_one_new _ _ _) (by simp [Value.oneCell']) (by unfold maxLen; omega) (by omega) (by simp; omega) ?_; intro v' w2 hown' hgrow _; obtain ⟨g', cap', rfl⟩ := ownsRow_succ hown'; obtain ⟨hv1, hv2, _, hk2, hb2⟩ := huU2.appended (by decide) (row_base (by omega) hroU2) hwU2 hs1 (row_base (by omega) hown') hgrow; have hr2 := hown'.kept (grownBy_setCell' w2 w1.heap.size (.slice (some ⟨g', 0, none⟩) (pre.length + 1) cap')) (.inr (hv1.not_row (by decide) hown').symm); have kk := kpt_append (T := TT) (Bs := w1.heap.size + 1) hSU2.lt huU2 (by omega) rfl rfl (by decide) hroU2 (fun g hg => by have := (row_type hroU2 g hg).1; omega) hgrow (v' := .slice (some ⟨g', 0, none⟩) (pre.length + 1) cap'); have hc1 := hv1.cell; have hf1 := hv1.frozen; (go_simp; refine hK _ _ ?_; clear hK K); refine wpAnyIn_ready (rs := [6]) (by kernel_rfl) (by simp) (AllReadyIn.cons rfl (fun K hK => ?_) AllReadyIn.nil); (go_simp; refine hK _ _ ?_; clear hK K); refine wpAnyIn_done (by kernel_rfl) ?_ _; gi_wp2; refine ⟨(kVU.trans (keeps_below b3)).trans (hk2.from _), (pVU.trans (kpt_below hSU.lt b3)).trans kk, ⟨_, hv2, ?_, trivial⟩, kk.str.trans hSU2, (bVU.trans (b3.mono bVU.size)).trans hb2⟩; rw [htl, List.length_append]; exact hr2)
    · (go_simp; refine hK _ _ ?_; clear hK K)
      refine wpAnyIn_ready (rs := [0, 2]) (by kernel_rfl) (by simp) (AllReadyIn.cons rfl (fun K hK => ?_) (AllReadyIn.cons rfl (fun K hK => ?_) AllReadyIn.nil))
      · (go_simp; refine hK _ _ ?_; clear hK K); refine wpAnyIn_ready (rs := [2]) (by kernel_rfl) (by simp) (AllReadyIn.cons rfl (fun K hK => ?_) AllReadyIn.nil); (go_simp; refine hK _ _ ?_; clear hK K); refine wpAnyIn_ready (rs := [3]) (by kernel_rfl) (by simp) (AllReadyIn.cons rfl (fun K hK => ?_) AllReadyIn.nil); (go_simp; gi_wp2_with (refine ⟨trivial, ?_⟩; gi_at_call 41; (with_reducible refine (CallsIn.inRound l (callsIn_wide.2 (cC _))).mono ?_); rintro e U2 ⟨rfl, b3⟩; have hs3 := b3.size; have huU2 : Boxed U2 w1.heap.size 35 u := (b3.block _ huU.lt).trans huU; have hcl2 := huU2.cell; have hcl3 := (huU2.alloc (.cells #[.string txt] 9)).cell; have hroU2 := row_below hroU b3; have hSU2 : Boxed U2 (w1.heap.size + 1) 9 (.string s) := (b3.block _ hSU.lt).trans hSU; have hwU2 : w.heap.size ≤ U2.heap.size := Nat.le_trans bVU.size hs3; have hwU3 : w1.heap.size + 2 ≤ U2.heap.size := by omega)); refine wpAnyIn_ready (rs := [4]) (by kernel_rfl) (by simp) (AllReadyIn.cons rfl (fun K hK => ?_) AllReadyIn.nil); (go_simp; refine hK _ _ ?_; clear hK K); refine wpAnyIn_ready (rs := [5]) (by kernel_rfl) (by simp) (AllReadyIn.cons rfl (fun K hK => ?_) AllReadyIn.nil); (refine stepIn_append_own _ rfl (.tmp 12) (.tmp 16) 35 rfl (w1.heap.size + 2) 9 i0 (.string ByteArray.empty) 1 16 Tryd.underlying35 hi hz0 hz1 hz2 rfl (by decide) u pre.length (txts s P pre) rfl (hroU2.alloc _) ⟨U2.heap.size, 0, none⟩ 1 1 [.string txt] rfl rfl (cell_one_new _ _ _) (by simp [Value.oneCell']) (by unfold maxLen; omega) (by omega) (by simp; omega) ?_; intro v' w2 hown' hgrow _; obtain ⟨g', cap', rfl⟩ := ownsRow_succ hown'; obtain ⟨hv1, hv2, _, hk2, hb2⟩ := huU2.appended (by decide) (row_base (by omega) hroU2) hwU2 hs1 (row_base (by omega) hown') hgrow; have hr2 := hown'.kept (grownBy_setCell' w2 w1.heap.size (.slice (some ⟨g', 0, none⟩) (pre.length + 1) cap')) (.inr (hv1.not_row (by decide) hown').symm); have kk := kpt_append (T := TT) (Bs := w1.heap.size + 1) hSU2.lt huU2 (by omega) rfl rfl (by decide) hroU2 (fun g hg => by have := (row_type hroU2 g hg).1; omega) hgrow (v' := .slice (some ⟨g', 0, none⟩) (pre.length + 1) cap'); have hc1 := hv1.cell; have hf1 := hv1.frozen; (go_simp; refine hK _ _ ?_; clear hK K); refine wpAnyIn_ready (rs := [6]) (by kernel_rfl) (by simp) (AllReadyIn.cons rfl (fun K hK => ?_) AllReadyIn.nil); (go_simp; refine hK _ _ ?_; clear hK K); refine wpAnyIn_done (by kernel_rfl) ?_ _; gi_wp2; refine ⟨(kVU.trans (keeps_below b3)).trans (hk2.from _), (pVU.trans (kpt_below hSU.lt b3)).trans kk, ⟨_, hv2, ?_, trivial⟩, kk.str.trans hSU2, (bVU.trans (b3.mono bVU.size)).trans hb2⟩; rw [htl, List.length_append]; exact hr2)
      · (go_simp; refine hK _ _ ?_; clear hK K)
        refine wpAnyIn_ready (rs := [0, 3]) (by kernel_rfl) (by simp) (AllReadyIn.cons rfl (fun K hK => ?_) (AllReadyIn.cons rfl (fun K hK => ?_) AllReadyIn.nil))
        · (go_simp; refine hK _ _ ?_; clear hK K); refine wpAnyIn_ready (rs := [3]) (by kernel_rfl) (by simp) (AllReadyIn.cons rfl (fun K hK => ?_) AllReadyIn.nil); (go_simp; gi_wp2_with (refine ⟨trivial, ?_⟩; gi_at_call 41; (with_reducible refine (CallsIn.inRound l (callsIn_wide.2 (cC _))).mono ?_); rintro e U2 ⟨rfl, b3⟩; have hs3 := b3.size; have huU2 : Boxed U2 w1.heap.size 35 u := (b3.block _ huU.lt).trans huU; have hcl2 := huU2.cell; have hcl3 := (huU2.alloc (.cells #[.string txt] 9)).cell; have hroU2 := row_below hroU b3; have hSU2 : Boxed U2 (w1.heap.size + 1) 9 (.string s) := (b3.block _ hSU.lt).trans hSU; have hwU2 : w.heap.size ≤ U2.heap.size := Nat.le_trans bVU.size hs3; have hwU3 : w1.heap.size + 2 ≤ U2.heap.size := by omega)); refine wpAnyIn_ready (rs := [4]) (by kernel_rfl) (by simp) (AllReadyIn.cons rfl (fun K hK => ?_) AllReadyIn.nil); (go_simp; refine hK _ _ ?_; clear hK K); refine wpAnyIn_ready (rs := [5]) (by kernel_rfl) (by simp) (AllReadyIn.cons rfl (fun K hK => ?_) AllReadyIn.nil); (refine stepIn_append_own _ rfl (.tmp 12) (.tmp 16) 35 rfl (w1.heap.size + 2) 9 i0 (.string ByteArray.empty) 1 16 Tryd.underlying35 hi hz0 hz1 hz2 rfl (by decide) u pre.length (txts s P pre) rfl (hroU2.alloc _) ⟨U2.heap.size, 0, none⟩ 1 1 [.string txt] rfl rfl (cell_one_new _ _ _) (by simp [Value.oneCell']) (by unfold maxLen; omega) (by omega) (by simp; omega) ?_; intro v' w2 hown' hgrow _; obtain ⟨g', cap', rfl⟩ := ownsRow_succ hown'; obtain ⟨hv1, hv2, _, hk2, hb2⟩ := huU2.appended (by decide) (row_base (by omega) hroU2) hwU2 hs1 (row_base (by omega) hown') hgrow; have hr2 := hown'.kept (grownBy_setCell' w2 w1.heap.size (.slice (some ⟨g', 0, none⟩) (pre.length + 1) cap')) (.inr (hv1.not_row (by decide) hown').symm); have kk := kpt_append (T := TT) (Bs := w1.heap.size + 1) hSU2.lt huU2 (by omega) rfl rfl (by decide) hroU2 (fun g hg => by have := (row_type hroU2 g hg).1; omega) hgrow (v' := .slice (some ⟨g', 0, none⟩) (pre.length + 1) cap'); have hc1 := hv1.cell; have hf1 := hv1.frozen; (go_simp; refine hK _ _ ?_; clear hK K); refine wpAnyIn_ready (rs := [6]) (by kernel_rfl) (by simp) (AllReadyIn.cons rfl (fun K hK => ?_) AllReadyIn.nil); (go_simp; refine hK _ _ ?_; clear hK K); refine wpAnyIn_done (by kernel_rfl) ?_ _; gi_wp2; refine ⟨(kVU.trans (keeps_below b3)).trans (hk2.from _), (pVU.trans (kpt_below hSU.lt b3)).trans kk, ⟨_, hv2, ?_, trivial⟩, kk.str.trans hSU2, (bVU.trans (b3.mono bVU.size)).trans hb2⟩; rw [htl, List.length_append]; exact hr2)
        · (go_simp; gi_wp2_with (refine ⟨trivial, ?_⟩; gi_at_call 41; (with_reducible refine (CallsIn.inRound l (callsIn_wide.2 (cC _))).mono ?_); rintro e U2 ⟨rfl, b3⟩; have hs3 := b3.size; have huU2 : Boxed U2 w1.heap.size 35 u := (b3.block _ huU.lt).trans huU; have hcl2 := huU2.cell; have hcl3 := (huU2.alloc (.cells #[.string txt] 9)).cell; have hroU2 := row_below hroU b3; have hSU2 : Boxed U2 (w1.heap.size + 1) 9 (.string s) := (b3.block _ hSU.lt).trans hSU; have hwU2 : w.heap.size ≤ U2.heap.size := Nat.le_trans bVU.size hs3; have hwU3 : w1.heap.size + 2 ≤ U2.heap.size := by omega))
          refine wpAnyIn_ready (rs := [0, 4]) (by kernel_rfl) (by simp) (AllReadyIn.cons rfl (fun K hK => ?_) (AllReadyIn.cons rfl (fun K hK => ?_) AllReadyIn.nil))
          · (go_simp; refine hK _ _ ?_; clear hK K); refine wpAnyIn_ready (rs := [4]) (by kernel_rfl) (by simp) (AllReadyIn.cons rfl (fun K hK => ?_) AllReadyIn.nil); (go_simp; refine hK _ _ ?_; clear hK K); refine wpAnyIn_ready (rs := [5]) (by kernel_rfl) (by simp) (AllReadyIn.cons rfl (fun K hK => ?_) AllReadyIn.nil); (refine stepIn_append_own _ rfl (.tmp 12) (.tmp 16) 35 rfl (w1.heap.size + 2) 9 i0 (.string ByteArray.empty) 1 16 Tryd.underlying35 hi hz0 hz1 hz2 rfl (by decide) u pre.length (txts s P pre) rfl (hroU2.alloc _) ⟨U2.heap.size, 0, none⟩ 1 1 [.string txt] rfl rfl (cell_one_new _ _ _) (by simp [Value.oneCell']) (by unfold maxLen; omega) (by omega) (by simp; omega) ?_; intro v' w2 hown' hgrow _; obtain ⟨g', cap', rfl⟩ := ownsRow_succ hown'; obtain ⟨hv1, hv2, _, hk2, hb2⟩ := huU2.appended (by decide) (row_base (by omega) hroU2) hwU2 hs1 (row_base (by omega) hown') hgrow; have hr2 := hown'.kept (grownBy_setCell' w2 w1.heap.size (.slice (some ⟨g', 0, none⟩) (pre.length + 1) cap')) (.inr (hv1.not_row (by decide) hown').symm); have kk := kpt_append (T := TT) (Bs := w1.heap.size + 1) hSU2.lt huU2 (by omega) rfl rfl (by decide) hroU2 (fun g hg => by have := (row_type hroU2 g hg).1; omega) hgrow (v' := .slice (some ⟨g', 0, none⟩) (pre.length + 1) cap'); have hc1 := hv1.cell; have hf1 := hv1.frozen; (go_simp; refine hK _ _ ?_; clear hK K); refine wpAnyIn_ready (rs := [6]) (by kernel_rfl) (by simp) (AllReadyIn.cons rfl (fun K hK => ?_) AllReadyIn.nil); (go_simp; refine hK _ _ ?_; clear hK K); refine wpAnyIn_done (by kernel_rfl) ?_ _; gi_wp2; refine ⟨(kVU.trans (keeps_below b3)).trans (hk2.from _), (pVU.trans (kpt_below hSU.lt b3)).trans kk, ⟨_, hv2, ?_, trivial⟩, kk.str.trans hSU2, (bVU.trans (b3.mono bVU.size)).trans hb2⟩; rw [htl, List.length_append]; exact hr2)
          · (go_simp; refine hK _ _ ?_; clear hK K)
            refine wpAnyIn_ready (rs := [0]) (by kernel_rfl) (by simp) (AllReadyIn.cons rfl (fun K hK => ?_) AllReadyIn.nil)
            (go_simp; refine hK _ _ ?_; clear hK K)
            refine wpAnyIn_ready (rs := [5]) (by kernel_rfl) (by simp) (AllReadyIn.cons rfl (fun K hK => ?_) AllReadyIn.nil)
            (refine stepIn_append_own _ rfl (.tmp 12) (.tmp 16) 35 rfl (w1.heap.size + 2) 9 i0 (.string ByteArray.empty) 1 16 Tryd.underlying35 hi hz0 hz1 hz2 rfl (by decide) u pre.length (txts s P pre) rfl (hroU2.alloc _) ⟨U2.heap.size, 0, none⟩ 1 1 [.string txt] rfl rfl (cell_one_new _ _ _) (by simp [Value.oneCell']) (by unfold maxLen; omega) (by omega) (by simp; omega) ?_; intro v' w2 hown' hgrow _; obtain ⟨g', cap', rfl⟩ := ownsRow_succ hown'; obtain ⟨hv1, hv2, _, hk2, hb2⟩ := huU2.appended (by decide) (row_base (by omega) hroU2) hwU2 hs1 (row_base (by omega) hown') hgrow; have hr2 := hown'.kept (grownBy_setCell' w2 w1.heap.size (.slice (some ⟨g', 0, none⟩) (pre.length + 1) cap')) (.inr (hv1.not_row (by decide) hown').symm); have kk := kpt_append (T := TT) (Bs := w1.heap.size + 1) hSU2.lt huU2 (by omega) rfl rfl (by decide) hroU2 (fun g hg => by have := (row_type hroU2 g hg).1; omega) hgrow (v' := .slice (some ⟨g', 0, none⟩) (pre.length + 1) cap'); have hc1 := hv1.cell; have hf1 := hv1.frozen; (go_simp; refine hK _ _ ?_; clear hK K); refine wpAnyIn_ready (rs := [6]) (by kernel_rfl) (by simp) (AllReadyIn.cons rfl (fun K hK => ?_) AllReadyIn.nil); (go_simp; refine hK _ _ ?_; clear hK K); refine wpAnyIn_done (by kernel_rfl) ?_ _; gi_wp2; refine ⟨(kVU.trans (keeps_below b3)).trans (hk2.from _), (pVU.trans (kpt_below hSU.lt b3)).trans kk, ⟨_, hv2, ?_, trivial⟩, kk.str.trans hSU2, (bVU.trans (b3.mono bVU.size)).trans hb2⟩; rw [htl, List.length_append]; exact hr2)
  case done =>
    rintro D xs W hD rfl ⟨⟨v, hv, hrow, _⟩, hS, hB⟩ hK
    have hc := hv.cell
    gi_wp2
    refine ⟨by simp, .inl ⟨_, _, rfl, run_takeDeferred hK, ?_⟩⟩
    have hrow' := row_base (show w.heap.size ≤ w1.heap.size + 2 by omega) hrow
    refine ⟨.tuple #[v, .int .i64 0], by simp [results, Tryd.results20, go_sem], v, rfl, ?_, hB.trans (belowK_b (w := w) (Nat.le_refl _) W D _ _ ?_ hK rfl rfl)⟩
    · rw [show (txts s P (cls (cp P))).length = (cls (cp P)).length from List.length_map _]
      exact ownsRow_putObj hrow' _ hK rfl
    · simp at hD
      omega
  case stop =>
    rintro D c pre W _ _ h _
    exact h.elim
theorem list_any {s : ByteArray} {P : List Nat} (h : Str s P []) (w : World) (hT : Tabs w) : Calls Tryd.prog 20 #[.string s] w (StrsPost (txts s P (cls (cp P))) w) := callsIn_wide.1 (list_in h w hT)
end Go.Proofs.YtigbmhddkcgjfaaDoor
