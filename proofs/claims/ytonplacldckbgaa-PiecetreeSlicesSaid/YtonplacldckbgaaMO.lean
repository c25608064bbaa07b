/- Layer 4: Chunks (18). -/
import Derived.Test.YtonplacldckbgaaKa
import Derived.Maps.AppendAt
namespace Go.Proofs.Ytonplacldckbgaa
open Go.RowKit Go.Shelf Go.Lib Pt

attribute [local go_sem] Oper.semAt_some
theorem info9 : (Try.prog.info? 9).map (fun i => (i.zero, i.size, i.bytes)) = some (some (.string ByteArray.empty), 1, 16) := by kernel_rfl
theorem stepIn_append_own {F : Fence} {n : Nat} {P : Program} (w : World) {ops : Array Oper} {o : Oper} {a : Act} {K : Act → World → Prop} {Q : Exit → Act → World → Prop} {E : Prop}
    (hg : o.guard = none) (s x : Operand) (t : TypeId) (hop : o.op = Op.call { callee := Callee.builtin Builtin.append, args := #[s, x], argTypes := #[t, t] })
    (base : Nat) (e : TypeId) (i : TypeInfo) (z : Value) (size bytes : Nat) (h1 : P.underlying t = some (.slice e)) (h2 : P.info? e = some i) (h3 : i.zero = some z) (h4 : i.size = size) (h5 : i.bytes = bytes) (h6 : z.cells.size = size) (h7 : 0 < size)
    (v : Value) (k : Nat) (xs : List Value) (hs : a.eval s = v) (hown : w.ownsRow base e size v k xs) (ad : Addr) (m c : Nat) (news : List Value) (hx : a.eval x = .slice (some ad) m c) (hn : news.length = m * size)
    (hc : ∀ j u, news[j]? = some u → w.cell? (ad.add j) = some u) (h1c : ∀ u ∈ news, u.oneCell' = true) (b1 : k + m ≤ maxLen) (b2 : (k + m) * bytes ≤ 140737488355328) (b3 : base ≤ w.heap.size)
    (hK : ∀ v' w', w'.ownsRow base e size v' (k + m) (xs ++ news) → w.grownBy w' v.ownBlock → (v' = .slice none 0 0 ↔ v = .slice none 0 0 ∧ m = 0) → K (a.put o.dst v') w') :
    if Region.wanted o (yielded ops a.tmps) = true then Oper.wpIn F n P o a w K Q else E := by
  have hw : Region.wanted o (yielded ops a.tmps) = true := by simp [Region.wanted, hg]
  rw [if_pos hw]
  obtain ⟨v', w', hrun, r1, r2, r3⟩ := run_append_own (P := P) w base t o.type e i z size bytes h1 h2 h3 h4 h5 h6 h7 v k xs hown ad m c news hn hc h1c b1 b2 b3
  unfold Oper.wpIn
  refine ⟨?_, ?_⟩
  · simp [Oper.about, hop, resolve, Target.leads, Sem.run_pure]
  · rw [Oper.semAt_plain F _ _ (by rw [hop]; intro c hc'; cases hc')]
    simp [execOp, hop, resolve, invoke, builtin, hs, hx, hrun, Result.andThen]
    exact hK v' w' r1 r2 r3
theorem box_keep {V w2 : World} {B N base size k : Nat} {t e : TypeId} {v u x : Value} {xs : List Value} {o : Obj} (h : Boxed V B t v) (hro : V.ownsRow base e size u k xs) (hte : t ≠ e) (hg : (V.alloc o).grownBy w2 u.ownBlock) (hne : B ≠ N) : Boxed (w2.setCell ⟨N, 0, none⟩ x) B t v :=
  Boxed.other ((h.alloc o).kept hg ((h.alloc o).not_row hte (hro.alloc o))) hne x
/-- Strings as cells. -/
def strV (l : List (List UInt8)) : List Value := l.map fun x => .string (bs x)
/-- A list of strings that a call hands back. -/
def StrsR (l : List (List UInt8)) (e0 : Int) (w : World) (e : Ending) (w' : World) : Prop := ∃ v, e = .returned (.tuple #[v, .int .i64 e0]) ∧ w'.ownsRow w.heap.size 9 1 v l.length (strV l) ∧ Below w.heap.size w w'
set_option maxRecDepth 100000 in
set_option maxHeartbeats 8000000 in
theorem chunks_in {b : Nat} {T : Tr} (f t : Int) (w : World) (h : TAt w b T) (hf : Fine T) (h0 : 0 ≤ f) (h1 : f ≤ t) (h2 : t ≤ (T.bytes.length : Nat)) (ht : T.bytes.length ≤ 65536) : CallsIn Fence.wide 6 Try.prog 18 #[.pointer (some ⟨b, 0, none⟩), .int .i64 f, .int .i64 t] w (StrsR (chunksT T f t) 0 w) := by
  obtain ⟨i0, hi, hz0, hz1, hz2⟩ := info_parts info9
  have cV := check_any f t w h
  rw [show chk f t T.bytes.length = 0 by unfold chk; rw [if_neg (by omega)]] at cV
  obtain ⟨A, c0, _, _, hb, hA⟩ := h
  have HSq := fun (B1 B2 B3 Bs : Nat) (w' : World) => chunks_seq 5 (by decide) f t w hf hA (by omega) (by omega) B1 B2 B3 Bs w'
  have hlen := chunksT_len T f t
  have hps := hf.pcs
  have hxx : ∀ x ∈ chunksT T f t, x.length ≤ 200000 := fun x hx => by
    have h1 := chunksT_flat T f t
    have h2 := sl_len T.bytes f t
    have h3 := hf.size
    rw [← h1] at h2
    have h4 : x.length ≤ (chunksT T f t).flatten.length := by
      obtain ⟨a, c, e⟩ := List.append_of_mem hx
      rw [e, List.flatten_append, List.flatten_cons, List.length_append, List.length_append]
      omega
    omega
  have HX := Go.Lib.hid hxx
  generalize chunksT T f t = C at HSq hlen HX ⊢
  have HS := Go.Lib.hid HSq
  have HV := Go.Lib.hid cV
  have hft : f ≤ 65536 ∧ t ≤ 65536 := by omega
  obtain ⟨hf2, ht2⟩ := hft
  clear cV HSq hA hxx
  refine callsIn_of_wp_marks Try.func18 rfl trivial ?_ rfl
  simp only [Try.ntmps18, List.size_toArray, List.length_cons, List.length_nil, Nat.reduceAdd, Nat.reduceSub, Array.replicate_succ, Array.replicate_zero, List.push_toArray, List.append_toArray, List.nil_append, List.cons_append]
  gi_wp2_with (first | (refine ⟨trivial, ?_⟩; gi_at_call 35; (with_reducible refine (callsIn_wide.2 HV.out).mono ?_); rintro e w1 ⟨rfl, hb1⟩; have d0 := (hb1.cell (p := ⟨b, 0, none⟩) hb).trans c0; have hbl := Nat.lt_of_lt_of_le hb hb1.size) | (refine ⟨trivial, ?_⟩; gi_at_call 37; refine (callsIn_wide.2 (chunks_any _ _ _ _)).mono ?_; rintro e w2 ⟨rfl, rfl⟩))
  have hs1 := hb1.size
  obtain ⟨M, hM⟩ : ∃ M, w1.heap.size = M := ⟨_, rfl⟩
  have bM := (((Boxed.new w1 34 (.slice none 0 0)).alloc (.cells #[.pointer A] 67)).alloc (.cells #[.int .i64 f] 3)).alloc (.cells #[.int .i64 t] 3)
  have b1 := ((Boxed.new (w1.alloc (.cells #[.slice none 0 0] 34)) 67 (.pointer A)).alloc (.cells #[.int .i64 f] 3)).alloc (.cells #[.int .i64 t] 3)
  have b2 := (Boxed.new ((w1.alloc (.cells #[.slice none 0 0] 34)).alloc (.cells #[.pointer A] 67)) 3 (.int .i64 f)).alloc (.cells #[.int .i64 t] 3)
  have b3 := Boxed.new (((w1.alloc (.cells #[.slice none 0 0] 34)).alloc (.cells #[.pointer A] 67)).alloc (.cells #[.int .i64 f] 3)) 3 (.int .i64 t)
  have hB0 : Below w.heap.size w ((((w1.alloc (.cells #[.slice none 0 0] 34)).alloc (.cells #[.pointer A] 67)).alloc (.cells #[.int .i64 f] 3)).alloc (.cells #[.int .i64 t] 3)) := (((hb1.alloc hs1 _).alloc (by simp; omega) _).alloc (by simp; omega) _).alloc (by simp; omega) _
  have hsz : ((((w1.alloc (.cells #[.slice none 0 0] 34)).alloc (.cells #[.pointer A] 67)).alloc (.cells #[.int .i64 f] 3)).alloc (.cells #[.int .i64 t] 3)).heap.size = w1.heap.size + 4 := by simp
  rw [World.size_alloc] at b1
  rw [World.size_alloc, World.size_alloc] at b2
  rw [World.size_alloc, World.size_alloc, World.size_alloc] at b3
  generalize ((((w1.alloc (.cells #[.slice none 0 0] 34)).alloc (.cells #[.pointer A] 67)).alloc (.cells #[.int .i64 f] 3)).alloc (.cells #[.int .i64 t] 3)) = W0 at bM b1 b2 b3 hB0 hsz ⊢
  rw [hM] at bM b1 b2 b3 hsz hs1 ⊢
  have hMw : w.heap.size ≤ M := hs1
  refine rangeG1 (T := T0) (Bs := M + 1) (G := GC w (M + 1) (M + 1 + 1) (M + 1 + 2) A f t) rfl (by decide) (gf := 47) (lb := #[.pointer (some ⟨M + 1, 0, none⟩), .pointer (some ⟨M + 1 + 1, 0, none⟩), .pointer (some ⟨M + 1 + 2, 0, none⟩)]) rfl trivial (enters_of Try.func47 (by kernel_rfl) rfl)
    (by omega) (HS.out (M + 1) (M + 1 + 1) (M + 1 + 2) (M + 1) W0)
    (fun (pre : List (List UInt8)) W => (∃ v, Boxed W M 34 v ∧ W.ownsRow (M + 4) 9 1 v pre.length (strV pre) ∧ True) ∧ Below w.heap.size w W ∧ Boxed W (M + 1) 67 (.pointer A) ∧ Boxed W (M + 1 + 1) 3 (.int .i64 f) ∧ Boxed W (M + 1 + 2) 3 (.int .i64 t)) (fun _ _ _ => False)
    (fun _ W h => ⟨h.2.1, h.2.2.1, h.2.2.2.1, h.2.2.2.2⟩)
    (OwnT.and (OwnT.row rfl rfl 1 (fun (pre : List (List UInt8)) => pre.length) (fun (pre : List (List UInt8)) => strV pre) (fun _ _ => True)) (OwnT.and (OwnT.below (Nat.le_refl _) (by omega)) (OwnT.and (OwnT.boxed rfl (fun _ => _)) (OwnT.and (OwnT.boxed rfl (fun _ => _)) (OwnT.boxed rfl (fun _ => _)))))) (fun _ _ _ _ _ hs _ _ => hs)
    ⟨⟨_, bM, World.ownsRow_nil _ _ _ _, trivial⟩, hB0, b1, b2, b3⟩ ?round ?done ?stop
  case round =>
    clear bM b1 b2 b3 hB0 HS
    rintro l' pre x W ⟨⟨v, hv, hrow, _⟩, hB, h1, h2, h3⟩ hlt hpre hl' hlW
    have hxl : x.length ≤ 200000 := HX.out x (hpre.subset (by simp))
    have hxs := bs_size x
    have htl : strV (pre ++ [x]) = strV pre ++ [.string (bs x)] := by simp [strV]
    gi_wp2
    refine ⟨KeepsFrom.refl _ _, Kpt.refl _, ⟨⟨v, hv, hrow, trivial⟩, hB, h1, h2, h3⟩, ?_⟩
    rintro V hg ⟨⟨u, hu, hro, _⟩, hBV, j1, j2, j3⟩
    clear hv hrow hB h1 h2 h3 hg
    have kVU : KeepsFrom W0.heap.size V V.drew := (KeepsOthers.drew V).from _
    have pVU : Kpt T0 (M + 1) V V.drew := ⟨Nat.le_refl _, rfl, fun _ _ h _ => h⟩
    have bVU : Below w.heap.size w V.drew := hBV.drew
    have huU : Boxed V.drew M 34 u := hu
    have hroU : V.drew.ownsRow (M + 4) 9 1 u pre.length (strV pre) := hro
    have j1 : Boxed V.drew (M + 1) 67 (.pointer A) := j1
    have j2 : Boxed V.drew (M + 1 + 1) 3 (.int .i64 f) := j2
    have j3 : Boxed V.drew (M + 1 + 2) 3 (.int .i64 t) := j3
    have hVs : M + 4 ≤ V.drew.heap.size := by have : M + 1 + 2 < V.drew.heap.size := j3.lt; omega
    have cC := fun w' => clone_any (bs x) w' (by rw [hxs]; omega)
    clear hu hro hBV
    gi_wp2
    refine wpIn_region_any (by kernel_rfl) ?_
    change wpAnyIn _ _ _ _ _ _ _ _ _ (World.drew _)
    generalize V.drew = U at kVU pVU bVU huU hroU j1 j2 j3 hVs ⊢
    have hcl := huU.cell
    refine wpAnyIn_ready (rs := [0, 1]) (by kernel_rfl) (by simp) (AllReadyIn.cons rfl (fun K hK => ?_) (AllReadyIn.cons rfl (fun K hK => ?_) AllReadyIn.nil))
    · (go_simp; refine hK _ _ ?_; clear hK K); refine wpAnyIn_ready (rs := [1]) (by kernel_rfl) (by simp) (AllReadyIn.cons rfl (fun K hK => ?_) AllReadyIn.nil); (go_simp; refine hK _ _ ?_; clear hK K); refine wpAnyIn_ready (rs := [2]) (by kernel_rfl) (by simp) (AllReadyIn.cons rfl (fun K hK => ?_) AllReadyIn.nil); (go_simp; gi_wp2_with (refine ⟨trivial, ?_⟩; gi_at_call 38; (with_reducible refine (CallsIn.inRound l' (callsIn_wide.2 (cC _))).mono ?_); rintro e U2 ⟨rfl, b3⟩; have hs3 := b3.size; have huU2 : Boxed U2 M 34 u := (b3.block _ huU.lt).trans huU; have hcl2 := huU2.cell; have hcl3 := (huU2.alloc (.cells #[.string (bs x)] 9)).cell; have hroU2 := row_below hroU b3; have hS1 : Boxed U2 (M + 1) 67 (.pointer A) := (b3.block _ j1.lt).trans j1; have hS2 : Boxed U2 (M + 1 + 1) 3 (.int .i64 f) := (b3.block _ j2.lt).trans j2; have hS3 : Boxed U2 (M + 1 + 2) 3 (.int .i64 t) := (b3.block _ j3.lt).trans j3; have hwU2 : w.heap.size ≤ U2.heap.size := Nat.le_trans bVU.size hs3; have hwU3 : M + 4 ≤ U2.heap.size := by omega)); refine wpAnyIn_ready (rs := [3]) (by kernel_rfl) (by simp) (AllReadyIn.cons rfl (fun K hK => ?_) AllReadyIn.nil); (go_simp; refine hK _ _ ?_; clear hK K); refine wpAnyIn_ready (rs := [4]) (by kernel_rfl) (by simp) (AllReadyIn.cons rfl (fun K hK => ?_) AllReadyIn.nil); (refine stepIn_append_own _ rfl (.tmp 26) (.tmp 29) 34 rfl (M + 4) 9 i0 (.string ByteArray.empty) 1 16 Try.underlying34 hi hz0 hz1 hz2 rfl (by decide) u pre.length (strV pre) rfl (hroU2.alloc _) ⟨U2.heap.size, 0, none⟩ 1 1 [.string (bs x)] rfl rfl (cell_one_new _ _ _) (by simp [Value.oneCell']) (by unfold maxLen; omega) (by omega) (by simp; omega) ?_; intro v' w2 hown' hgrow _; obtain ⟨g', cap', rfl⟩ := ownsRow_succ hown'; obtain ⟨hv1, hv2, _, hk2, hb2⟩ := huU2.appended (by decide) (own_lower hroU2 (b' := w.heap.size) (by omega)) hwU2 hMw (own_lower hown' (b' := w.heap.size) (by omega)) hgrow; have hr2 := hown'.kept (grownBy_setCell' w2 M (.slice (some ⟨g', 0, none⟩) (pre.length + 1) cap')) (.inr (hv1.not_row (by decide) hown').symm); have kk := kpt_append (T := T0) (Bs := M + 1) hS1.lt huU2 (by omega) rfl rfl (by decide) hroU2 (fun g hg => by have := (row_type hroU2 g hg).1; omega) hgrow (v' := .slice (some ⟨g', 0, none⟩) (pre.length + 1) cap'); have hc1 := hv1.cell; have hf1 := hv1.frozen; (go_simp; refine hK _ _ ?_; clear hK K); refine wpAnyIn_ready (rs := [5]) (by kernel_rfl) (by simp) (AllReadyIn.cons rfl (fun K hK => ?_) AllReadyIn.nil); (go_simp; refine hK _ _ ?_; clear hK K); refine wpAnyIn_done (by kernel_rfl) ?_ _; gi_wp2; refine ⟨(kVU.trans (keeps_below b3)).trans (hk2.from _), (pVU.trans (kpt_below j1.lt b3)).trans kk, ⟨_, hv2, ?_, trivial⟩, (bVU.trans (b3.mono bVU.size)).trans hb2, box_keep hS1 hroU2 (by decide) hgrow (by omega), box_keep hS2 hroU2 (by decide) hgrow (by omega), box_keep hS3 hroU2 (by decide) hgrow (by omega)⟩; rw [htl, List.length_append]; exact hr2)
    · (go_simp; refine hK _ _ ?_; clear hK K)
      refine wpAnyIn_ready (rs := [0, 2]) (by kernel_rfl) (by simp) (AllReadyIn.cons rfl (fun K hK => ?_) (AllReadyIn.cons rfl (fun K hK => ?_) AllReadyIn.nil))
      · (go_simp; refine hK _ _ ?_; clear hK K); refine wpAnyIn_ready (rs := [2]) (by kernel_rfl) (by simp) (AllReadyIn.cons rfl (fun K hK => ?_) AllReadyIn.nil); (go_simp; gi_wp2_with (refine ⟨trivial, ?_⟩; gi_at_call 38; (with_reducible refine (CallsIn.inRound l' (callsIn_wide.2 (cC _))).mono ?_); rintro e U2 ⟨rfl, b3⟩; have hs3 := b3.size; have huU2 : Boxed U2 M 34 u := (b3.block _ huU.lt).trans huU; have hcl2 := huU2.cell; have hcl3 := (huU2.alloc (.cells #[.string (bs x)] 9)).cell; have hroU2 := row_below hroU b3; have hS1 : Boxed U2 (M + 1) 67 (.pointer A) := (b3.block _ j1.lt).trans j1; have hS2 : Boxed U2 (M + 1 + 1) 3 (.int .i64 f) := (b3.block _ j2.lt).trans j2; have hS3 : Boxed U2 (M + 1 + 2) 3 (.int .i64 t) := (b3.block _ j3.lt).trans j3; have hwU2 : w.heap.size ≤ U2.heap.size := Nat.le_trans bVU.size hs3; have hwU3 : M + 4 ≤ U2.heap.size := by omega)); refine wpAnyIn_ready (rs := [3]) (by kernel_rfl) (by simp) (AllReadyIn.cons rfl (fun K hK => ?_) AllReadyIn.nil); (go_simp; refine hK _ _ ?_; clear hK K); refine wpAnyIn_ready (rs := [4]) (by kernel_rfl) (by simp) (AllReadyIn.cons rfl (fun K hK => ?_) AllReadyIn.nil); (refine stepIn_append_own _ rfl (.tmp 26) (.tmp 29) 34 rfl (M + 4) 9 i0 (.string ByteArray.empty) 1 16 Try.underlying34 hi hz0 hz1 hz2 rfl (by decide) u pre.length (strV pre) rfl (hroU2.alloc _) ⟨U2.heap.size, 0, none⟩ 1 1 [.string (bs x)] rfl rfl (cell_one_new _ _ _) (by simp [Value.oneCell']) (by unfold maxLen; omega) (by omega) (by simp; omega) ?_; intro v' w2 hown' hgrow _; obtain ⟨g', cap', rfl⟩ := ownsRow_succ hown'; obtain ⟨hv1, hv2, _, hk2, hb2⟩ := huU2.appended (by decide) (own_lower hroU2 (b' := w.heap.size) (by omega)) hwU2 hMw (own_lower hown' (b' := w.heap.size) (by omega)) hgrow; have hr2 := hown'.kept (grownBy_setCell' w2 M (.slice (some ⟨g', 0, none⟩) (pre.length + 1) cap')) (.inr (hv1.not_row (by decide) hown').symm); have kk := kpt_append (T := T0) (Bs := M + 1) hS1.lt huU2 (by omega) rfl rfl (by decide) hroU2 (fun g hg => by have := (row_type hroU2 g hg).1; omega) hgrow (v' := .slice (some ⟨g', 0, none⟩) (pre.length + 1) cap'); have hc1 := hv1.cell; have hf1 := hv1.frozen; (go_simp; refine hK _ _ ?_; clear hK K); refine wpAnyIn_ready (rs := [5]) (by kernel_rfl) (by simp) (AllReadyIn.cons rfl (fun K hK => ?_) AllReadyIn.nil); (go_simp; refine hK _ _ ?_; clear hK K); refine wpAnyIn_done (by kernel_rfl) ?_ _; gi_wp2; refine ⟨(kVU.trans (keeps_below b3)).trans (hk2.from _), (pVU.trans (kpt_below j1.lt b3)).trans kk, ⟨_, hv2, ?_, trivial⟩, (bVU.trans (b3.mono bVU.size)).trans hb2, box_keep hS1 hroU2 (by decide) hgrow (by omega), box_keep hS2 hroU2 (by decide) hgrow (by omega), box_keep hS3 hroU2 (by decide) hgrow (by omega)⟩; rw [htl, List.length_append]; exact hr2)
      · (go_simp; gi_wp2_with (refine ⟨trivial, ?_⟩; gi_at_call 38; (with_reducible refine (CallsIn.inRound l' (callsIn_wide.2 (cC _))).mono ?_); rintro e U2 ⟨rfl, b3⟩; have hs3 := b3.size; have huU2 : Boxed U2 M 34 u := (b3.block _ huU.lt).trans huU; have hcl2 := huU2.cell; have hcl3 := (huU2.alloc (.cells #[.string (bs x)] 9)).cell; have hroU2 := row_below hroU b3; have hS1 : Boxed U2 (M + 1) 67 (.pointer A) := (b3.block _ j1.lt).trans j1; have hS2 : Boxed U2 (M + 1 + 1) 3 (.int .i64 f) := (b3.block _ j2.lt).trans j2; have hS3 : Boxed U2 (M + 1 + 2) 3 (.int .i64 t) := (b3.block _ j3.lt).trans j3; have hwU2 : w.heap.size ≤ U2.heap.size := Nat.le_trans bVU.size hs3; have hwU3 : M + 4 ≤ U2.heap.size := by omega))
        refine wpAnyIn_ready (rs := [0, 3]) (by kernel_rfl) (by simp) (AllReadyIn.cons rfl (fun K hK => ?_) (AllReadyIn.cons rfl (fun K hK => ?_) AllReadyIn.nil))
        · (go_simp; refine hK _ _ ?_; clear hK K); refine wpAnyIn_ready (rs := [3]) (by kernel_rfl) (by simp) (AllReadyIn.cons rfl (fun K hK => ?_) AllReadyIn.nil); (go_simp; refine hK _ _ ?_; clear hK K); refine wpAnyIn_ready (rs := [4]) (by kernel_rfl) (by simp) (AllReadyIn.cons rfl (fun K hK => ?_) AllReadyIn.nil); (refine stepIn_append_own _ rfl (.tmp 26) (.tmp 29) 34 rfl (M + 4) 9 i0 (.string ByteArray.empty) 1 16 Try.underlying34 hi hz0 hz1 hz2 rfl (by decide) u pre.length (strV pre) rfl (hroU2.alloc _) ⟨U2.heap.size, 0, none⟩ 1 1 [.string (bs x)] rfl rfl (cell_one_new _ _ _) (by simp [Value.oneCell']) (by unfold maxLen; omega) (by omega) (by simp; omega) ?_; intro v' w2 hown' hgrow _; obtain ⟨g', cap', rfl⟩ := ownsRow_succ hown'; obtain ⟨hv1, hv2, _, hk2, hb2⟩ := huU2.appended (by decide) (own_lower hroU2 (b' := w.heap.size) (by omega)) hwU2 hMw (own_lower hown' (b' := w.heap.size) (by omega)) hgrow; have hr2 := hown'.kept (grownBy_setCell' w2 M (.slice (some ⟨g', 0, none⟩) (pre.length + 1) cap')) (.inr (hv1.not_row (by decide) hown').symm); have kk := kpt_append (T := T0) (Bs := M + 1) hS1.lt huU2 (by omega) rfl rfl (by decide) hroU2 (fun g hg => by have := (row_type hroU2 g hg).1; omega) hgrow (v' := .slice (some ⟨g', 0, none⟩) (pre.length + 1) cap'); have hc1 := hv1.cell; have hf1 := hv1.frozen; (go_simp; refine hK _ _ ?_; clear hK K); refine wpAnyIn_ready (rs := [5]) (by kernel_rfl) (by simp) (AllReadyIn.cons rfl (fun K hK => ?_) AllReadyIn.nil); (go_simp; refine hK _ _ ?_; clear hK K); refine wpAnyIn_done (by kernel_rfl) ?_ _; gi_wp2; refine ⟨(kVU.trans (keeps_below b3)).trans (hk2.from _), (pVU.trans (kpt_below j1.lt b3)).trans kk, ⟨_, hv2, ?_, trivial⟩, (bVU.trans (b3.mono bVU.size)).trans hb2, box_keep hS1 hroU2 (by decide) hgrow (by omega), box_keep hS2 hroU2 (by decide) hgrow (by omega), box_keep hS3 hroU2 (by decide) hgrow (by omega)⟩; rw [htl, List.length_append]; exact hr2)
        · (go_simp; refine hK _ _ ?_; clear hK K)
          refine wpAnyIn_ready (rs := [0]) (by kernel_rfl) (by simp) (AllReadyIn.cons rfl (fun K hK => ?_) AllReadyIn.nil)
          (go_simp; refine hK _ _ ?_; clear hK K)
          refine wpAnyIn_ready (rs := [4]) (by kernel_rfl) (by simp) (AllReadyIn.cons rfl (fun K hK => ?_) AllReadyIn.nil)
          (refine stepIn_append_own _ rfl (.tmp 26) (.tmp 29) 34 rfl (M + 4) 9 i0 (.string ByteArray.empty) 1 16 Try.underlying34 hi hz0 hz1 hz2 rfl (by decide) u pre.length (strV pre) rfl (hroU2.alloc _) ⟨U2.heap.size, 0, none⟩ 1 1 [.string (bs x)] rfl rfl (cell_one_new _ _ _) (by simp [Value.oneCell']) (by unfold maxLen; omega) (by omega) (by simp; omega) ?_; intro v' w2 hown' hgrow _; obtain ⟨g', cap', rfl⟩ := ownsRow_succ hown'; obtain ⟨hv1, hv2, _, hk2, hb2⟩ := huU2.appended (by decide) (own_lower hroU2 (b' := w.heap.size) (by omega)) hwU2 hMw (own_lower hown' (b' := w.heap.size) (by omega)) hgrow; have hr2 := hown'.kept (grownBy_setCell' w2 M (.slice (some ⟨g', 0, none⟩) (pre.length + 1) cap')) (.inr (hv1.not_row (by decide) hown').symm); have kk := kpt_append (T := T0) (Bs := M + 1) hS1.lt huU2 (by omega) rfl rfl (by decide) hroU2 (fun g hg => by have := (row_type hroU2 g hg).1; omega) hgrow (v' := .slice (some ⟨g', 0, none⟩) (pre.length + 1) cap'); have hc1 := hv1.cell; have hf1 := hv1.frozen; (go_simp; refine hK _ _ ?_; clear hK K); refine wpAnyIn_ready (rs := [5]) (by kernel_rfl) (by simp) (AllReadyIn.cons rfl (fun K hK => ?_) AllReadyIn.nil); (go_simp; refine hK _ _ ?_; clear hK K); refine wpAnyIn_done (by kernel_rfl) ?_ _; gi_wp2; refine ⟨(kVU.trans (keeps_below b3)).trans (hk2.from _), (pVU.trans (kpt_below j1.lt b3)).trans kk, ⟨_, hv2, ?_, trivial⟩, (bVU.trans (b3.mono bVU.size)).trans hb2, box_keep hS1 hroU2 (by decide) hgrow (by omega), box_keep hS2 hroU2 (by decide) hgrow (by omega), box_keep hS3 hroU2 (by decide) hgrow (by omega)⟩; rw [htl, List.length_append]; exact hr2)
  case done =>
    rintro D xs W hD rfl ⟨⟨v, hv, hrow, _⟩, hB, _, _, _⟩ hK
    have hc := hv.cell
    gi_wp2
    refine ⟨by simp, .inl ⟨_, _, rfl, run_takeDeferred hK, ?_⟩⟩
    have hrow' := own_lower hrow (b' := w.heap.size) (by omega)
    refine ⟨.tuple #[v, .int .i64 0], by simp [results, Try.results18, go_sem], v, rfl, ownsRow_putObj hrow' _ hK rfl, ?_⟩
    refine ⟨hB.os, hB.tape, hB.output, by simpa [World.putObj] using hB.size, fun k hk => ?_⟩
    exact (World.putObj_heap_other (by omega)).trans (hB.block k hk)
  case stop =>
    rintro D c pre W _ _ h _
    exact h.elim
set_option maxRecDepth 100000 in
set_option maxHeartbeats 4000000 in
theorem chunks_bad {b : Nat} {T : Tr} (f t : Int) (w : World) (h : TAt w b T) (hc : chk f t T.bytes.length = 2) : Calls Try.prog 18 #[.pointer (some ⟨b, 0, none⟩), .int .i64 f, .int .i64 t] w fun e w' => e = .returned (.tuple #[.slice none 0 0, .int .i64 2]) ∧ Below w.heap.size w w' := by
  have cV := check_any f t w h
  rw [hc] at cV
  go_enter Try.func18, Try.ntmps18
  go_wp2_with (go_at_call 35; refine cV.mono ?_; rintro e w1 ⟨rfl, k1⟩)
  refine bodyPost_ret (results_tmp2 rfl _ _ _) rfl ?_
  exact ⟨rfl, k1⟩
end Go.Proofs.Ytonplacldckbgaa
