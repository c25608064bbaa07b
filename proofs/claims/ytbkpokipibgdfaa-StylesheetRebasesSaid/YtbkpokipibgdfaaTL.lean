/- Layer 8: Chain (24). -/
import Derived.Test.YtbkpokipibgdfaaNK
import Derived.Test.YtbkpokipibgdfaaNI
import Derived.Test.YtbkpokipibgdfaaNG
import Derived.Test.YtbkpokipibgdfaaTJ
import Derived.Maps.AppendAt
namespace Go.Proofs.Ytbkpokipibgdfaa
open Go.RowKit Go.Lib Go.Maps
set_option linter.unusedVariables false

attribute [local go_sem] Oper.semAt_some
theorem stepIn_append_own {F : Fence} {n : Nat} {P : Program} (w : World) {ops : Array Oper} {o : Oper} {a : Act} {K : Act → World → Prop} {Q : Exit → Act → World → Prop} {E : Prop}
    (hg : o.guard = none) (s x : Operand) (t : TypeId) (hop : o.op = Op.call { callee := Callee.builtin Builtin.append, args := #[s, x], argTypes := #[t, t] })
    (base : Nat) (e : TypeId) (i : TypeInfo) (z : Value) (size bytes : Nat) (h1 : P.underlying t = some (.slice e)) (h2 : P.info? e = some i) (h3 : i.zero = some z) (h4 : i.size = size) (h5 : i.bytes = bytes) (h6 : z.cells.size = size) (h7 : 0 < size)
    (v : Value) (k : Nat) (xs : List Value) (hs : a.eval s = v) (hown : w.ownsRow base e size v k xs) (ad : Addr) (m c : Nat) (news : List Value) (hx : a.eval x = .slice (some ad) m c) (hn : news.length = m * size)
    (hc : ∀ j u, news[j]? = some u → w.cell? (ad.add j) = some u) (h1c : ∀ u ∈ news, u.oneCell' = true) (b1 : k + m ≤ maxLen) (b2 : (k + m) * bytes ≤ 140737488355328) (b3 : base ≤ w.heap.size)
    (hK : ∀ v' w', w'.ownsRow base e size v' (k + m) (xs ++ news) → w.grownBy w' v.ownBlock → (v' = .slice none 0 0 ↔ v = .slice none 0 0 ∧ m = 0) → K (a.put o.dst v') w') :
    if Region.wanted o (yielded ops a.tmps) = true then Oper.wpIn F n P o a w K Q else E := by
  have hw : Region.wanted o (yielded ops a.tmps) = true := by simp [Region.wanted, hg]
  rw [if_pos hw]
  obtain ⟨v', w', hrun, r1, r2, r3⟩ := run_append_own (P := P) w base t o.type e i z size bytes h1 h2 h3 h4 h5 h6 h7 v k xs hown ad m c news hn hc h1c b1 b2 b3
  unfold Oper.wpIn
  refine ⟨?_, ?_⟩
  · simp [Oper.about, hop, resolve, Target.leads, Sem.run_pure]
  · rw [Oper.semAt_plain F _ _ (by rw [hop]; intro c hc'; cases hc')]
    simp [execOp, hop, resolve, invoke, builtin, hs, hx, hrun, Result.andThen]
    exact hK v' w' r1 r2 r3
theorem box_keep {V w2 : World} {B N base size k : Nat} {t e : TypeId} {v u x : Value} {xs : List Value} {o : Obj} (h : Boxed V B t v) (hro : V.ownsRow base e size u k xs) (hte : t ≠ e) (hg : (V.alloc o).grownBy w2 u.ownBlock) (hne : B ≠ N) : Boxed (w2.setCell ⟨N, 0, none⟩ x) B t v :=
  Boxed.other ((h.alloc o).kept hg ((h.alloc o).not_row hte (hro.alloc o))) hne x
/-- The ids of styles by their places. -/
def idsL (l : List St) (xs : List Nat) : List Int := xs.map fun k => (l.getD k default).id
theorem idsL_snoc (l : List St) (xs : List Nat) (k : Nat) : idsL l (xs ++ [k]) = idsL l xs ++ [(l.getD k default).id] := by simp [idsL]
/-- What Chain hands back. -/
def ChnR (l : List St) (i : Int) (w : World) (e : Ending) (w' : World) : Prop :=
  ((chkI l i ≠ 0 ∧ e = .returned (.tuple #[.slice none 0 0, .int .i64 (chkI l i)])) ∨
    (chkI l i = 0 ∧ ∃ xs v, ChP l (plc l i) xs ∧ nxt l (plc l i) xs = none ∧ e = .returned (.tuple #[v, .int .i64 0]) ∧ w'.ownsRow w.heap.size 3 1 v xs.length (intsV (idsL l xs)))) ∧ Below w.heap.size w w'
set_option maxRecDepth 100000 in
set_option maxHeartbeats 8000000 in
theorem chain_bad (l : List St) (hok : LsOk l) (hnm : NmsOk l) (A : Option Addr) (m d : Nat) (hm : l.length = m) (hs : m ≤ 1000) (i : Int) (hi : I64 i) (hbad : chkI l i ≠ 0) (w : World) (hA : LsAt w A l) :
    Calls Try.prog 24 #[.slice A m d, .int .i64 i] w (ChnR l i w) := by
  have kb := (Below.refl w.heap.size w).alloc (Nat.le_refl _) (.cells #[.slice A m d] 22)
  have cO := openat_any l hok hnm A m d hm hs i hi _ (hA.below kb)
  have b0 := Boxed.new w 22 (.slice A m d)
  have g0 := b0.cell
  have KB := Go.Lib.hid kb
  have s0 := kb.size
  have HBAD := Go.Lib.hid hbad
  clear hA hok hnm kb b0 hbad
  go_enter Try.func24, Try.ntmps24
  go_wp2_with fail
  (with_reducible refine cO.mono ?_)
  rintro e w1 ⟨(⟨hz, rfl⟩ | ⟨b, k, hz, hp, rfl, hsh⟩), k1⟩
  · have e1 : (chkI l i != 0) = true := by simpa using hz
    have B1 := Go.Lib.hid ((KB.out.trans (k1.mono s0)).alloc (Nat.le_trans s0 k1.size) (.cells #[.slice none 0 0, .map none] 73))
    clear cO hz k1
    go_wp2
    go_ret2
    exact ⟨.inl ⟨HBAD.out, rfl⟩, B1.out⟩
  · exact absurd hz HBAD.out
set_option maxRecDepth 100000 in
set_option maxHeartbeats 16000000 in
theorem chain_in (l : List St) (hok : LsOk l) (hnm : NmsOk l) (A : Option Addr) (m d N : Nat) (hm : l.length = m) (hs : m ≤ 1000) (i : Int) (hi : I64 i) (hgood : chkI l i = 0) (hN : N ≤ 2000) (hbd : ∀ pre, ChP l (plc l i) pre → pre.length < N) (w : World) (hA : LsAt w A l) :
    CallsIn Fence.wide 7 Try.prog 24 #[.slice A m d, .int .i64 i] w (ChnR l i w) := by
  obtain ⟨i0, hi9, hz0, hz1, hz2⟩ := info_parts info3
  have kb := (Below.refl w.heap.size w).alloc (Nat.le_refl _) (.cells #[.slice A m d] 22)
  have cO := openat_any l hok hnm A m d hm hs i hi _ (hA.below kb)
  have b0 := Boxed.new w 22 (.slice A m d)
  have g0 := b0.cell
  have B0 := Go.Lib.hid b0
  have KB := Go.Lib.hid kb
  have s0 := kb.size
  have HG := Go.Lib.hid hgood
  have HBD := Go.Lib.hid hbd
  have HOK := Go.Lib.hid hok
  have HI := Go.Lib.hid hi
  have HM := Go.Lib.hid hm
  have cF := fun i w' b => chainF_any A m d b i w'
  clear hA hok hnm kb b0 hgood hbd hi hm
  refine callsIn_of_wp_marks Try.func24 rfl trivial ?_ rfl
  simp only [Try.ntmps24, List.size_toArray, List.length_cons, List.length_nil, Nat.reduceAdd, Nat.reduceSub, Array.replicate_succ, Array.replicate_zero, List.push_toArray, List.append_toArray, List.nil_append, List.cons_append]
  gi_wp2_with fail
  refine ⟨trivial, ?_⟩
  gi_at_call 50
  (with_reducible refine (callsIn_wide.2 cO).mono ?_)
  rintro e w1 ⟨(⟨hz, rfl⟩ | ⟨b, k, hz, hp, rfl, hsh⟩), k1⟩
  · exact absurd HG.out hz
  have hw1 : w.heap.size + 1 ≤ w1.heap.size := by have := k1.size; simpa using this
  have B1 := Go.Lib.hid (boxed_below B0.out k1)
  have K1 := Go.Lib.hid (KB.out.trans (k1.mono s0))
  have HSH := Go.Lib.hid hsh
  clear cO hz k1 hp hsh g0
  gi_wp2_with (refine ⟨trivial, ?_⟩; gi_at_call 51; refine (callsIn_wide.2 (cF _ _ _)).mono ?_; rintro e w2 ⟨rfl, rfl⟩)
  have hB0 : Below w1.heap.size w1 ((((w1.alloc (.cells #[.slice A m d, .map (some b)] 73)).alloc (.cells #[.slice none 0 0] 38)).alloc (.cells #[.slice A m d, .map (some b)] 73)).alloc (.cells #[.int .i64 i] 3)) := ((((Below.refl _ w1).alloc (Nat.le_refl _) _).alloc (by simp) _).alloc (by simp; omega) _).alloc (by simp; omega) _
  have bS := (((B1.out.alloc (.cells #[.slice A m d, .map (some b)] 73)).alloc (.cells #[.slice none 0 0] 38)).alloc (.cells #[.slice A m d, .map (some b)] 73)).alloc (.cells #[.int .i64 i] 3)
  have bN := ((Boxed.new (w1.alloc (.cells #[.slice A m d, .map (some b)] 73)) 38 (.slice none 0 0)).alloc (.cells #[.slice A m d, .map (some b)] 73)).alloc (.cells #[.int .i64 i] 3)
  rw [World.size_alloc] at bN
  have bC := (ObjAt.new ((w1.alloc (.cells #[.slice A m d, .map (some b)] 73)).alloc (.cells #[.slice none 0 0] 38)) #[.slice A m d, .map (some b)] 73).alloc (.cells #[.int .i64 i] 3)
  rw [World.size_alloc, World.size_alloc] at bC
  have bI := Boxed.new (((w1.alloc (.cells #[.slice A m d, .map (some b)] 73)).alloc (.cells #[.slice none 0 0] 38)).alloc (.cells #[.slice A m d, .map (some b)] 73)) 3 (.int .i64 i)
  rw [World.size_alloc, World.size_alloc, World.size_alloc] at bI
  obtain ⟨M, hM⟩ : ∃ M, w1.heap.size = M := ⟨_, rfl⟩
  have hsz4 : ((((w1.alloc (.cells #[.slice A m d, .map (some b)] 73)).alloc (.cells #[.slice none 0 0] 38)).alloc (.cells #[.slice A m d, .map (some b)] 73)).alloc (.cells #[.int .i64 i] 3)).heap.size = w1.heap.size + 4 := by simp
  have hch := chain_any 6 (by decide) (w1.heap.size + 1 + 1) (w1.heap.size + 1 + 1 + 1) A m d b N l i HI.out HOK.out w1.heap.size w1 _ rfl HSH.out bC bI
  generalize ((((w1.alloc (.cells #[.slice A m d, .map (some b)] 73)).alloc (.cells #[.slice none 0 0] 38)).alloc (.cells #[.slice A m d, .map (some b)] 73)).alloc (.cells #[.int .i64 i] 3)) = W0 at hB0 bS bN bC bI hsz4 hch ⊢
  rw [hM] at hB0 bN bC bI hsz4 hw1 hch ⊢
  have HM1 := Go.Lib.hid hM
  clear hM
  refine rangeH1 (T := TZ) (Bs := M + 1 + 1) (G := fun pre W => pre.length < N ∧ Below M w1 W) rfl (by decide) (gf := 69) (lb := #[.pointer (some ⟨M + 1 + 1, 0, none⟩), .pointer (some ⟨M + 1 + 1 + 1, 0, none⟩)]) rfl trivial (enters_of Try.func69 (by kernel_rfl) rfl)
    (by omega) hch
    (fun (pre : List Nat) W => ((∃ v, Boxed W (M + 1) 38 v ∧ W.ownsRow (M + 4) 3 1 v pre.length (intsV (idsL l pre)) ∧ True) ∧ Boxed W w.heap.size 22 (.slice A m d) ∧ ChP l (plc l i) pre) ∧ Below M w1 W) (fun _ _ _ => False) (fun _ _ h => ⟨HBD.out _ h.1.2.2, h.2⟩)
    (OwnT.and (OwnT.and (OwnT.row rfl rfl 1 (fun (pre : List Nat) => pre.length) (fun (pre : List Nat) => intsV (idsL l pre)) (fun _ _ => True)) (OwnT.and (OwnT.boxed rfl (fun _ => _)) OwnT.pure)) (OwnT.below (by rw [HM1.out]; exact Nat.le_refl _) (by omega))) (fun _ _ _ _ _ hs _ _ => hs)
    ⟨⟨⟨_, bN, World.ownsRow_nil _ _ _ _, trivial⟩, bS, ChP.nil _ _⟩, hB0⟩ ?round ?done ?stop
  case round =>
    clear bN bS bC bI hB0 cF hch
    rintro L pre k W ⟨⟨⟨v, hv, hrow, _⟩, hsh, hch⟩, hB⟩ hlt hsp hl hlW
    gi_wp2
    refine ⟨KeepsFrom.refl _ _, Kpt.refl _, ⟨⟨⟨v, hv, hrow, trivial⟩, hsh, hch⟩, hB⟩, ?_⟩
    rintro V hg ⟨⟨⟨u, hu, hro, _⟩, hsV, _⟩, hBV⟩
    have hkl := nxt_lt (hsp pre k [] rfl)
    obtain ⟨g, oo, rfl, hgg, hcl⟩ := HSH.out.list.pos (by omega)
    obtain ⟨B, c, h0, hrest⟩ := hcl k hkl
    have hkm : k < m := by rw [← HM.out]; exact hkl
    have f1 : (k : Int) < (m : Int) := by omega
    have f0 : (0 : Int) ≤ (k : Int) := by omega
    have htl : intsV (idsL l (pre ++ [k])) = intsV (idsL l pre) ++ [.int .i64 l[k].id] := by rw [idsL_snoc, intsV_snoc, List.getD_eq_getElem?_getD, List.getElem?_eq_getElem hkl]; rfl
    have hplN : pre.length ≤ 2000 := by omega
    have hVs : M + 4 ≤ V.drew.heap.size := by have := hg.size; have e : V.drew.heap.size = V.heap.size := rfl; omega
    clear hrest hcl hv hrow hsh hB hg
    generalize l[k].id = xid at h0 htl
    have kVU : KeepsFrom W0.heap.size V V.drew := (KeepsOthers.drew V).from _
    have pVU : Kpt TZ (M + 1 + 1) V V.drew := ⟨Nat.le_refl _, rfl, fun _ _ h _ => h⟩
    have bVU : Below M w1 V.drew := hBV.drew
    have huU2 : Boxed V.drew (M + 1) 38 u := hu
    have hroU2 : V.drew.ownsRow (M + 4) 3 1 u pre.length (intsV (idsL l pre)) := hro
    have hS1 : Boxed V.drew w.heap.size 22 (.slice (some ⟨g, oo, none⟩) m d) := hsV
    have z0 : V.drew.cell? ⟨g, oo + k * 6, none⟩ = some (.int .i64 xid) := (hBV.cell (p := ⟨g, oo + k * 6, none⟩) (by rw [← HM1.out]; exact hgg)).trans h0
    clear hu hro hBV h0 hsV
    gi_wp2
    refine wpIn_region_any (by kernel_rfl) ?_
    change wpAnyIn _ _ _ _ _ _ _ _ _ (World.drew _)
    generalize V.drew = U2 at kVU pVU bVU huU2 hroU2 hS1 hVs z0 ⊢
    have hcl := huU2.cell
    have hcl3 := (huU2.alloc (.cells #[.int .i64 xid] 3)).cell
    have hcs := hS1.cell
    have hwU2 : M ≤ U2.heap.size := by omega
    have hBs2 : M + 1 + 1 < U2.heap.size := by omega
    refine wpAnyIn_ready (rs := [0, 1, 2]) (by kernel_rfl) (by simp) (AllReadyIn.cons rfl (fun K hK => ?_) (AllReadyIn.cons rfl (fun K hK => ?_) (AllReadyIn.cons rfl (fun K hK => ?_) AllReadyIn.nil)))
    · (go_simp; refine hK _ _ ?_; clear hK K)
      refine wpAnyIn_ready (rs := [1, 2]) (by kernel_rfl) (by simp) (AllReadyIn.cons rfl (fun K hK => ?_) (AllReadyIn.cons rfl (fun K hK => ?_) AllReadyIn.nil))
      · (go_simp; refine hK _ _ ?_; clear hK K)
        refine wpAnyIn_ready (rs := [2]) (by kernel_rfl) (by simp) (AllReadyIn.cons rfl (fun K hK => ?_) AllReadyIn.nil)
        (go_simp; refine hK _ _ ?_; clear hK K)
        refine wpAnyIn_ready (rs := [3]) (by kernel_rfl) (by simp) (AllReadyIn.cons rfl (fun K hK => ?_) AllReadyIn.nil)
        (go_simp; refine hK _ _ ?_; clear hK K)
        refine wpAnyIn_ready (rs := [4]) (by kernel_rfl) (by simp) (AllReadyIn.cons rfl (fun K hK => ?_) AllReadyIn.nil)
        (go_simp; refine hK _ _ ?_; clear hK K)
        refine wpAnyIn_ready (rs := [5]) (by kernel_rfl) (by simp) (AllReadyIn.cons rfl (fun K hK => ?_) AllReadyIn.nil)
        (go_simp; refine hK _ _ ?_; clear hK K)
        refine wpAnyIn_ready (rs := [6]) (by kernel_rfl) (by simp) (AllReadyIn.cons rfl (fun K hK => ?_) AllReadyIn.nil)
        (go_simp; refine hK _ _ ?_; clear hK K)
        refine wpAnyIn_ready (rs := [7]) (by kernel_rfl) (by simp) (AllReadyIn.cons rfl (fun K hK => ?_) AllReadyIn.nil)
        (refine stepIn_append_own _ rfl (.tmp 25) (.tmp 31) 38 rfl (M + 4) 3 i0 (.int .i64 0) 1 8 Try.underlying38 hi9 hz0 hz1 hz2 rfl (by decide) u pre.length (intsV (idsL l pre)) rfl (hroU2.alloc _) ⟨U2.heap.size, 0, none⟩ 1 1 [.int .i64 xid] rfl rfl (cell_one_new _ _ _) (by simp [Value.oneCell']) (by unfold maxLen; omega) (by omega) (by simp; omega) ?_; intro v' w2 hown' hgrow _; obtain ⟨g', cap', rfl⟩ := ownsRow_succ hown'; obtain ⟨hv1, hv2, _, hk2, hb2⟩ := huU2.appended (by decide) (own_lower hroU2 (b' := M) (by omega)) hwU2 (by omega) (own_lower hown' (b' := M) (by omega)) hgrow; have hr2 := hown'.kept (grownBy_setCell' w2 (M + 1) (.slice (some ⟨g', 0, none⟩) (pre.length + 1) cap')) (.inr (hv1.not_row (by decide) hown').symm); have kk := kpt_append (T := TZ) (Bs := M + 2) hBs2 huU2 (by omega) rfl rfl (by decide) hroU2 (fun g hg => by have := (row_type hroU2 g hg).1; omega) hgrow (v' := .slice (some ⟨g', 0, none⟩) (pre.length + 1) cap'); have hc1 := hv1.cell; have hf1 := hv1.frozen; (go_simp; refine hK _ _ ?_; clear hK K); refine wpAnyIn_ready (rs := [8]) (by kernel_rfl) (by simp) (AllReadyIn.cons rfl (fun K hK => ?_) AllReadyIn.nil); (go_simp; refine hK _ _ ?_; clear hK K); refine wpAnyIn_done (by kernel_rfl) ?_ _; gi_wp2; refine ⟨kVU.trans (hk2.from _), pVU.trans kk, ⟨⟨⟨_, hv2, ?_, trivial⟩, box_keep hS1 hroU2 (by decide) hgrow (by omega), hsp⟩, bVU.trans hb2⟩⟩; rw [htl, List.length_append]; exact hr2)
      · (go_simp; refine hK _ _ ?_; clear hK K)
        refine wpAnyIn_ready (rs := [1]) (by kernel_rfl) (by simp) (AllReadyIn.cons rfl (fun K hK => ?_) AllReadyIn.nil)
        (go_simp; refine hK _ _ ?_; clear hK K)
        refine wpAnyIn_ready (rs := [3]) (by kernel_rfl) (by simp) (AllReadyIn.cons rfl (fun K hK => ?_) AllReadyIn.nil)
        (go_simp; refine hK _ _ ?_; clear hK K)
        refine wpAnyIn_ready (rs := [4]) (by kernel_rfl) (by simp) (AllReadyIn.cons rfl (fun K hK => ?_) AllReadyIn.nil)
        (go_simp; refine hK _ _ ?_; clear hK K)
        refine wpAnyIn_ready (rs := [5]) (by kernel_rfl) (by simp) (AllReadyIn.cons rfl (fun K hK => ?_) AllReadyIn.nil)
        (go_simp; refine hK _ _ ?_; clear hK K)
        refine wpAnyIn_ready (rs := [6]) (by kernel_rfl) (by simp) (AllReadyIn.cons rfl (fun K hK => ?_) AllReadyIn.nil)
        (go_simp; refine hK _ _ ?_; clear hK K)
        refine wpAnyIn_ready (rs := [7]) (by kernel_rfl) (by simp) (AllReadyIn.cons rfl (fun K hK => ?_) AllReadyIn.nil)
        (refine stepIn_append_own _ rfl (.tmp 25) (.tmp 31) 38 rfl (M + 4) 3 i0 (.int .i64 0) 1 8 Try.underlying38 hi9 hz0 hz1 hz2 rfl (by decide) u pre.length (intsV (idsL l pre)) rfl (hroU2.alloc _) ⟨U2.heap.size, 0, none⟩ 1 1 [.int .i64 xid] rfl rfl (cell_one_new _ _ _) (by simp [Value.oneCell']) (by unfold maxLen; omega) (by omega) (by simp; omega) ?_; intro v' w2 hown' hgrow _; obtain ⟨g', cap', rfl⟩ := ownsRow_succ hown'; obtain ⟨hv1, hv2, _, hk2, hb2⟩ := huU2.appended (by decide) (own_lower hroU2 (b' := M) (by omega)) hwU2 (by omega) (own_lower hown' (b' := M) (by omega)) hgrow; have hr2 := hown'.kept (grownBy_setCell' w2 (M + 1) (.slice (some ⟨g', 0, none⟩) (pre.length + 1) cap')) (.inr (hv1.not_row (by decide) hown').symm); have kk := kpt_append (T := TZ) (Bs := M + 2) hBs2 huU2 (by omega) rfl rfl (by decide) hroU2 (fun g hg => by have := (row_type hroU2 g hg).1; omega) hgrow (v' := .slice (some ⟨g', 0, none⟩) (pre.length + 1) cap'); have hc1 := hv1.cell; have hf1 := hv1.frozen; (go_simp; refine hK _ _ ?_; clear hK K); refine wpAnyIn_ready (rs := [8]) (by kernel_rfl) (by simp) (AllReadyIn.cons rfl (fun K hK => ?_) AllReadyIn.nil); (go_simp; refine hK _ _ ?_; clear hK K); refine wpAnyIn_done (by kernel_rfl) ?_ _; gi_wp2; refine ⟨kVU.trans (hk2.from _), pVU.trans kk, ⟨⟨⟨_, hv2, ?_, trivial⟩, box_keep hS1 hroU2 (by decide) hgrow (by omega), hsp⟩, bVU.trans hb2⟩⟩; rw [htl, List.length_append]; exact hr2)
    · (go_simp; refine hK _ _ ?_; clear hK K)
      refine wpAnyIn_ready (rs := [0, 2]) (by kernel_rfl) (by simp) (AllReadyIn.cons rfl (fun K hK => ?_) (AllReadyIn.cons rfl (fun K hK => ?_) AllReadyIn.nil))
      · (go_simp; refine hK _ _ ?_; clear hK K)
        refine wpAnyIn_ready (rs := [2]) (by kernel_rfl) (by simp) (AllReadyIn.cons rfl (fun K hK => ?_) AllReadyIn.nil)
        (go_simp; refine hK _ _ ?_; clear hK K)
        refine wpAnyIn_ready (rs := [3]) (by kernel_rfl) (by simp) (AllReadyIn.cons rfl (fun K hK => ?_) AllReadyIn.nil)
        (go_simp; refine hK _ _ ?_; clear hK K)
        refine wpAnyIn_ready (rs := [4]) (by kernel_rfl) (by simp) (AllReadyIn.cons rfl (fun K hK => ?_) AllReadyIn.nil)
        (go_simp; refine hK _ _ ?_; clear hK K)
        refine wpAnyIn_ready (rs := [5]) (by kernel_rfl) (by simp) (AllReadyIn.cons rfl (fun K hK => ?_) AllReadyIn.nil)
        (go_simp; refine hK _ _ ?_; clear hK K)
        refine wpAnyIn_ready (rs := [6]) (by kernel_rfl) (by simp) (AllReadyIn.cons rfl (fun K hK => ?_) AllReadyIn.nil)
        (go_simp; refine hK _ _ ?_; clear hK K)
        refine wpAnyIn_ready (rs := [7]) (by kernel_rfl) (by simp) (AllReadyIn.cons rfl (fun K hK => ?_) AllReadyIn.nil)
        (refine stepIn_append_own _ rfl (.tmp 25) (.tmp 31) 38 rfl (M + 4) 3 i0 (.int .i64 0) 1 8 Try.underlying38 hi9 hz0 hz1 hz2 rfl (by decide) u pre.length (intsV (idsL l pre)) rfl (hroU2.alloc _) ⟨U2.heap.size, 0, none⟩ 1 1 [.int .i64 xid] rfl rfl (cell_one_new _ _ _) (by simp [Value.oneCell']) (by unfold maxLen; omega) (by omega) (by simp; omega) ?_; intro v' w2 hown' hgrow _; obtain ⟨g', cap', rfl⟩ := ownsRow_succ hown'; obtain ⟨hv1, hv2, _, hk2, hb2⟩ := huU2.appended (by decide) (own_lower hroU2 (b' := M) (by omega)) hwU2 (by omega) (own_lower hown' (b' := M) (by omega)) hgrow; have hr2 := hown'.kept (grownBy_setCell' w2 (M + 1) (.slice (some ⟨g', 0, none⟩) (pre.length + 1) cap')) (.inr (hv1.not_row (by decide) hown').symm); have kk := kpt_append (T := TZ) (Bs := M + 2) hBs2 huU2 (by omega) rfl rfl (by decide) hroU2 (fun g hg => by have := (row_type hroU2 g hg).1; omega) hgrow (v' := .slice (some ⟨g', 0, none⟩) (pre.length + 1) cap'); have hc1 := hv1.cell; have hf1 := hv1.frozen; (go_simp; refine hK _ _ ?_; clear hK K); refine wpAnyIn_ready (rs := [8]) (by kernel_rfl) (by simp) (AllReadyIn.cons rfl (fun K hK => ?_) AllReadyIn.nil); (go_simp; refine hK _ _ ?_; clear hK K); refine wpAnyIn_done (by kernel_rfl) ?_ _; gi_wp2; refine ⟨kVU.trans (hk2.from _), pVU.trans kk, ⟨⟨⟨_, hv2, ?_, trivial⟩, box_keep hS1 hroU2 (by decide) hgrow (by omega), hsp⟩, bVU.trans hb2⟩⟩; rw [htl, List.length_append]; exact hr2)
      · (go_simp; refine hK _ _ ?_; clear hK K)
        refine wpAnyIn_ready (rs := [0, 3]) (by kernel_rfl) (by simp) (AllReadyIn.cons rfl (fun K hK => ?_) (AllReadyIn.cons rfl (fun K hK => ?_) AllReadyIn.nil))
        · (go_simp; refine hK _ _ ?_; clear hK K)
          refine wpAnyIn_ready (rs := [3]) (by kernel_rfl) (by simp) (AllReadyIn.cons rfl (fun K hK => ?_) AllReadyIn.nil)
          (go_simp; refine hK _ _ ?_; clear hK K)
          refine wpAnyIn_ready (rs := [4]) (by kernel_rfl) (by simp) (AllReadyIn.cons rfl (fun K hK => ?_) AllReadyIn.nil)
          (go_simp; refine hK _ _ ?_; clear hK K)
          refine wpAnyIn_ready (rs := [5]) (by kernel_rfl) (by simp) (AllReadyIn.cons rfl (fun K hK => ?_) AllReadyIn.nil)
          (go_simp; refine hK _ _ ?_; clear hK K)
          refine wpAnyIn_ready (rs := [6]) (by kernel_rfl) (by simp) (AllReadyIn.cons rfl (fun K hK => ?_) AllReadyIn.nil)
          (go_simp; refine hK _ _ ?_; clear hK K)
          refine wpAnyIn_ready (rs := [7]) (by kernel_rfl) (by simp) (AllReadyIn.cons rfl (fun K hK => ?_) AllReadyIn.nil)
          (refine stepIn_append_own _ rfl (.tmp 25) (.tmp 31) 38 rfl (M + 4) 3 i0 (.int .i64 0) 1 8 Try.underlying38 hi9 hz0 hz1 hz2 rfl (by decide) u pre.length (intsV (idsL l pre)) rfl (hroU2.alloc _) ⟨U2.heap.size, 0, none⟩ 1 1 [.int .i64 xid] rfl rfl (cell_one_new _ _ _) (by simp [Value.oneCell']) (by unfold maxLen; omega) (by omega) (by simp; omega) ?_; intro v' w2 hown' hgrow _; obtain ⟨g', cap', rfl⟩ := ownsRow_succ hown'; obtain ⟨hv1, hv2, _, hk2, hb2⟩ := huU2.appended (by decide) (own_lower hroU2 (b' := M) (by omega)) hwU2 (by omega) (own_lower hown' (b' := M) (by omega)) hgrow; have hr2 := hown'.kept (grownBy_setCell' w2 (M + 1) (.slice (some ⟨g', 0, none⟩) (pre.length + 1) cap')) (.inr (hv1.not_row (by decide) hown').symm); have kk := kpt_append (T := TZ) (Bs := M + 2) hBs2 huU2 (by omega) rfl rfl (by decide) hroU2 (fun g hg => by have := (row_type hroU2 g hg).1; omega) hgrow (v' := .slice (some ⟨g', 0, none⟩) (pre.length + 1) cap'); have hc1 := hv1.cell; have hf1 := hv1.frozen; (go_simp; refine hK _ _ ?_; clear hK K); refine wpAnyIn_ready (rs := [8]) (by kernel_rfl) (by simp) (AllReadyIn.cons rfl (fun K hK => ?_) AllReadyIn.nil); (go_simp; refine hK _ _ ?_; clear hK K); refine wpAnyIn_done (by kernel_rfl) ?_ _; gi_wp2; refine ⟨kVU.trans (hk2.from _), pVU.trans kk, ⟨⟨⟨_, hv2, ?_, trivial⟩, box_keep hS1 hroU2 (by decide) hgrow (by omega), hsp⟩, bVU.trans hb2⟩⟩; rw [htl, List.length_append]; exact hr2)
        · (go_simp; refine hK _ _ ?_; clear hK K)
          refine wpAnyIn_ready (rs := [0, 4]) (by kernel_rfl) (by simp) (AllReadyIn.cons rfl (fun K hK => ?_) (AllReadyIn.cons rfl (fun K hK => ?_) AllReadyIn.nil))
          · (go_simp; refine hK _ _ ?_; clear hK K)
            refine wpAnyIn_ready (rs := [4]) (by kernel_rfl) (by simp) (AllReadyIn.cons rfl (fun K hK => ?_) AllReadyIn.nil)
            (go_simp; refine hK _ _ ?_; clear hK K)
            refine wpAnyIn_ready (rs := [5]) (by kernel_rfl) (by simp) (AllReadyIn.cons rfl (fun K hK => ?_) AllReadyIn.nil)
            (go_simp; refine hK _ _ ?_; clear hK K)
            refine wpAnyIn_ready (rs := [6]) (by kernel_rfl) (by simp) (AllReadyIn.cons rfl (fun K hK => ?_) AllReadyIn.nil)
            (go_simp; refine hK _ _ ?_; clear hK K)
            refine wpAnyIn_ready (rs := [7]) (by kernel_rfl) (by simp) (AllReadyIn.cons rfl (fun K hK => ?_) AllReadyIn.nil)
            (refine stepIn_append_own _ rfl (.tmp 25) (.tmp 31) 38 rfl (M + 4) 3 i0 (.int .i64 0) 1 8 Try.underlying38 hi9 hz0 hz1 hz2 rfl (by decide) u pre.length (intsV (idsL l pre)) rfl (hroU2.alloc _) ⟨U2.heap.size, 0, none⟩ 1 1 [.int .i64 xid] rfl rfl (cell_one_new _ _ _) (by simp [Value.oneCell']) (by unfold maxLen; omega) (by omega) (by simp; omega) ?_; intro v' w2 hown' hgrow _; obtain ⟨g', cap', rfl⟩ := ownsRow_succ hown'; obtain ⟨hv1, hv2, _, hk2, hb2⟩ := huU2.appended (by decide) (own_lower hroU2 (b' := M) (by omega)) hwU2 (by omega) (own_lower hown' (b' := M) (by omega)) hgrow; have hr2 := hown'.kept (grownBy_setCell' w2 (M + 1) (.slice (some ⟨g', 0, none⟩) (pre.length + 1) cap')) (.inr (hv1.not_row (by decide) hown').symm); have kk := kpt_append (T := TZ) (Bs := M + 2) hBs2 huU2 (by omega) rfl rfl (by decide) hroU2 (fun g hg => by have := (row_type hroU2 g hg).1; omega) hgrow (v' := .slice (some ⟨g', 0, none⟩) (pre.length + 1) cap'); have hc1 := hv1.cell; have hf1 := hv1.frozen; (go_simp; refine hK _ _ ?_; clear hK K); refine wpAnyIn_ready (rs := [8]) (by kernel_rfl) (by simp) (AllReadyIn.cons rfl (fun K hK => ?_) AllReadyIn.nil); (go_simp; refine hK _ _ ?_; clear hK K); refine wpAnyIn_done (by kernel_rfl) ?_ _; gi_wp2; refine ⟨kVU.trans (hk2.from _), pVU.trans kk, ⟨⟨⟨_, hv2, ?_, trivial⟩, box_keep hS1 hroU2 (by decide) hgrow (by omega), hsp⟩, bVU.trans hb2⟩⟩; rw [htl, List.length_append]; exact hr2)
          · (go_simp; refine hK _ _ ?_; clear hK K)
            refine wpAnyIn_ready (rs := [0, 5]) (by kernel_rfl) (by simp) (AllReadyIn.cons rfl (fun K hK => ?_) (AllReadyIn.cons rfl (fun K hK => ?_) AllReadyIn.nil))
            · (go_simp; refine hK _ _ ?_; clear hK K)
              refine wpAnyIn_ready (rs := [5]) (by kernel_rfl) (by simp) (AllReadyIn.cons rfl (fun K hK => ?_) AllReadyIn.nil)
              (go_simp; refine hK _ _ ?_; clear hK K)
              refine wpAnyIn_ready (rs := [6]) (by kernel_rfl) (by simp) (AllReadyIn.cons rfl (fun K hK => ?_) AllReadyIn.nil)
              (go_simp; refine hK _ _ ?_; clear hK K)
              refine wpAnyIn_ready (rs := [7]) (by kernel_rfl) (by simp) (AllReadyIn.cons rfl (fun K hK => ?_) AllReadyIn.nil)
              (refine stepIn_append_own _ rfl (.tmp 25) (.tmp 31) 38 rfl (M + 4) 3 i0 (.int .i64 0) 1 8 Try.underlying38 hi9 hz0 hz1 hz2 rfl (by decide) u pre.length (intsV (idsL l pre)) rfl (hroU2.alloc _) ⟨U2.heap.size, 0, none⟩ 1 1 [.int .i64 xid] rfl rfl (cell_one_new _ _ _) (by simp [Value.oneCell']) (by unfold maxLen; omega) (by omega) (by simp; omega) ?_; intro v' w2 hown' hgrow _; obtain ⟨g', cap', rfl⟩ := ownsRow_succ hown'; obtain ⟨hv1, hv2, _, hk2, hb2⟩ := huU2.appended (by decide) (own_lower hroU2 (b' := M) (by omega)) hwU2 (by omega) (own_lower hown' (b' := M) (by omega)) hgrow; have hr2 := hown'.kept (grownBy_setCell' w2 (M + 1) (.slice (some ⟨g', 0, none⟩) (pre.length + 1) cap')) (.inr (hv1.not_row (by decide) hown').symm); have kk := kpt_append (T := TZ) (Bs := M + 2) hBs2 huU2 (by omega) rfl rfl (by decide) hroU2 (fun g hg => by have := (row_type hroU2 g hg).1; omega) hgrow (v' := .slice (some ⟨g', 0, none⟩) (pre.length + 1) cap'); have hc1 := hv1.cell; have hf1 := hv1.frozen; (go_simp; refine hK _ _ ?_; clear hK K); refine wpAnyIn_ready (rs := [8]) (by kernel_rfl) (by simp) (AllReadyIn.cons rfl (fun K hK => ?_) AllReadyIn.nil); (go_simp; refine hK _ _ ?_; clear hK K); refine wpAnyIn_done (by kernel_rfl) ?_ _; gi_wp2; refine ⟨kVU.trans (hk2.from _), pVU.trans kk, ⟨⟨⟨_, hv2, ?_, trivial⟩, box_keep hS1 hroU2 (by decide) hgrow (by omega), hsp⟩, bVU.trans hb2⟩⟩; rw [htl, List.length_append]; exact hr2)
            · (go_simp; refine hK _ _ ?_; clear hK K)
              refine wpAnyIn_ready (rs := [0, 6]) (by kernel_rfl) (by simp) (AllReadyIn.cons rfl (fun K hK => ?_) (AllReadyIn.cons rfl (fun K hK => ?_) AllReadyIn.nil))
              · (go_simp; refine hK _ _ ?_; clear hK K)
                refine wpAnyIn_ready (rs := [6]) (by kernel_rfl) (by simp) (AllReadyIn.cons rfl (fun K hK => ?_) AllReadyIn.nil)
                (go_simp; refine hK _ _ ?_; clear hK K)
                refine wpAnyIn_ready (rs := [7]) (by kernel_rfl) (by simp) (AllReadyIn.cons rfl (fun K hK => ?_) AllReadyIn.nil)
                (refine stepIn_append_own _ rfl (.tmp 25) (.tmp 31) 38 rfl (M + 4) 3 i0 (.int .i64 0) 1 8 Try.underlying38 hi9 hz0 hz1 hz2 rfl (by decide) u pre.length (intsV (idsL l pre)) rfl (hroU2.alloc _) ⟨U2.heap.size, 0, none⟩ 1 1 [.int .i64 xid] rfl rfl (cell_one_new _ _ _) (by simp [Value.oneCell']) (by unfold maxLen; omega) (by omega) (by simp; omega) ?_; intro v' w2 hown' hgrow _; obtain ⟨g', cap', rfl⟩ := ownsRow_succ hown'; obtain ⟨hv1, hv2, _, hk2, hb2⟩ := huU2.appended (by decide) (own_lower hroU2 (b' := M) (by omega)) hwU2 (by omega) (own_lower hown' (b' := M) (by omega)) hgrow; have hr2 := hown'.kept (grownBy_setCell' w2 (M + 1) (.slice (some ⟨g', 0, none⟩) (pre.length + 1) cap')) (.inr (hv1.not_row (by decide) hown').symm); have kk := kpt_append (T := TZ) (Bs := M + 2) hBs2 huU2 (by omega) rfl rfl (by decide) hroU2 (fun g hg => by have := (row_type hroU2 g hg).1; omega) hgrow (v' := .slice (some ⟨g', 0, none⟩) (pre.length + 1) cap'); have hc1 := hv1.cell; have hf1 := hv1.frozen; (go_simp; refine hK _ _ ?_; clear hK K); refine wpAnyIn_ready (rs := [8]) (by kernel_rfl) (by simp) (AllReadyIn.cons rfl (fun K hK => ?_) AllReadyIn.nil); (go_simp; refine hK _ _ ?_; clear hK K); refine wpAnyIn_done (by kernel_rfl) ?_ _; gi_wp2; refine ⟨kVU.trans (hk2.from _), pVU.trans kk, ⟨⟨⟨_, hv2, ?_, trivial⟩, box_keep hS1 hroU2 (by decide) hgrow (by omega), hsp⟩, bVU.trans hb2⟩⟩; rw [htl, List.length_append]; exact hr2)
              · (go_simp; refine hK _ _ ?_; clear hK K)
                refine wpAnyIn_ready (rs := [0]) (by kernel_rfl) (by simp) (AllReadyIn.cons rfl (fun K hK => ?_) AllReadyIn.nil)
                (go_simp; refine hK _ _ ?_; clear hK K)
                refine wpAnyIn_ready (rs := [7]) (by kernel_rfl) (by simp) (AllReadyIn.cons rfl (fun K hK => ?_) AllReadyIn.nil)
                (refine stepIn_append_own _ rfl (.tmp 25) (.tmp 31) 38 rfl (M + 4) 3 i0 (.int .i64 0) 1 8 Try.underlying38 hi9 hz0 hz1 hz2 rfl (by decide) u pre.length (intsV (idsL l pre)) rfl (hroU2.alloc _) ⟨U2.heap.size, 0, none⟩ 1 1 [.int .i64 xid] rfl rfl (cell_one_new _ _ _) (by simp [Value.oneCell']) (by unfold maxLen; omega) (by omega) (by simp; omega) ?_; intro v' w2 hown' hgrow _; obtain ⟨g', cap', rfl⟩ := ownsRow_succ hown'; obtain ⟨hv1, hv2, _, hk2, hb2⟩ := huU2.appended (by decide) (own_lower hroU2 (b' := M) (by omega)) hwU2 (by omega) (own_lower hown' (b' := M) (by omega)) hgrow; have hr2 := hown'.kept (grownBy_setCell' w2 (M + 1) (.slice (some ⟨g', 0, none⟩) (pre.length + 1) cap')) (.inr (hv1.not_row (by decide) hown').symm); have kk := kpt_append (T := TZ) (Bs := M + 2) hBs2 huU2 (by omega) rfl rfl (by decide) hroU2 (fun g hg => by have := (row_type hroU2 g hg).1; omega) hgrow (v' := .slice (some ⟨g', 0, none⟩) (pre.length + 1) cap'); have hc1 := hv1.cell; have hf1 := hv1.frozen; (go_simp; refine hK _ _ ?_; clear hK K); refine wpAnyIn_ready (rs := [8]) (by kernel_rfl) (by simp) (AllReadyIn.cons rfl (fun K hK => ?_) AllReadyIn.nil); (go_simp; refine hK _ _ ?_; clear hK K); refine wpAnyIn_done (by kernel_rfl) ?_ _; gi_wp2; refine ⟨kVU.trans (hk2.from _), pVU.trans kk, ⟨⟨⟨_, hv2, ?_, trivial⟩, box_keep hS1 hroU2 (by decide) hgrow (by omega), hsp⟩, bVU.trans hb2⟩⟩; rw [htl, List.length_append]; exact hr2)
    · (go_simp; refine hK _ _ ?_; clear hK K)
      refine wpAnyIn_ready (rs := [0, 1]) (by kernel_rfl) (by simp) (AllReadyIn.cons rfl (fun K hK => ?_) (AllReadyIn.cons rfl (fun K hK => ?_) AllReadyIn.nil))
      · (go_simp; refine hK _ _ ?_; clear hK K)
        refine wpAnyIn_ready (rs := [1]) (by kernel_rfl) (by simp) (AllReadyIn.cons rfl (fun K hK => ?_) AllReadyIn.nil)
        (go_simp; refine hK _ _ ?_; clear hK K)
        refine wpAnyIn_ready (rs := [3]) (by kernel_rfl) (by simp) (AllReadyIn.cons rfl (fun K hK => ?_) AllReadyIn.nil)
        (go_simp; refine hK _ _ ?_; clear hK K)
        refine wpAnyIn_ready (rs := [4]) (by kernel_rfl) (by simp) (AllReadyIn.cons rfl (fun K hK => ?_) AllReadyIn.nil)
        (go_simp; refine hK _ _ ?_; clear hK K)
        refine wpAnyIn_ready (rs := [5]) (by kernel_rfl) (by simp) (AllReadyIn.cons rfl (fun K hK => ?_) AllReadyIn.nil)
        (go_simp; refine hK _ _ ?_; clear hK K)
        refine wpAnyIn_ready (rs := [6]) (by kernel_rfl) (by simp) (AllReadyIn.cons rfl (fun K hK => ?_) AllReadyIn.nil)
        (go_simp; refine hK _ _ ?_; clear hK K)
        refine wpAnyIn_ready (rs := [7]) (by kernel_rfl) (by simp) (AllReadyIn.cons rfl (fun K hK => ?_) AllReadyIn.nil)
        (refine stepIn_append_own _ rfl (.tmp 25) (.tmp 31) 38 rfl (M + 4) 3 i0 (.int .i64 0) 1 8 Try.underlying38 hi9 hz0 hz1 hz2 rfl (by decide) u pre.length (intsV (idsL l pre)) rfl (hroU2.alloc _) ⟨U2.heap.size, 0, none⟩ 1 1 [.int .i64 xid] rfl rfl (cell_one_new _ _ _) (by simp [Value.oneCell']) (by unfold maxLen; omega) (by omega) (by simp; omega) ?_; intro v' w2 hown' hgrow _; obtain ⟨g', cap', rfl⟩ := ownsRow_succ hown'; obtain ⟨hv1, hv2, _, hk2, hb2⟩ := huU2.appended (by decide) (own_lower hroU2 (b' := M) (by omega)) hwU2 (by omega) (own_lower hown' (b' := M) (by omega)) hgrow; have hr2 := hown'.kept (grownBy_setCell' w2 (M + 1) (.slice (some ⟨g', 0, none⟩) (pre.length + 1) cap')) (.inr (hv1.not_row (by decide) hown').symm); have kk := kpt_append (T := TZ) (Bs := M + 2) hBs2 huU2 (by omega) rfl rfl (by decide) hroU2 (fun g hg => by have := (row_type hroU2 g hg).1; omega) hgrow (v' := .slice (some ⟨g', 0, none⟩) (pre.length + 1) cap'); have hc1 := hv1.cell; have hf1 := hv1.frozen; (go_simp; refine hK _ _ ?_; clear hK K); refine wpAnyIn_ready (rs := [8]) (by kernel_rfl) (by simp) (AllReadyIn.cons rfl (fun K hK => ?_) AllReadyIn.nil); (go_simp; refine hK _ _ ?_; clear hK K); refine wpAnyIn_done (by kernel_rfl) ?_ _; gi_wp2; refine ⟨kVU.trans (hk2.from _), pVU.trans kk, ⟨⟨⟨_, hv2, ?_, trivial⟩, box_keep hS1 hroU2 (by decide) hgrow (by omega), hsp⟩, bVU.trans hb2⟩⟩; rw [htl, List.length_append]; exact hr2)
      · (go_simp; refine hK _ _ ?_; clear hK K)
        refine wpAnyIn_ready (rs := [0, 3]) (by kernel_rfl) (by simp) (AllReadyIn.cons rfl (fun K hK => ?_) (AllReadyIn.cons rfl (fun K hK => ?_) AllReadyIn.nil))
        · (go_simp; refine hK _ _ ?_; clear hK K)
          refine wpAnyIn_ready (rs := [3]) (by kernel_rfl) (by simp) (AllReadyIn.cons rfl (fun K hK => ?_) AllReadyIn.nil)
          (go_simp; refine hK _ _ ?_; clear hK K)
          refine wpAnyIn_ready (rs := [4]) (by kernel_rfl) (by simp) (AllReadyIn.cons rfl (fun K hK => ?_) AllReadyIn.nil)
          (go_simp; refine hK _ _ ?_; clear hK K)
          refine wpAnyIn_ready (rs := [5]) (by kernel_rfl) (by simp) (AllReadyIn.cons rfl (fun K hK => ?_) AllReadyIn.nil)
          (go_simp; refine hK _ _ ?_; clear hK K)
          refine wpAnyIn_ready (rs := [6]) (by kernel_rfl) (by simp) (AllReadyIn.cons rfl (fun K hK => ?_) AllReadyIn.nil)
          (go_simp; refine hK _ _ ?_; clear hK K)
          refine wpAnyIn_ready (rs := [7]) (by kernel_rfl) (by simp) (AllReadyIn.cons rfl (fun K hK => ?_) AllReadyIn.nil)
          (refine stepIn_append_own _ rfl (.tmp 25) (.tmp 31) 38 rfl (M + 4) 3 i0 (.int .i64 0) 1 8 Try.underlying38 hi9 hz0 hz1 hz2 rfl (by decide) u pre.length (intsV (idsL l pre)) rfl (hroU2.alloc _) ⟨U2.heap.size, 0, none⟩ 1 1 [.int .i64 xid] rfl rfl (cell_one_new _ _ _) (by simp [Value.oneCell']) (by unfold maxLen; omega) (by omega) (by simp; omega) ?_; intro v' w2 hown' hgrow _; obtain ⟨g', cap', rfl⟩ := ownsRow_succ hown'; obtain ⟨hv1, hv2, _, hk2, hb2⟩ := huU2.appended (by decide) (own_lower hroU2 (b' := M) (by omega)) hwU2 (by omega) (own_lower hown' (b' := M) (by omega)) hgrow; have hr2 := hown'.kept (grownBy_setCell' w2 (M + 1) (.slice (some ⟨g', 0, none⟩) (pre.length + 1) cap')) (.inr (hv1.not_row (by decide) hown').symm); have kk := kpt_append (T := TZ) (Bs := M + 2) hBs2 huU2 (by omega) rfl rfl (by decide) hroU2 (fun g hg => by have := (row_type hroU2 g hg).1; omega) hgrow (v' := .slice (some ⟨g', 0, none⟩) (pre.length + 1) cap'); have hc1 := hv1.cell; have hf1 := hv1.frozen; (go_simp; refine hK _ _ ?_; clear hK K); refine wpAnyIn_ready (rs := [8]) (by kernel_rfl) (by simp) (AllReadyIn.cons rfl (fun K hK => ?_) AllReadyIn.nil); (go_simp; refine hK _ _ ?_; clear hK K); refine wpAnyIn_done (by kernel_rfl) ?_ _; gi_wp2; refine ⟨kVU.trans (hk2.from _), pVU.trans kk, ⟨⟨⟨_, hv2, ?_, trivial⟩, box_keep hS1 hroU2 (by decide) hgrow (by omega), hsp⟩, bVU.trans hb2⟩⟩; rw [htl, List.length_append]; exact hr2)
        · (go_simp; refine hK _ _ ?_; clear hK K)
          refine wpAnyIn_ready (rs := [0, 4]) (by kernel_rfl) (by simp) (AllReadyIn.cons rfl (fun K hK => ?_) (AllReadyIn.cons rfl (fun K hK => ?_) AllReadyIn.nil))
          · (go_simp; refine hK _ _ ?_; clear hK K)
            refine wpAnyIn_ready (rs := [4]) (by kernel_rfl) (by simp) (AllReadyIn.cons rfl (fun K hK => ?_) AllReadyIn.nil)
            (go_simp; refine hK _ _ ?_; clear hK K)
            refine wpAnyIn_ready (rs := [5]) (by kernel_rfl) (by simp) (AllReadyIn.cons rfl (fun K hK => ?_) AllReadyIn.nil)
            (go_simp; refine hK _ _ ?_; clear hK K)
            refine wpAnyIn_ready (rs := [6]) (by kernel_rfl) (by simp) (AllReadyIn.cons rfl (fun K hK => ?_) AllReadyIn.nil)
            (go_simp; refine hK _ _ ?_; clear hK K)
            refine wpAnyIn_ready (rs := [7]) (by kernel_rfl) (by simp) (AllReadyIn.cons rfl (fun K hK => ?_) AllReadyIn.nil)
            (refine stepIn_append_own _ rfl (.tmp 25) (.tmp 31) 38 rfl (M + 4) 3 i0 (.int .i64 0) 1 8 Try.underlying38 hi9 hz0 hz1 hz2 rfl (by decide) u pre.length (intsV (idsL l pre)) rfl (hroU2.alloc _) ⟨U2.heap.size, 0, none⟩ 1 1 [.int .i64 xid] rfl rfl (cell_one_new _ _ _) (by simp [Value.oneCell']) (by unfold maxLen; omega) (by omega) (by simp; omega) ?_; intro v' w2 hown' hgrow _; obtain ⟨g', cap', rfl⟩ := ownsRow_succ hown'; obtain ⟨hv1, hv2, _, hk2, hb2⟩ := huU2.appended (by decide) (own_lower hroU2 (b' := M) (by omega)) hwU2 (by omega) (own_lower hown' (b' := M) (by omega)) hgrow; have hr2 := hown'.kept (grownBy_setCell' w2 (M + 1) (.slice (some ⟨g', 0, none⟩) (pre.length + 1) cap')) (.inr (hv1.not_row (by decide) hown').symm); have kk := kpt_append (T := TZ) (Bs := M + 2) hBs2 huU2 (by omega) rfl rfl (by decide) hroU2 (fun g hg => by have := (row_type hroU2 g hg).1; omega) hgrow (v' := .slice (some ⟨g', 0, none⟩) (pre.length + 1) cap'); have hc1 := hv1.cell; have hf1 := hv1.frozen; (go_simp; refine hK _ _ ?_; clear hK K); refine wpAnyIn_ready (rs := [8]) (by kernel_rfl) (by simp) (AllReadyIn.cons rfl (fun K hK => ?_) AllReadyIn.nil); (go_simp; refine hK _ _ ?_; clear hK K); refine wpAnyIn_done (by kernel_rfl) ?_ _; gi_wp2; refine ⟨kVU.trans (hk2.from _), pVU.trans kk, ⟨⟨⟨_, hv2, ?_, trivial⟩, box_keep hS1 hroU2 (by decide) hgrow (by omega), hsp⟩, bVU.trans hb2⟩⟩; rw [htl, List.length_append]; exact hr2)
          · (go_simp; refine hK _ _ ?_; clear hK K)
            refine wpAnyIn_ready (rs := [0, 5]) (by kernel_rfl) (by simp) (AllReadyIn.cons rfl (fun K hK => ?_) (AllReadyIn.cons rfl (fun K hK => ?_) AllReadyIn.nil))
            · (go_simp; refine hK _ _ ?_; clear hK K)
              refine wpAnyIn_ready (rs := [5]) (by kernel_rfl) (by simp) (AllReadyIn.cons rfl (fun K hK => ?_) AllReadyIn.nil)
              (go_simp; refine hK _ _ ?_; clear hK K)
              refine wpAnyIn_ready (rs := [6]) (by kernel_rfl) (by simp) (AllReadyIn.cons rfl (fun K hK => ?_) AllReadyIn.nil)
              (go_simp; refine hK _ _ ?_; clear hK K)
              refine wpAnyIn_ready (rs := [7]) (by kernel_rfl) (by simp) (AllReadyIn.cons rfl (fun K hK => ?_) AllReadyIn.nil)
              (refine stepIn_append_own _ rfl (.tmp 25) (.tmp 31) 38 rfl (M + 4) 3 i0 (.int .i64 0) 1 8 Try.underlying38 hi9 hz0 hz1 hz2 rfl (by decide) u pre.length (intsV (idsL l pre)) rfl (hroU2.alloc _) ⟨U2.heap.size, 0, none⟩ 1 1 [.int .i64 xid] rfl rfl (cell_one_new _ _ _) (by simp [Value.oneCell']) (by unfold maxLen; omega) (by omega) (by simp; omega) ?_; intro v' w2 hown' hgrow _; obtain ⟨g', cap', rfl⟩ := ownsRow_succ hown'; obtain ⟨hv1, hv2, _, hk2, hb2⟩ := huU2.appended (by decide) (own_lower hroU2 (b' := M) (by omega)) hwU2 (by omega) (own_lower hown' (b' := M) (by omega)) hgrow; have hr2 := hown'.kept (grownBy_setCell' w2 (M + 1) (.slice (some ⟨g', 0, none⟩) (pre.length + 1) cap')) (.inr (hv1.not_row (by decide) hown').symm); have kk := kpt_append (T := TZ) (Bs := M + 2) hBs2 huU2 (by omega) rfl rfl (by decide) hroU2 (fun g hg => by have := (row_type hroU2 g hg).1; omega) hgrow (v' := .slice (some ⟨g', 0, none⟩) (pre.length + 1) cap'); have hc1 := hv1.cell; have hf1 := hv1.frozen; (go_simp; refine hK _ _ ?_; clear hK K); refine wpAnyIn_ready (rs := [8]) (by kernel_rfl) (by simp) (AllReadyIn.cons rfl (fun K hK => ?_) AllReadyIn.nil); (go_simp; refine hK _ _ ?_; clear hK K); refine wpAnyIn_done (by kernel_rfl) ?_ _; gi_wp2; refine ⟨kVU.trans (hk2.from _), pVU.trans kk, ⟨⟨⟨_, hv2, ?_, trivial⟩, box_keep hS1 hroU2 (by decide) hgrow (by omega), hsp⟩, bVU.trans hb2⟩⟩; rw [htl, List.length_append]; exact hr2)
            · (go_simp; refine hK _ _ ?_; clear hK K)
              refine wpAnyIn_ready (rs := [0, 6]) (by kernel_rfl) (by simp) (AllReadyIn.cons rfl (fun K hK => ?_) (AllReadyIn.cons rfl (fun K hK => ?_) AllReadyIn.nil))
              · (go_simp; refine hK _ _ ?_; clear hK K)
                refine wpAnyIn_ready (rs := [6]) (by kernel_rfl) (by simp) (AllReadyIn.cons rfl (fun K hK => ?_) AllReadyIn.nil)
                (go_simp; refine hK _ _ ?_; clear hK K)
                refine wpAnyIn_ready (rs := [7]) (by kernel_rfl) (by simp) (AllReadyIn.cons rfl (fun K hK => ?_) AllReadyIn.nil)
                (refine stepIn_append_own _ rfl (.tmp 25) (.tmp 31) 38 rfl (M + 4) 3 i0 (.int .i64 0) 1 8 Try.underlying38 hi9 hz0 hz1 hz2 rfl (by decide) u pre.length (intsV (idsL l pre)) rfl (hroU2.alloc _) ⟨U2.heap.size, 0, none⟩ 1 1 [.int .i64 xid] rfl rfl (cell_one_new _ _ _) (by simp [Value.oneCell']) (by unfold maxLen; omega) (by omega) (by simp; omega) ?_; intro v' w2 hown' hgrow _; obtain ⟨g', cap', rfl⟩ := ownsRow_succ hown'; obtain ⟨hv1, hv2, _, hk2, hb2⟩ := huU2.appended (by decide) (own_lower hroU2 (b' := M) (by omega)) hwU2 (by omega) (own_lower hown' (b' := M) (by omega)) hgrow; have hr2 := hown'.kept (grownBy_setCell' w2 (M + 1) (.slice (some ⟨g', 0, none⟩) (pre.length + 1) cap')) (.inr (hv1.not_row (by decide) hown').symm); have kk := kpt_append (T := TZ) (Bs := M + 2) hBs2 huU2 (by omega) rfl rfl (by decide) hroU2 (fun g hg => by have := (row_type hroU2 g hg).1; omega) hgrow (v' := .slice (some ⟨g', 0, none⟩) (pre.length + 1) cap'); have hc1 := hv1.cell; have hf1 := hv1.frozen; (go_simp; refine hK _ _ ?_; clear hK K); refine wpAnyIn_ready (rs := [8]) (by kernel_rfl) (by simp) (AllReadyIn.cons rfl (fun K hK => ?_) AllReadyIn.nil); (go_simp; refine hK _ _ ?_; clear hK K); refine wpAnyIn_done (by kernel_rfl) ?_ _; gi_wp2; refine ⟨kVU.trans (hk2.from _), pVU.trans kk, ⟨⟨⟨_, hv2, ?_, trivial⟩, box_keep hS1 hroU2 (by decide) hgrow (by omega), hsp⟩, bVU.trans hb2⟩⟩; rw [htl, List.length_append]; exact hr2)
              · (go_simp; refine hK _ _ ?_; clear hK K)
                refine wpAnyIn_ready (rs := [0]) (by kernel_rfl) (by simp) (AllReadyIn.cons rfl (fun K hK => ?_) AllReadyIn.nil)
                (go_simp; refine hK _ _ ?_; clear hK K)
                refine wpAnyIn_ready (rs := [7]) (by kernel_rfl) (by simp) (AllReadyIn.cons rfl (fun K hK => ?_) AllReadyIn.nil)
                (refine stepIn_append_own _ rfl (.tmp 25) (.tmp 31) 38 rfl (M + 4) 3 i0 (.int .i64 0) 1 8 Try.underlying38 hi9 hz0 hz1 hz2 rfl (by decide) u pre.length (intsV (idsL l pre)) rfl (hroU2.alloc _) ⟨U2.heap.size, 0, none⟩ 1 1 [.int .i64 xid] rfl rfl (cell_one_new _ _ _) (by simp [Value.oneCell']) (by unfold maxLen; omega) (by omega) (by simp; omega) ?_; intro v' w2 hown' hgrow _; obtain ⟨g', cap', rfl⟩ := ownsRow_succ hown'; obtain ⟨hv1, hv2, _, hk2, hb2⟩ := huU2.appended (by decide) (own_lower hroU2 (b' := M) (by omega)) hwU2 (by omega) (own_lower hown' (b' := M) (by omega)) hgrow; have hr2 := hown'.kept (grownBy_setCell' w2 (M + 1) (.slice (some ⟨g', 0, none⟩) (pre.length + 1) cap')) (.inr (hv1.not_row (by decide) hown').symm); have kk := kpt_append (T := TZ) (Bs := M + 2) hBs2 huU2 (by omega) rfl rfl (by decide) hroU2 (fun g hg => by have := (row_type hroU2 g hg).1; omega) hgrow (v' := .slice (some ⟨g', 0, none⟩) (pre.length + 1) cap'); have hc1 := hv1.cell; have hf1 := hv1.frozen; (go_simp; refine hK _ _ ?_; clear hK K); refine wpAnyIn_ready (rs := [8]) (by kernel_rfl) (by simp) (AllReadyIn.cons rfl (fun K hK => ?_) AllReadyIn.nil); (go_simp; refine hK _ _ ?_; clear hK K); refine wpAnyIn_done (by kernel_rfl) ?_ _; gi_wp2; refine ⟨kVU.trans (hk2.from _), pVU.trans kk, ⟨⟨⟨_, hv2, ?_, trivial⟩, box_keep hS1 hroU2 (by decide) hgrow (by omega), hsp⟩, bVU.trans hb2⟩⟩; rw [htl, List.length_append]; exact hr2)
  case done =>
    rintro D xs W hD hxs ⟨⟨⟨v, hv, hrow, _⟩, hsh, hch⟩, hB⟩ hK
    have hc := hv.cell
    gi_wp2
    refine ⟨by simp, .inl ⟨_, _, rfl, run_takeDeferred hK, ?_⟩⟩
    have hrow' := own_lower hrow (b' := w.heap.size) (by omega)
    refine ⟨.tuple #[v, .int .i64 0], by simp [results, Try.results24, go_sem], .inr ⟨HG.out, xs, v, hxs.1, hxs.2, rfl, ownsRow_putObj hrow' _ hK rfl⟩, ?_⟩
    exact (K1.out.trans (hB.mono (by omega))).trans (belowK_b (w := w) (Nat.le_refl _) W D _ _ (by omega) hK rfl rfl)
  case stop =>
    rintro D c pre W _ _ h _
    exact h.elim
theorem chain_c (l : List St) (hok : LsOk l) (hnm : NmsOk l) (A : Option Addr) (m d N : Nat) (hm : l.length = m) (hs : m ≤ 1000) (i : Int) (hi : I64 i) (hN : N ≤ 2000) (hbd : chkI l i = 0 → ∀ pre, ChP l (plc l i) pre → pre.length < N) (w : World) (hA : LsAt w A l) :
    Calls Try.prog 24 #[.slice A m d, .int .i64 i] w (ChnR l i w) := by
  by_cases h : chkI l i = 0
  · exact callsIn_wide.1 (chain_in l hok hnm A m d N hm hs i hi h hN (hbd h) w hA)
  · exact chain_bad l hok hnm A m d hm hs i hi h w hA
end Go.Proofs.Ytbkpokipibgdfaa
