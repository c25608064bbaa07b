/- Layer 5: Zip. -/
import Derived.Test.YtioehncdkdfcmaaW3
import Derived.Test.YtioehncdkdfcmaaZ2
import Derived.Test.YtioehncdkdfcmaaZ3
namespace Go.Proofs.Ytioehncdkdfcmaa
open Go.RowKit Go.Shelf Go.Lib Im

attribute [local go_sem] Oper.semAt_some
/-- The marks of loops that have ended. -/
def mkD (D : Nat) : Deferred := { target := .collected D, args := #[] }
def Marks (lo : Nat) (Ds : List Nat) (W : World) : Prop := Ds.Nodup ∧ ∀ D ∈ Ds, lo ≤ D ∧ W.heap[D]? = some (.deferred (some []))
theorem leaves_marks {F : Fence} {n : Nat} {P : Program} {fn : Func} {tmps : Array Value} {R : Ending → World → Prop} {lo : Nat} (K : World → Prop) (hK : ∀ W D, K W → lo ≤ D → W.heap[D]? = some (.deferred (some [])) → K (W.putObj D (.deferred none)))
    (hR : ∀ W, K W → LeavesIn F n P fn tmps R [] .returning W) : ∀ (Ds : List Nat) (W : World), K W → Marks lo Ds W → LeavesInM F n P fn tmps R (Ds.map mkD) .returning W := by
  intro Ds
  induction Ds with
  | nil => intro W h _; exact hR W h
  | cons D Ds ih =>
    intro W h hM
    obtain ⟨h1, h2⟩ := hM
    obtain ⟨h3, h4⟩ := h2 D (List.mem_cons_self ..)
    refine ⟨by simp, .inl ⟨D, _, rfl, run_takeDeferred h4, ih _ (hK W D h h3 h4) ⟨(List.nodup_cons.1 h1).2, fun D' hD' => ?_⟩⟩⟩
    obtain ⟨h5, h6⟩ := h2 D' (List.mem_cons_of_mem _ hD')
    have hne : D' ≠ D := fun e => (List.nodup_cons.1 h1).1 (e ▸ hD')
    exact ⟨h5, (World.putObj_heap_other hne).trans h6⟩
theorem Marks.lt {lo : Nat} {Ds : List Nat} {W : World} (h : Marks lo Ds W) : ∀ D ∈ Ds, D < W.heap.size := fun D hD => (Array.getElem?_eq_some_iff.1 (h.2 D hD).2).1
theorem Marks.grown {lo : Nat} {Ds : List Nat} {W W' : World} {row : Option Nat} (h : Marks lo Ds W) (hg : W.grownBy W' row) (hr : ∀ D ∈ Ds, some D ≠ row) : Marks lo Ds W' :=
  ⟨h.1, fun D hD => ⟨(h.2 D hD).1, (hg.block D (h.lt D hD) (hr D hD)).trans (h.2 D hD).2⟩⟩
theorem Marks.alloc {lo : Nat} {Ds : List Nat} {W : World} (h : Marks lo Ds W) (o : Obj) : Marks lo Ds (W.alloc o) := h.grown (World.grownBy_alloc W o none) (fun _ _ e => by cases e)
theorem Marks.below {lo : Nat} {Ds : List Nat} {W W' : World} (h : Marks lo Ds W) (hb : Below W.heap.size W W') : Marks lo Ds W' :=
  h.grown (grown_below hb rfl) (fun _ _ e => by cases e)
theorem Marks.snoc {lo D : Nat} {Ds : List Nat} {W : World} (h : Marks lo Ds W) (hD : lo ≤ D) (hK : W.heap[D]? = some (.deferred (some []))) (hn : D ∉ Ds) : Marks lo (D :: Ds) W :=
  ⟨List.nodup_cons.2 ⟨hn, h.1⟩, fun D' hD' => by
    rcases List.mem_cons.1 hD' with rfl | hD'
    · exact ⟨hD, hK⟩
    · exact h.2 D' hD'⟩
theorem OwnT.marks {T : TypeId → Bool} {B : Nat} {β : Type} {lo : Nat} {Ds : List Nat} (h : ∀ D ∈ Ds, D < B) : OwnT T B (fun (_ : β) W => Marks lo Ds W) := by
  rintro s A C row hM hg hr
  exact hM.grown hg (fun D hD e => by have := (hr D e.symm).1; have := h D hD; omega)
theorem below_put {B : Nat} {w W : World} {D : Nat} (h : Below B w W) (hD : B ≤ D) (o : Obj) : Below B w (W.putObj D o) :=
  ⟨h.os, h.tape, h.output, by have := h.size; simpa [World.putObj] using this, fun k hk => (World.putObj_heap_other (by omega)).trans (h.block k hk)⟩
theorem info72 : (Try.prog.info? 72).map (fun i => (i.zero, i.size, i.bytes)) = some (some (.agg #[.int .i64 0, .int .i64 0, .int .i64 0, .int .i64 0]), 4, 32) := by kernel_rfl
theorem obj_keep {V w2 : World} {B N base size k : Nat} {t e : TypeId} {xs0 : Array Value} {u x : Value} {xs : List Value} {o : Obj} (h : ObjAt V B xs0 t) (hro : V.ownsRow base e size u k xs) (hte : t ≠ e) (hg : (V.alloc o).grownBy w2 u.ownBlock) (hne : B ≠ N) : ObjAt (w2.setCell ⟨N, 0, none⟩ x) B xs0 t := by
  refine ((h.alloc o).kept hg ?_).kept (grownBy_setCell' _ _ _) (by simp; exact hne)
  intro e1
  obtain ⟨_, cur, hc⟩ := row_type hro B e1.symm
  have := (show V.heap[B]? = _ from h).symm.trans hc
  injection this with this
  injection this with _ this _
  exact hte this
theorem marks_keep {V w2 : World} {lo N base size k : Nat} {Ds : List Nat} {tN e : TypeId} {vN u x : Value} {xs : List Value} {o : Obj} (h : Marks lo Ds V) (hro : V.ownsRow base e size u k xs) (hN : Boxed V N tN vN) (hg : (V.alloc o).grownBy w2 u.ownBlock) : Marks lo Ds (w2.setCell ⟨N, 0, none⟩ x) := by
  have hne : ∀ D ∈ Ds, D ≠ N := fun D hD e => by
    subst e
    have := (h.2 D hD).2.symm.trans hN
    cases this
  refine ((h.alloc o).grown hg (fun D hD e => ?_)).grown (grownBy_setCell' _ _ _) (fun D hD e => hne D hD (by simpa using e))
  obtain ⟨_, cur, hc⟩ := row_type hro D e.symm
  have := (h.2 D hD).2.symm.trans hc
  cases this
/-- What one round of the loop over the first map's runs starts with. -/
def ZI (a b N n c : Nat) (A : Option Addr) (q : Int) (RA RB : List Rn) (w2 : World) (fr : Act) (W : World) : Prop :=
  ∃ (u8 u9 u29 u30 u31 u32 u33 u34 u35 u36 u37 u38 u39 u40 u41 u42 u43 u44 u45 u46 u47 u48 u49 u50 u51 : Value) (Ds : List Nat) (k : Nat), fr = { tmps := #[.pointer (some ⟨a, 0, none⟩), .pointer (some ⟨b, 0, none⟩), undef, undef, .slice none 0 0, .int .i64 0, .pointer (some ⟨N, 0, none⟩), undef, u8, u9, .bool false, .pointer (some ⟨a, 0, none⟩), .bool false, .bool false, .pointer (some ⟨b, 0, none⟩), .bool false, .bool false, .bool false, .pointer (some ⟨a, 0, none⟩), .int .i64 q, .pointer (some ⟨b, 0, none⟩), .int .i64 q, .bool false, .pointer (some ⟨a, 0, none⟩), .pointer (some ⟨a, 0, none⟩), .pointer (some ⟨a, 0, none⟩), .slice A n c, .int .i64 n, .int .i64 (k : Int), u29, u30, u31, u32, u33, u34, u35, u36, u37, u38, u39, u40, u41, u42, u43, u44, u45, u46, u47, u48, u49, u50, u51, undef], defers := Ds.map mkD } ∧ k ≤ n ∧
    (∃ v, Boxed W N 66 v ∧ W.ownsRow (N + 1) 72 4 v (Im2.zipR (RA.take k) RB).length (rowQ (Im2.zipR (RA.take k) RB))) ∧ Below N w2 W ∧ Marks N Ds W
def ZM (n : Nat) (fr : Act) (_ : World) : Nat := n - (RowKit.intOf (fr.tmps.getD 28 undef)).toNat
/-- Pairs, handed back with the code of the error. -/
def ZipO (J : List Im2.Rq) (w : World) (e : Ending) (w' : World) : Prop := ∃ B c, e = .returned (.tuple #[.slice B J.length c, .int .i64 0]) ∧ w'.ownsRow w.heap.size 72 4 (.slice B J.length c) J.length (rowQ J) ∧ Below w.heap.size w w'
set_option maxRecDepth 100000 in
set_option maxHeartbeats 16000000 in
theorem zip_in (a gA b gB : Nat) (la lb : List Int) (w : World) (hA : MpG w a gA (runs la)) (hB : MpG w b gB (runs lb)) (hlen : la.length = lb.length) (hl : la.length ≤ 400000) :
    CallsIn Fence.wide 7 Try.prog 31 #[.pointer (some ⟨a, 0, none⟩), .pointer (some ⟨b, 0, none⟩)] w (ZipO (Im2.runs (la.zip lb)) w) := by
  obtain ⟨i0, hi, hz0, hz1, hz2⟩ := info_parts info72
  have HMA := Go.Lib.hid hA
  have HMB := Go.Lib.hid hB
  have cA := fun w' h => len_any a (runs la) w' h
  have cB := fun w' h => len_any b (runs lb) w' h
  rw [lenR_runs] at cA cB
  rw [← hlen] at cB
  have cA1 := cA w (mpG_at hA)
  have HLEN := Go.Lib.hid hlen
  have HLL := Go.Lib.hid hl
  clear hA hB cA hlen hl
  obtain ⟨q, hq⟩ : ∃ q, ((la.length : Int)) = q := ⟨_, rfl⟩
  rw [hq] at cA1 cB
  refine callsIn_of_wp_marks Try.func31 rfl trivial ?_ rfl
  simp only [Try.ntmps31, List.size_toArray, List.length_cons, List.length_nil, Nat.reduceAdd, Nat.reduceSub, Array.replicate_succ, Array.replicate_zero, List.push_toArray, List.append_toArray, List.nil_append, List.cons_append]
  gi_wp2_with (refine ⟨trivial, ?_⟩; gi_at_call 17; first | ((with_reducible refine (callsIn_wide.2 cA1).mono ?_); rintro e w1 ⟨rfl, hb1⟩; have cB1 := cB w1 (mpG_at (mpG_below HMB.out hb1))) | ((with_reducible refine (callsIn_wide.2 cB1).mono ?_); rintro e w2 ⟨rfl, hb2⟩; have hb12 := hb1.trans (hb2.mono hb1.size); obtain ⟨A, c, g1, g2, g3, g4, g5⟩ := mpG_open (mpG_below HMA.out hb12); have hca := Lib.cell?_alloc_some (.cells #[.slice none 0 0] 66) g1.cell))
  have HB12 := Go.Lib.hid hb12
  obtain ⟨B, cb, j1, j2, j3, j4, j5⟩ := mpG_open (mpG_below HMB.out hb12)
  have G1 := Go.Lib.hid g1
  have G2 := Go.Lib.hid g2
  have J1 := Go.Lib.hid j1
  have J2 := Go.Lib.hid j2
  have H5 := Go.Lib.hid j5
  have HST := Go.Lib.hid (ch_sortT (runs_ok lb).1)
  clear cA1 cB cB1 hb1 hb2 hb12 hca g1 g2 g5 j1 j2 j5
  have bN := Boxed.new w2 66 (.slice none 0 0)
  have hB0 : Below w2.heap.size w2 (w2.alloc (.cells #[.slice none 0 0] 66)) := (Below.refl _ w2).alloc (Nat.le_refl _) _
  have hNs : (w2.alloc (.cells #[.slice none 0 0] 66)).heap.size = w2.heap.size + 1 := by simp
  obtain ⟨N, hN⟩ : ∃ N, w2.heap.size = N := ⟨_, rfl⟩
  generalize (w2.alloc (.cells #[.slice none 0 0] 66)) = W0 at bN hB0 hNs ⊢
  rw [hN] at bN hB0 hNs ⊢
  obtain ⟨n, hn⟩ : ∃ n, (runs la).length = n := ⟨_, rfl⟩
  rw [hn] at g3 ⊢
  have HN := Go.Lib.hid hn
  refine wpIn_loop (ZI a b N n c A q (runs la) (runs lb) w2) (ZM n) ?start ?round
  case start =>
    refine ⟨_, _, _, _, _, _, _, _, _, _, _, _, _, _, _, _, _, _, _, _, _, _, _, _, _, [], 0, rfl, Nat.zero_le _, ⟨_, bN, World.ownsRow_nil _ _ _ _⟩, hB0, List.nodup_nil, fun D h => by cases h⟩
  case round =>
    clear bN hB0 hNs
    rintro fr W ⟨u8, u9, u29, u30, u31, u32, u33, u34, u35, u36, u37, u38, u39, u40, u41, u42, u43, u44, u45, u46, u47, u48, u49, u50, u51, Ds, k, rfl, hk, ⟨v0, hv0, hro0⟩, hBW, hM⟩
    have HZL : Hid ((Im2.zipR ((runs la).take (k + 1)) (runs lb)).length ≤ 400000) := Go.Lib.hid (by
      have h1 := Im2.zipR_pre ((runs la).take (k + 1)) ((runs la).drop (k + 1)) (runs lb)
      rw [List.take_append_drop, Im2.zipR_runs la lb HLEN.out] at h1
      have h2 := Im2.runs_len (la.zip lb)
      rw [List.length_zip] at h2
      have := HLL.out
      omega)
    by_cases hlt : k < n
    · have hkl : k < (runs la).length := by rw [HN.out]; exact hlt
      rcases G2.out with hA0 | ⟨g, o, rfl, hg, hcl⟩
      · rw [hA0] at hkl; exact absurd hkl (Nat.not_lt_zero _)
      obtain ⟨h0, h1, h2⟩ := hcl k hkl
      rw [hN] at hg
      have c0 := (hBW.cell (p := ⟨g, o + k * 3, none⟩) hg).trans h0
      have c1 := (hBW.cell (p := ⟨g, o + k * 3 + 1, none⟩) hg).trans h1
      have c2 := (hBW.cell (p := ⟨g, o + k * 3 + 2, none⟩) hg).trans h2
      have HTK : Hid ((runs la).take (k + 1) = (runs la).take k ++ [(runs la)[k]]) := Go.Lib.hid (List.take_succ_eq_append_getElem hkl)
      clear h0 h1 h2 hcl
      generalize (runs la)[k] = y at c0 c1 c2 HTK
      obtain ⟨y0, y1, yv⟩ := y
      dsimp only at c0 c1 c2
      have cW := fun w' => within_any b y0 y1 w'
      gi_wp2_with (refine ⟨trivial, ?_⟩; gi_at_call 43; refine (callsIn_wide.2 (cW _)).mono ?_; rintro e w3 ⟨rfl, rfl⟩)
      have hN0 := hv0.lt
      have hrlb : (runs lb).length ≤ 400000 := by have := runs_len lb; have := HLEN.out; have := HLL.out; omega
      rw [HTK.out, Im2.zipR_snoc] at HZL
      have HZK : Hid (Im2.zipR ((runs la).take (k + 1)) (runs lb) = Im2.zipR ((runs la).take k) (runs lb) ++ (partsW y0 y1 (runs lb)).map (Im2.zipP (y0, y1, yv))) := Go.Lib.hid (by rw [HTK.out, Im2.zipR_snoc])
      have HPL : Hid ((Im2.zipR ((runs la).take k) (runs lb)).length + (partsW y0 y1 (runs lb)).length ≤ 400000) := Go.Lib.hid (by have := HZL.out; rwa [List.length_append, List.length_map] at this)
      clear HZL HTK c0 c1 c2 cW hkl
      generalize Im2.zipR ((runs la).take k) (runs lb) = Z at hro0 HZK HPL
      obtain ⟨M, hMM⟩ : ∃ M, W.heap.size = M := ⟨_, rfl⟩
      have o0 := (((ObjAt.new W #[.int .i64 y0, .int .i64 y1, .int .i64 yv] 34).alloc (.cells #[.pointer (some ⟨b, 0, none⟩)] 25)).alloc (.cells #[.int .i64 y0] 3)).alloc (.cells #[.int .i64 y1] 3)
      have v3 := (((hv0.alloc (.cells #[.int .i64 y0, .int .i64 y1, .int .i64 yv] 34)).alloc (.cells #[.pointer (some ⟨b, 0, none⟩)] 25)).alloc (.cells #[.int .i64 y0] 3)).alloc (.cells #[.int .i64 y1] 3)
      have r3 := (((hro0.alloc (.cells #[.int .i64 y0, .int .i64 y1, .int .i64 yv] 34)).alloc (.cells #[.pointer (some ⟨b, 0, none⟩)] 25)).alloc (.cells #[.int .i64 y0] 3)).alloc (.cells #[.int .i64 y1] 3)
      have m3 := (((hM.alloc (.cells #[.int .i64 y0, .int .i64 y1, .int .i64 yv] 34)).alloc (.cells #[.pointer (some ⟨b, 0, none⟩)] 25)).alloc (.cells #[.int .i64 y0] 3)).alloc (.cells #[.int .i64 y1] 3)
      have w3 := (((hBW.alloc (by omega) (.cells #[.int .i64 y0, .int .i64 y1, .int .i64 yv] 34)).alloc (by simp; omega) (.cells #[.pointer (some ⟨b, 0, none⟩)] 25)).alloc (by simp; omega) (.cells #[.int .i64 y0] 3)).alloc (by simp; omega) (.cells #[.int .i64 y1] 3)
      have b1 := ((Boxed.new (W.alloc (.cells #[.int .i64 y0, .int .i64 y1, .int .i64 yv] 34)) 25 (.pointer (some ⟨b, 0, none⟩))).alloc (.cells #[.int .i64 y0] 3)).alloc (.cells #[.int .i64 y1] 3)
      have b2 := (Boxed.new ((W.alloc (.cells #[.int .i64 y0, .int .i64 y1, .int .i64 yv] 34)).alloc (.cells #[.pointer (some ⟨b, 0, none⟩)] 25)) 3 (.int .i64 y0)).alloc (.cells #[.int .i64 y1] 3)
      have b3 := Boxed.new (((W.alloc (.cells #[.int .i64 y0, .int .i64 y1, .int .i64 yv] 34)).alloc (.cells #[.pointer (some ⟨b, 0, none⟩)] 25)).alloc (.cells #[.int .i64 y0] 3)) 3 (.int .i64 y1)
      rw [World.size_alloc] at b1
      rw [World.size_alloc, World.size_alloc] at b2
      rw [World.size_alloc, World.size_alloc, World.size_alloc] at b3
      have hsz : ((((W.alloc (.cells #[.int .i64 y0, .int .i64 y1, .int .i64 yv] 34)).alloc (.cells #[.pointer (some ⟨b, 0, none⟩)] 25)).alloc (.cells #[.int .i64 y0] 3)).alloc (.cells #[.int .i64 y1] 3)).heap.size = W.heap.size + 4 := by simp
      have hMl := hM.lt
      generalize ((((W.alloc (.cells #[.int .i64 y0, .int .i64 y1, .int .i64 yv] 34)).alloc (.cells #[.pointer (some ⟨b, 0, none⟩)] 25)).alloc (.cells #[.int .i64 y0] 3)).alloc (.cells #[.int .i64 y1] 3)) = W3 at o0 v3 r3 m3 w3 b1 b2 b3 hsz ⊢
      rw [hMM] at o0 b1 b2 b3 hsz hN0 hMl ⊢
      clear hv0 hro0 hM hBW
      refine rangeG1 (T := TZ) (Bs := M + 1) (G := GW b (M + 1) (M + 1 + 1) (M + 1 + 2) B (runs lb).length cb (runs lb) y0 y1) rfl (by decide) (gf := 51) (lb := #[.pointer (some ⟨M + 1, 0, none⟩), .pointer (some ⟨M + 1 + 1, 0, none⟩), .pointer (some ⟨M + 1 + 2, 0, none⟩)]) rfl trivial (enters_of Try.func51 (by kernel_rfl) rfl)
        (by omega) (within_seq 6 (by decide) b (M + 1) (M + 1 + 1) (M + 1 + 2) B (runs lb).length cb (runs lb) y0 y1 rfl j3 j4 H5.out HST.out (by omega) W3)
        (fun (pre : List Rn) V => (∃ v, Boxed V N 66 v ∧ V.ownsRow (N + 1) 72 4 v (Z ++ pre.map (Im2.zipP (y0, y1, yv))).length (rowQ (Z ++ pre.map (Im2.zipP (y0, y1, yv)))) ∧ True) ∧ Below N w2 V ∧ Boxed V (M + 1) 25 (.pointer (some ⟨b, 0, none⟩)) ∧ Boxed V (M + 1 + 1) 3 (.int .i64 y0) ∧ Boxed V (M + 1 + 2) 3 (.int .i64 y1) ∧ ObjAt V M #[.int .i64 y0, .int .i64 y1, .int .i64 yv] 34 ∧ Marks N Ds V) (fun _ _ _ => False)
        (fun _ V h => ⟨boxed_below J1.out (by rw [hN]; exact h.2.1), J2.out.below (by rw [hN]; exact h.2.1), h.2.2.1, h.2.2.2.1, h.2.2.2.2.1⟩)
        (OwnT.and (OwnT.row rfl rfl 4 (fun (pre : List Rn) => (Z ++ pre.map (Im2.zipP (y0, y1, yv))).length) (fun (pre : List Rn) => rowQ (Z ++ pre.map (Im2.zipP (y0, y1, yv)))) (fun _ _ => True)) (OwnT.and (OwnT.below (Nat.le_of_eq hN.symm) (by omega)) (OwnT.and (OwnT.boxed rfl (fun _ => _)) (OwnT.and (OwnT.boxed rfl (fun _ => _)) (OwnT.and (OwnT.boxed rfl (fun _ => _)) (OwnT.and (OwnT.obj rfl (fun _ => _)) (OwnT.marks (fun D hD => by have := hMl D hD; omega)))))))) (fun _ _ _ _ _ hs _ _ => hs)
        ⟨⟨_, v3, by rw [List.map_nil, List.append_nil]; exact r3, trivial⟩, w3, b1, b2, b3, o0, m3⟩ ?inner ?done ?stop
      case inner =>
        clear v3 r3 m3 w3 b1 b2 b3 o0
        rintro l' pre x W' ⟨⟨v, hv, hrow, _⟩, hB, h1, h2, h3, h4, hM⟩ hlt' _ hl' hlW
        have hW1 := hB.size
        have hBs : M + 1 < W'.heap.size := h1.lt
        unfold rnV
        obtain ⟨x0, x1, x2⟩ := x
        dsimp only
        gi_wp2
        refine ⟨(KeepsOthers.alloc _ _).from _, Kpt.alloc (by omega) _, ⟨⟨v, hv.alloc _, hrow.alloc _, trivial⟩, hB.alloc (by omega) _, h1.alloc _, h2.alloc _, h3.alloc _, h4.alloc _, hM.alloc _⟩, ?_⟩
        rintro V hg ⟨⟨u, hu, hro, _⟩, hBV, h1', h2', h3', h4', hM'⟩
        have hVs := hg.size
        simp only [World.size_alloc] at hVs
        have hc0 : V.cell? ⟨W'.heap.size, 0, none⟩ = some (.int .i64 x0) := hg.cell (by simp) (fun e => by simp at e; omega)
        have hc1 : V.cell? ⟨W'.heap.size, 1, none⟩ = some (.int .i64 x1) := hg.cell (by simp) (fun e => by simp at e; omega)
        have hc2 : V.cell? ⟨W'.heap.size, 2, none⟩ = some (.int .i64 x2) := hg.cell (by simp) (fun e => by simp at e; omega)
        have hcv2 := h4'.b2
        have hc := hu.cell
        have hpl2 : (Z ++ pre.map (Im2.zipP (y0, y1, yv))).length ≤ 400000 := by rw [List.length_append, List.length_map]; have := HPL.out; omega
        obtain ⟨m, hm⟩ : ∃ m, (Z ++ pre.map (Im2.zipP (y0, y1, yv))).length = m := ⟨_, rfl⟩
        rw [hm] at hro hpl2
        have HM := Go.Lib.hid hm
        have hVN : N < V.heap.size := hu.lt
        have hVN1 : M + 1 < V.heap.size := h1'.lt
        have hVN2 : M + 1 + 1 < V.heap.size := h2'.lt
        clear hv hrow hB hg h1 h2 h3 h4 hM hm
        gi_wp2_with (gi_at_builtin; refine wpListIn_append_own _ rfl _ _ 66 rfl (N + 1) 72 i0 (.agg #[.int .i64 0, .int .i64 0, .int .i64 0, .int .i64 0]) 4 32 Try.underlying66 hi hz0 hz1 hz2 rfl (by decide) _ _ _ rfl (hro.alloc _) ⟨V.heap.size, 0, none⟩ 1 1 [.int .i64 x0, .int .i64 x1, .int .i64 yv, .int .i64 x2] rfl rfl (cell_new4 _ _ _ _ _ _) (by intro u hu; simp at hu; rcases hu with rfl | rfl | rfl | rfl <;> rfl) (by unfold maxLen; omega) (by omega) (by simp; omega) ?_; intro v' w5 hown' hgrow _; obtain ⟨g', cap', rfl⟩ := ownsRow_succ hown'; obtain ⟨hv1, hv2, _, hk2, hb2⟩ := hu.appended (by decide) (own_lower hro (b' := N) (by omega)) (by omega) (Nat.le_refl _) (own_lower hown' (b' := N) (by omega)) hgrow; have hr2 := hown'.kept (grownBy_setCell' w5 N (.slice (some ⟨g', 0, none⟩) (m + 1) cap')) (.inr (hv1.not_row (by decide) hown').symm); have kk := kpt_append (T := TZ) (Bs := M + 1) (by omega) hu (by omega) rfl rfl (by decide) hro (fun g hg e => h1'.not_row (by decide) hro (by rw [hg, e])) hgrow (v' := .slice (some ⟨g', 0, none⟩) (m + 1) cap'); have hcv := hv1.cell; have hfv := hv1.frozen)
        refine ⟨hk2.from _, kk, ⟨⟨_, hv2, ?_, trivial⟩, hBV.trans hb2, box_keep h1' hro (by decide) hgrow (by omega), box_keep h2' hro (by decide) hgrow (by omega), box_keep h3' hro (by decide) hgrow (by omega), obj_keep h4' hro (by decide) hgrow (by omega), marks_keep hM' hro hu hgrow⟩⟩
        rw [List.map_append, List.map_singleton, ← List.append_assoc, rowQ_snoc, List.length_append, HM.out]; exact hr2
      case stop =>
        rintro D c pre W _ _ h _
        exact h.elim
      case done =>
        clear v3 r3 m3 w3 b1 b2 b3 o0
        rintro D xs V hD rfl ⟨⟨v, hv, hro, _⟩, hB, _, _, _, _, hM'⟩ hK
        have hnl : n ≤ 400000 := by have := runs_len la; have := HLL.out; have := HN.out; omega
        have hkw : IntKind.i64.wrap ((k : Int) + 1) = (k : Int) + 1 := IntWalk.i64_in _ (by omega)
        gi_wp2
        refine ⟨?zi, ?mu⟩
        case zi =>
          iterate 25 apply Exists.intro
          refine ⟨D :: Ds, k + 1, ?fr, by omega, ⟨v, hv, by rw [HZK.out]; exact hro⟩, hB, hM'.snoc (by omega) hK (fun h => by have := hMl D h; omega)⟩
          case fr =>
            rw [show (((k + 1 : Nat)) : Int) = (k : Int) + 1 from rfl]
            rfl
        case mu => simp [ZM, RowKit.intOf]; omega
    · obtain rfl : n = k := by omega
      have hzl : (runs la).take n = runs la := List.take_of_length_le (by rw [HN.out]; exact Nat.le_refl _)
      rw [hzl, Im2.zipR_runs la lb HLEN.out] at hro0
      obtain ⟨Bv, cv, rfl⟩ := own_form hro0
      have hcv := hv0.cell
      have hNw : w.heap.size ≤ N := by rw [← hN]; exact HB12.out.size
      gi_wp2
      refine leaves_marks (lo := N) (fun V => Below w.heap.size w V ∧ V.ownsRow w.heap.size 72 4 (.slice Bv (Im2.runs (la.zip lb)).length cv) (Im2.runs (la.zip lb)).length (rowQ (Im2.runs (la.zip lb)))) ?_ ?_ Ds W ⟨HB12.out.trans (hBW.mono (by omega)), own_lower hro0 (by omega)⟩ hM
      · rintro V D ⟨h1, h2⟩ hD hK
        exact ⟨below_put h1 (by omega) _, ownsRow_putObj h2 _ hK rfl⟩
      · rintro V ⟨h1, h2⟩
        exact ⟨.tuple #[.slice Bv (Im2.runs (la.zip lb)).length cv, .int .i64 0], by simp [results, Try.results31, go_sem], Bv, cv, rfl, h2, h1⟩
end Go.Proofs.Ytioehncdkdfcmaa
