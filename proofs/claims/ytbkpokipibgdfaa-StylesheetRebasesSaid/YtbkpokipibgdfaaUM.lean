/- Layer 8: Rebase (40) where the base is there. -/
import Derived.Test.YtbkpokipibgdfaaUL
import Derived.Deep.RegionHeld3
namespace Go.Proofs.Ytbkpokipibgdfaa
open Go.RowKit Go.Shelf Go.Lib Go.Maps
set_option linter.unusedVariables false
attribute [local go_sem] Oper.semAt_some

theorem PrAt.putM {w : World} {A : Option Addr} {l : List Pr} {D : Nat} {o' : Obj} (h : PrAt w A l) (hD : w.heap[D]? = some o') (ho : o'.isCells = false) (o : Obj) : PrAt (w.putObj D o) A l := by
  by_cases hl : l = []
  · exact .inl hl
  refine h.moved (g := D) (by simp [World.putObj]) (fun b hb => World.putObj_heap_other hb) (.inr ?_)
  rcases h with h | ⟨b, o2, e, hb, hc⟩
  · exact absurd h hl
  rintro a ha rfl
  rw [e] at ha
  cases ha
  have h0 : 0 < l.length := by cases l with
    | nil => exact absurd rfl hl
    | cons x l => simp
  have := (hc 0 h0).1
  unfold World.cell? at this
  dsimp only at this
  rw [hD] at this
  cases o' <;> simp_all [Obj.isCells]
theorem OwnS.putM {w : World} {base g n cb : Nat} {L : List Sa} (h : OwnS w base g n cb L) {D : Nat} {o' : Obj} (hD : w.heap[D]? = some o') (ho : o'.isCells = false) (o : Obj) : OwnS (w.putObj D o) base g n cb L := by
  refine ⟨ownsRow_putM h.row hD ho, h.len, fun x hx => ?_⟩
  obtain ⟨q1, q2, q3, q4⟩ := h.prs x hx
  exact ⟨q1, q2, q3.putM hD ho o, q4⟩
/-- A list of properties in memory, with its room. -/
def EP (o : List Pr) (B : Option Addr) (n c : Nat) (w : World) : Prop := o.length = n ∧ (n ≤ c ∧ c ≤ maxLen) ∧ PrAt w B o
theorem EP.below {o : List Pr} {B : Option Addr} {n c : Nat} {w w' : World} (h : EP o B n c w) (hb : Below w.heap.size w w') : EP o B n c w' := ⟨h.1, h.2.1, h.2.2.below hb (Nat.le_refl _)⟩
theorem effI_any (l : List St) (hok : LsOk l) (hps : PrsOk l) (hG : Good l) (A : Option Addr) (m d b : Nat) (i : Int) (hi : I64 i) (w : World) (h : ShAt w A m d b l) :
    Calls Try.prog 52 #[.agg #[.slice A m d, .map (some b)], .int .i64 i] w fun e w' => ∃ B n c, e = .returned (.slice B n c) ∧ EP (effI l i) B n c w' ∧ Below w.heap.size w w' := by
  refine (effective_any l hok hps A m d b (l.length + 1) i hi (hG.bnd i) w h).mono ?_
  rintro e w' ⟨xs, h1, h2, v, rfl, hr, hb⟩
  obtain ⟨g1, g2⟩ := chn_spec hG i
  obtain rfl := ch_uniq h1 h2 g1 g2
  obtain ⟨B, c, rfl⟩ := own_form hr
  obtain ⟨q1, q2, q3⟩ := row_prat hr rfl
  exact ⟨B, _, c, rfl, ⟨rfl, ⟨q1, q2⟩, q3⟩, hb⟩
theorem PrAt.box {w : World} {A : Option Addr} {l : List Pr} {N : Nat} {t : TypeId} {v : Value} (h : PrAt w A l) (hb : Boxed w N t v) (u : Value) : PrAt (w.setCell ⟨N, 0, none⟩ u) A l := by
  by_cases hl : l = []
  · exact .inl hl
  refine h.moved (g := N) (by simp [World.setCell]) (fun b hbN => Below.heap_setCell w ⟨N, 0, none⟩ u b hbN) (.inr ?_)
  rcases h with h | ⟨b, o2, e, hlt, hc⟩
  · exact absurd h hl
  rintro a ha rfl
  rw [e] at ha
  cases ha
  have h0 : 0 < l.length := by cases l with
    | nil => exact absurd rfl hl
    | cons x l => simp
  have := (hc 0 h0).2
  have hb' : w.heap[b]? = some (.cells #[v] t (0, 0)) := hb
  simp [World.cell?, hb'] at this
theorem OwnS.box {w : World} {base g n cb : Nat} {L : List Sa} (h : OwnS w base g n cb L) {N : Nat} (hN : N < base) {t : TypeId} {v : Value} (hb : Boxed w N t v) (u : Value) : OwnS (w.setCell ⟨N, 0, none⟩ u) base g n cb L := by
  refine ⟨own_set h.row hN u, h.len, fun x hx => ?_⟩
  obtain ⟨q1, q2, q3, q4⟩ := h.prs x hx
  exact ⟨q1, q2, q3.box hb u, q4⟩
/-- What Rebase hands back. -/
def RbsR (l : List St) (i base : Int) (k m : Nat) (w : World) (e : Ending) (w' : World) : Prop :=
  ((k ∈ chn l base ∧ e = .returned (.tuple #[.slice none 0 0, .int .i64 16])) ∨
    (k ∉ chn l base ∧ ∃ g cb L, e = .returned (.tuple #[.slice (some ⟨g, 0, none⟩) m cb, .int .i64 0]) ∧ OwnS w' w.heap.size g m cb L ∧ L.map (·.1) = rbL l i k base)) ∧ Below w.heap.size w w'
attribute [local irreducible] wpQuiet in
set_option maxRecDepth 100000 in
set_option maxHeartbeats 16000000 in
theorem rebase_z (l : List St) (hok : LsOk l) (hnm : NmsOk l) (hps : PrsOk l) (A : Option Addr) (n d : Nat) (hn : l.length = n) (hs : n ≤ 1000) (i base : Int) (hi : I64 i) (hbi : I64 base) (hz0 : chkI l i = 0) (k : Nat) (hp0 : plc l i = some k) (hb0 : base = 0) (w : World) (hA : LsAt w A l) :
    CallsIn Fence.wide 7 Try.prog 40 #[.slice A n d, .int .i64 i, .int .i64 base] w (RbsR l i base k n w) := by
  have kb := ((Below.refl w.heap.size w).alloc (Nat.le_refl _) (.cells #[.slice none 0 0] 22)).alloc (by simp) (.cells #[.int .i64 0] 29)
  have cO := openat_any l hok hnm A n d hn hs i hi _ (hA.below kb)
  have b6 := (Boxed.new w 22 (.slice none 0 0)).alloc (.cells #[.int .i64 0] 29)
  have b7 := Boxed.new (w.alloc (.cells #[.slice none 0 0] 22)) 29 (.int .i64 0)
  rw [World.size_alloc] at b7
  have KB := Go.Lib.hid kb
  have B6 := Go.Lib.hid b6
  have B7 := Go.Lib.hid b7
  have HZ := Go.Lib.hid hz0
  have HP := Go.Lib.hid hp0
  have HG := Go.Lib.hid (chkI_good hz0).1
  have HOK := Go.Lib.hid hok
  have HPS := Go.Lib.hid hps
  have HI := Go.Lib.hid hi
  have HBI := Go.Lib.hid hbi
  obtain ⟨hk, hkid⟩ := plc_lt hp0
  have hz2 : ((w.alloc (.cells #[.slice none 0 0] 22)).alloc (.cells #[.int .i64 0] 29)).heap.size = w.heap.size + 2 := by simp
  have hkn : k < n := by omega
  have HKL := Go.Lib.hid hk
  have HLN := Go.Lib.hid hn
  have CC := Go.Lib.hid (fun w' (hb : Below w.heap.size w w') => clone60_any l A n d hn (by omega) hs hps w' (hA.below hb))
  have cF := fun w' b => chainF_any A n d b base w'
  obtain ⟨ga, oa, rfl, hga, hcl⟩ := hA.pos (by omega)
  obtain ⟨Br, cr, v0, v1, vr⟩ := hcl k hk
  have f0 : (0 : Int) ≤ (k : Int) := by omega
  have f1 : (k : Int) < (n : Int) := by omega
  have VV := Go.Lib.hid (fun w' (hb : Below w.heap.size w w') => (hb.cell (p := ⟨ga, oa + k * 6 + 1, none⟩) hga).trans v1)
  clear hA hok hnm hps kb b6 b7 hz0 hp0 hkid hcl v0 v1 vr hn hi hbi
  have nb : (base != 0) = false := by simpa using hb0
  clear hb0
  refine callsIn_of_wp_marks Try.func40 rfl trivial ?_ rfl
  simp only [Try.ntmps40, List.size_toArray, List.length_cons, List.length_nil, Nat.reduceAdd, Nat.reduceSub, Array.replicate_succ, Array.replicate_zero, List.push_toArray, List.append_toArray, List.nil_append, List.cons_append]
  refine wpIn_wide.2 ?_
  go_wp2_with fail
  (with_reducible refine cO.mono ?_)
  rintro e w1 ⟨(⟨hz, rfl⟩ | ⟨b, k', hz, hp, rfl, hsh⟩), k1⟩
  · exact absurd HZ.out hz
  obtain rfl : k = k' := by have := HP.out; rw [hp] at this; cases this; rfl
  have r6 := Go.Lib.hid (((boxed_below B6.out k1).alloc (.cells #[.slice (some ⟨ga, oa, none⟩) n d, .map (some b)] 73)).alloc (.cells #[.int .i64 (k : Nat)] 3))
  have r7 := Go.Lib.hid (((boxed_below B7.out k1).alloc (.cells #[.slice (some ⟨ga, oa, none⟩) n d, .map (some b)] 73)).alloc (.cells #[.int .i64 (k : Nat)] 3))
  have OS := Go.Lib.hid ((ObjAt.new w1 #[.slice (some ⟨ga, oa, none⟩) n d, .map (some b)] 73).alloc (.cells #[.int .i64 (k : Nat)] 3))
  have OI := Boxed.new (w1.alloc (.cells #[.slice (some ⟨ga, oa, none⟩) n d, .map (some b)] 73)) 3 (.int .i64 (k : Nat))
  rw [World.size_alloc] at OI
  have OI := Go.Lib.hid OI
  have s1 := k1.size
  rw [hz2] at s1
  have hWs : ((w1.alloc (.cells #[.slice (some ⟨ga, oa, none⟩) n d, .map (some b)] 73)).alloc (.cells #[.int .i64 (k : Nat)] 3)).heap.size = w1.heap.size + 2 := by simp
  have K1 := Go.Lib.hid (((Below.refl w1.heap.size w1).alloc (Nat.le_refl _) (.cells #[.slice (some ⟨ga, oa, none⟩) n d, .map (some b)] 73)).alloc (by simp) (.cells #[.int .i64 (k : Nat)] 3))
  have B1 := Go.Lib.hid (((KB.out.trans (k1.mono (by rw [hz2]; omega))).alloc (by omega) (.cells #[.slice (some ⟨ga, oa, none⟩) n d, .map (some b)] 73)).alloc (by simp; omega) (.cells #[.int .i64 (k : Nat)] 3))
  have HSH := Go.Lib.hid (hsh.below K1.out)
  clear cO hz k1 hp hsh
  go_upto_region 4 with fail
  generalize hW : (w1.alloc (.cells #[.slice (some ⟨ga, oa, none⟩) n d, .map (some b)] 73)).alloc (.cells #[.int .i64 (k : Nat)] 3) = W at r6 r7 OS OI B1 HSH hWs ⊢
  clear hW
  go_wp2_with fail
  refine wp_region_bw (W := W) (by kernel_rfl) (by kernel_rfl) (by first | exact Below.refl _ _ | exact (Below.refl _ _).drew) ?_
  repeat (quiet_step (fail))
  refine wpQuiet_nil ?_
  intro w7 hw'
  have kk : Below W.heap.size W w7 := by obtain ⟨p2, rfl⟩ := hw'; exact p2.h
  have sW := B1.out.size
  have R6 := Go.Lib.hid (boxed_below r6.out kk)
  have R7 := Go.Lib.hid (boxed_below r7.out kk)
  have OS7 := Go.Lib.hid (OS.out.below kk)
  have OI7 := Go.Lib.hid (boxed_below OI.out kk)
  have K7 := Go.Lib.hid (B1.out.trans (kk.mono sW))
  have SH7 := Go.Lib.hid (HSH.out.below kk)
  have s7 := kk.size
  clear hw' kk r6 r7 OS OI HSH K1 VV
  have p0 := OS7.out.a0
  have p1 := OS7.out.a1
  go_wp2_with fail
  (with_reducible refine (cF _ _).mono ?_)
  rintro e w2 ⟨rfl, rfl⟩
  clear cF
  go_wp2_with fail
  clear p0 p1
  have C6 := ((R6.out.alloc (.cells #[.slice (some ⟨ga, oa, none⟩) n d, .map (some b)] 73)).alloc (.cells #[.int .i64 base] 3))
  have C7 := ((R7.out.alloc (.cells #[.slice (some ⟨ga, oa, none⟩) n d, .map (some b)] 73)).alloc (.cells #[.int .i64 base] 3))
  have CS := ((OS7.out.alloc (.cells #[.slice (some ⟨ga, oa, none⟩) n d, .map (some b)] 73)).alloc (.cells #[.int .i64 base] 3))
  have CI := ((OI7.out.alloc (.cells #[.slice (some ⟨ga, oa, none⟩) n d, .map (some b)] 73)).alloc (.cells #[.int .i64 base] 3))
  have CA := (ObjAt.new w7 #[.slice (some ⟨ga, oa, none⟩) n d, .map (some b)] 73).alloc (.cells #[.int .i64 base] 3)
  have CB := Boxed.new (w7.alloc (.cells #[.slice (some ⟨ga, oa, none⟩) n d, .map (some b)] 73)) 3 (.int .i64 base)
  rw [World.size_alloc] at CB
  have CZ := ((Below.refl w7.heap.size w7).alloc (Nat.le_refl _) (.cells #[.slice (some ⟨ga, oa, none⟩) n d, .map (some b)] 73)).alloc (by simp) (.cells #[.int .i64 base] 3)
  have hs4 : ((w7.alloc (.cells #[.slice (some ⟨ga, oa, none⟩) n d, .map (some b)] 73)).alloc (.cells #[.int .i64 base] 3)).heap.size = w7.heap.size + 2 := by simp
  have hch := chain_any 6 (by decide) w7.heap.size (w7.heap.size + 1) (some ⟨ga, oa, none⟩) n d b (l.length + 1) l base HBI.out HOK.out w7.heap.size w7 _ rfl SH7.out CA CB
  generalize (w7.alloc (.cells #[.slice (some ⟨ga, oa, none⟩) n d, .map (some b)] 73)).alloc (.cells #[.int .i64 base] 3) = W4 at C6 C7 CS CI CA CB CZ hs4 hch ⊢
  refine (wpIn_wide (n := 7)).1 ?_
  refine rangeH1 (T := TZ) (Bs := w7.heap.size) (G := fun pre V => pre.length < l.length + 1 ∧ Below w7.heap.size w7 V) rfl (by decide) (gf := 69) (lb := #[.pointer (some ⟨w7.heap.size, 0, none⟩), .pointer (some ⟨w7.heap.size + 1, 0, none⟩)]) rfl trivial (enters_of Try.func69 (by kernel_rfl) rfl)
    (by omega) hch
    (fun (pre : List Nat) V => (Boxed V w.heap.size 22 (.slice none 0 0) ∧ Boxed V (w.heap.size + 1) 29 (.int .i64 0) ∧ ObjAt V w1.heap.size #[.slice (some ⟨ga, oa, none⟩) n d, .map (some b)] 73 ∧ Boxed V (w1.heap.size + 1) 3 (.int .i64 (k : Nat)) ∧ (ChP l (plc l base) pre ∧ k ∉ pre)) ∧ Below w7.heap.size w7 V)
    (fun c pre V => (c = .ret ∧ k ∈ pre) ∧ Boxed V w.heap.size 22 (.slice none 0 0) ∧ Boxed V (w.heap.size + 1) 29 (.int .i64 16) ∧ Below w.heap.size w V)
    (fun pre V h => ⟨HG.out.bound h.1.2.2.2.2.1, h.2⟩)
    (OwnT.and (OwnT.and (OwnT.boxed rfl (fun _ => _)) (OwnT.and (OwnT.boxed rfl (fun _ => _)) (OwnT.and (OwnT.obj rfl (fun _ => _)) (OwnT.and (OwnT.boxed rfl (fun _ => _)) OwnT.pure)))) (OwnT.below (Nat.le_refl _) (by omega)))
    (fun c => OwnT.and OwnT.pure (OwnT.and (OwnT.boxed rfl (fun _ => _)) (OwnT.and (OwnT.boxed rfl (fun _ => _)) (OwnT.below (Nat.le_refl _) (by omega)))))
    ⟨⟨C6, C7, CS, CI, ChP.nil _ _, by simp⟩, CZ⟩ ?round ?done ?stop
  case round =>
    clear C6 C7 CS CI CA CB CZ hch
    rintro L pre x U ⟨⟨h6, h7, hS, hI, hc, hx⟩, hB⟩ hlt hsp hl hlW
    gi_wp2
    refine ⟨KeepsFrom.refl _ _, Kpt.refl _, ⟨⟨h6, h7, hS, hI, hc, hx⟩, hB⟩, ?_⟩
    rintro V hg ⟨⟨h6, h7, hS, hI, _, _⟩, hBV⟩
    have ci := hI.cell
    have c6 := h6.cell
    have c7 := h7.cell
    have t6 := h6.frozen
    have t7 := h7.frozen
    by_cases hxk : x = k
    · have e3 : ((x : Int) == (k : Int)) = true := by simp [hxk]
      have q := two_boxes h6 h7 (show w.heap.size ≠ w.heap.size + 1 by omega) (.slice none 0 0) (.int .i64 16)
      gi_wp2
      exact ⟨((KeepsOthers.setCell _ _ _).trans (KeepsOthers.setCell _ _ _)).from _, ⟨rfl, by simp [hxk]⟩, q.1, q.2, two_below (K7.out.trans (hBV.mono K7.out.size)) (Nat.le_refl _) (by omega) _ _⟩
    · have e3 : ((x : Int) == (k : Int)) = false := by simp; omega
      have hx2 : k ∉ pre ++ [x] := by simp [hx]; omega
      gi_wp2
      exact ⟨KeepsFrom.refl _ _, Kpt.refl _, ⟨⟨h6, h7, hS, hI, hsp, hx2⟩, hBV⟩⟩
  case done =>
    clear C6 C7 CS CI CA CB CZ hch
    rintro D xs V hD hxs ⟨⟨h6, h7, hS, hI, hc, hx⟩, hB⟩ hK
    have HKN := Go.Lib.hid (show k ∉ chn l base from by
      obtain ⟨g1, g2⟩ := chn_spec HG.out base
      rw [← ch_uniq hxs.1 hxs.2 g1 g2]
      exact hx)
    have BV := Go.Lib.hid (K7.out.trans (hB.mono K7.out.size))
    have sV := hB.size
    have hDV : D < V.heap.size := (Array.getElem?_eq_some_iff.1 hK).1
    have HMK := Go.Lib.hid (show Marks w.heap.size [D] V from ⟨by simp, by intro D' hD'; rw [List.mem_singleton] at hD'; subst hD'; exact ⟨by omega, hK⟩⟩)
    have SHV := Go.Lib.hid (SH7.out.below hB)
    have A6 := Go.Lib.hid h6
    have A7 := Go.Lib.hid h7
    have AS := Go.Lib.hid hS
    have AI := Go.Lib.hid hI
    have l6 := h6.lt
    have l7 := h7.lt
    have cC := CC.out V BV.out
    clear h6 h7 hS hI hc hx hxs hK
    go_wp2_with fail
    (with_reducible refine cC.mono ?_)
    rintro e w8 ⟨⟨g, cb, L, rfl, hOS, hLm⟩, k8⟩
    have hgl := hOS.lt
    have hgV : V.heap.size ≤ g := hgl.1
    have s8 := k8.size
    have K8 := Go.Lib.hid k8
    have HOS := Go.Lib.hid hOS
    have HLM := Go.Lib.hid hLm
    have hkL : k < L.length := by rw [hOS.len]; omega
    have ci := (boxed_below AI.out k8).cell
    have z3 := HOS.out.cell hkL (j := 3) (by omega)
    have t3 := HOS.out.row.frozenAt (k * 6 + 3)
    replace z3 : w8.cell? ⟨g, k * 6 + 3, none⟩ = some (.int .i64 L[k].1.base) := z3
    have Y3 := Go.Lib.hid (show OwnS (w8.setCell ⟨g, k * 6 + 3, none⟩ (.int .i64 base)) V.heap.size g n cb (L.set k (⟨L[k].1.id, L[k].1.kind, L[k].1.name, base, L[k].1.next, L[k].1.props⟩, L[k].2.1, L[k].2.2)) from by
      have hp := HOS.out.prs _ (List.getElem_mem hkL)
      exact HOS.out.put hkL (j := 3) (by omega) rfl hp)
    have B9 := Go.Lib.hid (K8.out.setCell (p := ⟨g, k * 6 + 3, none⟩) hgV (.int .i64 base))
    clear cC k8 hOS hLm
    go_upto_region 12 with fail
    clear ci z3 t3
    generalize w8.setCell ⟨g, k * 6 + 3, none⟩ (.int .i64 base) = W9 at Y3 B9 ⊢
    have hgW : g < W9.heap.size := Y3.out.lt.2
    have s9 := B9.out.size
    have SH9 := Go.Lib.hid (SHV.out.below B9.out)
    have AS9 := Go.Lib.hid (AS.out.below B9.out)
    have AI9 := Go.Lib.hid (boxed_below AI.out B9.out)
    have hL1 : k < (L.set k ((⟨L[k].1.id, L[k].1.kind, L[k].1.name, base, L[k].1.next, L[k].1.props⟩ : St), L[k].2.1, L[k].2.2)).length := by rw [List.length_set]; exact hkL
    have x5 : W9.cell? ⟨g, k * 6 + 5, none⟩ = some (.slice L[k].2.1 L[k].1.props.length L[k].2.2) := by
      rw [Y3.out.cell hL1 (j := 5) (by omega), List.getElem_set_self]; rfl
    have u5 := Y3.out.row.frozenAt (k * 6 + 5)
    obtain ⟨O, hO⟩ : ∃ O, O = keyT (ovG (effI l base) (effI l i)) tabP := ⟨_, rfl⟩
    have HO := Go.Lib.hid hO
    have inB := effP_in HG.out.inT (chn l base)
    have inI := effP_in HG.out.inT (chn l i)
    have hOV : ovL (effI l base) (effI l i) = O := by rw [hO]; exact ov_eq inB inI
    have hlB : (effI l base).length ≤ 1000 := by have := inB.len; unfold effI; omega
    have hlI : (effI l i).length ≤ 1000 := by have := inI.len; unfold effI; omega
    have cEb : ∀ U, Below W9.heap.size W9 U → Calls Try.prog 52 #[.agg #[.slice (some ⟨ga, oa, none⟩) n d, .map (some b)], .int .i64 base] U fun e U' => ∃ Bb nb cb', e = .returned (.slice Bb nb cb') ∧ EP (effI l base) Bb nb cb' U' ∧ Below W9.heap.size W9 U' := fun U hU => by
      refine (effI_any l HOK.out HPS.out HG.out (some ⟨ga, oa, none⟩) n d b base HBI.out U (SH9.out.below hU)).mono ?_
      rintro e U' ⟨B, q, c, rfl, h1, h2⟩
      exact ⟨B, q, c, rfl, h1, hU.trans (h2.mono hU.size)⟩
    have cEi : ∀ U Bb nb cb', Below W9.heap.size W9 U → EP (effI l base) Bb nb cb' U → Calls Try.prog 52 #[.agg #[.slice (some ⟨ga, oa, none⟩) n d, .map (some b)], .int .i64 i] U fun e U' => ∃ Bi ni ci, e = .returned (.slice Bi ni ci) ∧ EP (effI l base) Bb nb cb' U' ∧ EP (effI l i) Bi ni ci U' ∧ Below W9.heap.size W9 U' := fun U Bb nb cb' hU hE => by
      refine (effI_any l HOK.out HPS.out HG.out (some ⟨ga, oa, none⟩) n d b i HI.out U (SH9.out.below hU)).mono ?_
      rintro e U' ⟨B, q, c, rfl, h1, h2⟩
      exact ⟨B, q, c, rfl, hE.below h2, h1, hU.trans (h2.mono hU.size)⟩
    have cV : ∀ U Bb nb cb' Bi ni ci, Below W9.heap.size W9 U → EP (effI l base) Bb nb cb' U → EP (effI l i) Bi ni ci U → Calls Try.prog 62 #[.slice Bb nb cb', .slice Bi ni ci] U fun e U' => ∃ B q c, e = .returned (.slice B q c) ∧ O.length = q ∧ U'.ownsRow W9.heap.size 55 2 (.slice B q c) q (rowP O) ∧ Below W9.heap.size W9 U' ∧ U'.cell? ⟨g, k * 6 + 5, none⟩ = some (.slice L[k].2.1 L[k].1.props.length L[k].2.2) ∧ U'.frozen? ⟨g, k * 6 + 5, none⟩ = false := fun U Bb nb cb' Bi ni ci hU h1 h2 => by
      refine (over_any Bb Bi cb' ci (effI l base) (effI l i) hlB hlI nb ni h1.1 h2.1 h1.2.1 h2.2.1 U h1.2.2 h2.2.2).mono ?_
      rw [hOV]
      rintro e U' ⟨B, q, c, hq, rfl, hr, hb⟩
      have hb9 := hU.trans (hb.mono hU.size)
      exact ⟨B, q, c, rfl, hq, own_lower hr hU.size, hb9, (hb9.cell (p := ⟨g, k * 6 + 5, none⟩) hgW).trans x5, (Y3.out.below hb9).row.frozenAt (k * 6 + 5)⟩
    have SS := Go.Lib.hid (fun U (hU : Below W9.heap.size W9 U) => (⟨(AS9.out.below hU).a0, (AS9.out.below hU).a1, (boxed_below AI9.out hU).cell⟩ : U.cell? ⟨w1.heap.size, 0, none⟩ = some (.slice (some ⟨ga, oa, none⟩) n d) ∧ U.cell? ⟨w1.heap.size, 1, none⟩ = some (.map (some b)) ∧ U.cell? ⟨w1.heap.size + 1, 0, none⟩ = some (.int .i64 (k : Nat))))
    have SS2 := Go.Lib.hid (fun U v (hU : Below W9.heap.size W9 U) => (⟨((AS9.out.below hU).other (show w1.heap.size ≠ g by omega) (k * 6 + 5) v).a0, ((AS9.out.below hU).other (show w1.heap.size ≠ g by omega) (k * 6 + 5) v).a1, (ObjAt.other (show ObjAt U (w1.heap.size + 1) #[.int .i64 (k : Nat)] 3 from boxed_below AI9.out hU) (show w1.heap.size + 1 ≠ g by omega) (k * 6 + 5) v).get (k := 0) rfl⟩ : (U.setCell ⟨g, k * 6 + 5, none⟩ v).cell? ⟨w1.heap.size, 0, none⟩ = some (.slice (some ⟨ga, oa, none⟩) n d) ∧ (U.setCell ⟨g, k * 6 + 5, none⟩ v).cell? ⟨w1.heap.size, 1, none⟩ = some (.map (some b)) ∧ (U.setCell ⟨g, k * 6 + 5, none⟩ v).cell? ⟨w1.heap.size + 1, 0, none⟩ = some (.int .i64 (k : Nat))))
    have D0 : Below W9.heap.size W9 W9.drew := bdrew1 (Below.refl _ _)
    clear inB inI hO hOV hlB hlI x5 u5
    go_region_held3 (fun U => U.cell? ⟨w1.heap.size, 0, none⟩ = some (.slice (some ⟨ga, oa, none⟩) n d) ∧ U.cell? ⟨w1.heap.size, 1, none⟩ = some (.map (some b)) ∧ U.cell? ⟨w1.heap.size + 1, 0, none⟩ = some (.int .i64 (k : Nat))) (first | exact SS.out _ (by assumption) | exact SS2.out _ _ (by assumption)) (first
      | (go_at_call 52; (with_reducible refine (cEb _ D0).mono ?_); rintro e U1 ⟨Bb, nb', cb', rfl, hE1, hU1⟩)
      | (go_at_call 52; (with_reducible refine (cEi _ _ _ _ hU1 hE1).mono ?_); rintro e U2 ⟨Bi, ni, ci, rfl, hE2, hE3, hU2⟩)
      | (go_at_call 62; (with_reducible refine (cV _ _ _ _ _ _ _ hU2 hE2 hE3).mono ?_); rintro e U3 ⟨B8, n8, c8, rfl, hl8, hr8, hU3, y5, t5⟩))
    all_goals
      have HM8 := Y3.out.below hU3
      have hq8 := row_prat hr8 hl8
      have HM5 := HM8.put hL1 (j := 5) (y := ((⟨L[k].1.id, L[k].1.kind, L[k].1.name, base, L[k].1.next, O⟩ : St), B8, c8)) (u := .slice B8 n8 c8) (by omega) (by rw [List.getElem_set_self]; unfold rowA1; dsimp only; rw [hl8]; rfl) ⟨by show O.length ≤ c8; rw [hl8]; exact hq8.1, hq8.2.1, hq8.2.2, .inr (row_ne hr8 hgW)⟩
      rw [List.set_set] at HM5
      have HX := Go.Lib.hid HM5
      have BX := Go.Lib.hid ((B9.out.trans (hU3.mono s9)).setCell (p := ⟨g, k * 6 + 5, none⟩) hgV (.slice B8 n8 c8))
      clear HM8 hq8 HM5 hU1 hE1 hU2 hE2 hE3 hr8 hU3 y5 t5 cEb cEi cV
      generalize U3.setCell ⟨g, k * 6 + 5, none⟩ (.slice B8 n8 c8) = WX at HX BX ⊢
      have X6 := boxed_below A6.out BX.out
      have X7 := boxed_below A7.out BX.out
      have MX := HMK.out.below BX.out
      have c6 := X6.cell
      have c7 := X7.cell
      have g6 := X6.frozen
      have g7 := X7.frozen
      have Q := two_boxes X6 X7 (show w.heap.size ≠ w.heap.size + 1 by omega) (.slice (some ⟨g, 0, none⟩) n cb) (.int .i64 0)
      have X7a := Boxed.other X7 (show w.heap.size + 1 ≠ w.heap.size by omega) (.slice (some ⟨g, 0, none⟩) n cb)
      have MQ := Go.Lib.hid (marks_set (marks_set MX X6 0 (.slice (some ⟨g, 0, none⟩) n cb)) X7a 0 (.int .i64 0))
      have OQ := Go.Lib.hid ((HX.out.box l6 X6 (.slice (some ⟨g, 0, none⟩) n cb)).box l7 X7a (.int .i64 0))
      have BQ := Go.Lib.hid (two_below (BV.out.trans (BX.out.mono BV.out.size)) (Nat.le_refl _) (Nat.le_succ _) (.slice (some ⟨g, 0, none⟩) n cb) (.int .i64 0))
      have HQ := Go.Lib.hid Q
      clear X6 X7 MX X7a Q
      go_wp2_with fail
      refine leaves_marks (lo := w.heap.size) (fun U => Below w.heap.size w U ∧ Boxed U w.heap.size 22 (.slice (some ⟨g, 0, none⟩) n cb) ∧ Boxed U (w.heap.size + 1) 29 (.int .i64 0) ∧ OwnS U V.heap.size g n cb (L.set k ((⟨L[k].1.id, L[k].1.kind, L[k].1.name, base, L[k].1.next, O⟩ : St), B8, c8))) ?_ ?_ [D] _ ⟨BQ.out, HQ.out.1, HQ.out.2, OQ.out⟩ MQ.out
      · rintro U D' ⟨k1, k2, k3, k4⟩ hD' hK'
        exact ⟨below_putM k1 hD' _, obj_putM k2 hK' rfl, obj_putM k3 hK' rfl, k4.putM hK' rfl _⟩
      · rintro U ⟨k1, k2, k3, k4⟩
        have q6 := k2.cell
        have q7 := k3.cell
        refine ⟨.tuple #[.slice (some ⟨g, 0, none⟩) n cb, .int .i64 0], by simp [results, Try.results40, go_sem, q6, q7], .inr ⟨HKN.out, g, cb, _, rfl, ⟨own_lower k4.row BV.out.size, k4.len, k4.prs⟩, ?_⟩, k1⟩
        rw [List.map_set, HLM.out]
        unfold rbL rbF
        have e9 : L[k].1 = l.getD k default := by
          have : (L.map (·.1))[k]? = some L[k].1 := by rw [List.getElem?_map, List.getElem?_eq_getElem hkL]; rfl
          rw [HLM.out] at this
          rw [List.getD_eq_getElem?_getD, this]; rfl
        rw [← e9, ← HO.out]
  case stop =>
    clear C6 C7 CS CI CA CB CZ hch
    rintro D c pre V hD hSp ⟨⟨rfl, hkp⟩, h6, h7, hB⟩ hK
    have HKN := Go.Lib.hid (show k ∈ chn l base from by
      obtain ⟨g1, g2⟩ := chn_spec HG.out base
      exact (ch_pre g1 g2 pre hSp).subset hkp)
    have A6 := Go.Lib.hid h6
    have A7 := Go.Lib.hid h7
    have BV := Go.Lib.hid hB
    have HK := Go.Lib.hid hK
    clear h6 h7 hB hK hSp hkp
    gi_wp2
    refine ⟨by simp, .inl ⟨_, _, rfl, run_takeDeferred HK.out, ?_⟩⟩
    have q4 := cell_kept A6.out.cell (grownBy_putObj' _ D (.deferred none)) (fun r e => by cases e; exact ⟨_, HK.out, rfl⟩)
    have q5 := cell_kept A7.out.cell (grownBy_putObj' _ D (.deferred none)) (fun r e => by cases e; exact ⟨_, HK.out, rfl⟩)
    exact ⟨.tuple #[.slice none 0 0, .int .i64 16], by simp [results, Try.results40, go_sem, q4, q5], .inl ⟨HKN.out, rfl⟩, BV.out.trans (belowK_b (w := w) (Nat.le_refl _) V D _ _ (by omega) HK.out rfl rfl)⟩
attribute [local irreducible] wpQuiet in
set_option maxRecDepth 100000 in
set_option maxHeartbeats 16000000 in
theorem rebase_y (l : List St) (hok : LsOk l) (hnm : NmsOk l) (hps : PrsOk l) (A : Option Addr) (n d : Nat) (hn : l.length = n) (hs : n ≤ 1000) (i base : Int) (hi : I64 i) (hbi : I64 base) (hz0 : chkI l i = 0) (k : Nat) (hp0 : plc l i = some k) (hb0 : base ≠ 0) (hyes : hasB l ((l.getD k default).kind) base = true) (w : World) (hA : LsAt w A l) :
    CallsIn Fence.wide 7 Try.prog 40 #[.slice A n d, .int .i64 i, .int .i64 base] w (RbsR l i base k n w) := by
  have kb := ((Below.refl w.heap.size w).alloc (Nat.le_refl _) (.cells #[.slice none 0 0] 22)).alloc (by simp) (.cells #[.int .i64 0] 29)
  have cO := openat_any l hok hnm A n d hn hs i hi _ (hA.below kb)
  have b6 := (Boxed.new w 22 (.slice none 0 0)).alloc (.cells #[.int .i64 0] 29)
  have b7 := Boxed.new (w.alloc (.cells #[.slice none 0 0] 22)) 29 (.int .i64 0)
  rw [World.size_alloc] at b7
  have KB := Go.Lib.hid kb
  have B6 := Go.Lib.hid b6
  have B7 := Go.Lib.hid b7
  have HZ := Go.Lib.hid hz0
  have HP := Go.Lib.hid hp0
  have HG := Go.Lib.hid (chkI_good hz0).1
  have HOK := Go.Lib.hid hok
  have HPS := Go.Lib.hid hps
  have HI := Go.Lib.hid hi
  have HBI := Go.Lib.hid hbi
  obtain ⟨hk, hkid⟩ := plc_lt hp0
  have hz2 : ((w.alloc (.cells #[.slice none 0 0] 22)).alloc (.cells #[.int .i64 0] 29)).heap.size = w.heap.size + 2 := by simp
  have hkn : k < n := by omega
  have HKL := Go.Lib.hid hk
  have HLN := Go.Lib.hid hn
  have CC := Go.Lib.hid (fun w' (hb : Below w.heap.size w w') => clone60_any l A n d hn (by omega) hs hps w' (hA.below hb))
  have cF := fun w' b => chainF_any A n d b base w'
  obtain ⟨ga, oa, rfl, hga, hcl⟩ := hA.pos (by omega)
  obtain ⟨Br, cr, v0, v1, vr⟩ := hcl k hk
  rw [getD_at hk] at hyes
  have HY := Go.Lib.hid hyes
  have f0 : (0 : Int) ≤ (k : Int) := by omega
  have f1 : (k : Int) < (n : Int) := by omega
  have VV := Go.Lib.hid (fun w' (hb : Below w.heap.size w w') => (hb.cell (p := ⟨ga, oa + k * 6 + 1, none⟩) hga).trans v1)
  clear hA hok hnm hps kb b6 b7 hz0 hp0 hkid hcl v0 v1 vr hn hi hbi hyes
  generalize l[k].kind = kd at VV HY
  have nb : (base != 0) = true := by simpa using hb0
  clear hb0
  refine callsIn_of_wp_marks Try.func40 rfl trivial ?_ rfl
  simp only [Try.ntmps40, List.size_toArray, List.length_cons, List.length_nil, Nat.reduceAdd, Nat.reduceSub, Array.replicate_succ, Array.replicate_zero, List.push_toArray, List.append_toArray, List.nil_append, List.cons_append]
  refine wpIn_wide.2 ?_
  go_wp2_with fail
  (with_reducible refine cO.mono ?_)
  rintro e w1 ⟨(⟨hz, rfl⟩ | ⟨b, k', hz, hp, rfl, hsh⟩), k1⟩
  · exact absurd HZ.out hz
  obtain rfl : k = k' := by have := HP.out; rw [hp] at this; cases this; rfl
  have r6 := Go.Lib.hid (((boxed_below B6.out k1).alloc (.cells #[.slice (some ⟨ga, oa, none⟩) n d, .map (some b)] 73)).alloc (.cells #[.int .i64 (k : Nat)] 3))
  have r7 := Go.Lib.hid (((boxed_below B7.out k1).alloc (.cells #[.slice (some ⟨ga, oa, none⟩) n d, .map (some b)] 73)).alloc (.cells #[.int .i64 (k : Nat)] 3))
  have OS := Go.Lib.hid ((ObjAt.new w1 #[.slice (some ⟨ga, oa, none⟩) n d, .map (some b)] 73).alloc (.cells #[.int .i64 (k : Nat)] 3))
  have OI := Boxed.new (w1.alloc (.cells #[.slice (some ⟨ga, oa, none⟩) n d, .map (some b)] 73)) 3 (.int .i64 (k : Nat))
  rw [World.size_alloc] at OI
  have OI := Go.Lib.hid OI
  have s1 := k1.size
  rw [hz2] at s1
  have hWs : ((w1.alloc (.cells #[.slice (some ⟨ga, oa, none⟩) n d, .map (some b)] 73)).alloc (.cells #[.int .i64 (k : Nat)] 3)).heap.size = w1.heap.size + 2 := by simp
  have K1 := Go.Lib.hid (((Below.refl w1.heap.size w1).alloc (Nat.le_refl _) (.cells #[.slice (some ⟨ga, oa, none⟩) n d, .map (some b)] 73)).alloc (by simp) (.cells #[.int .i64 (k : Nat)] 3))
  have B1 := Go.Lib.hid (((KB.out.trans (k1.mono (by rw [hz2]; omega))).alloc (by omega) (.cells #[.slice (some ⟨ga, oa, none⟩) n d, .map (some b)] 73)).alloc (by simp; omega) (.cells #[.int .i64 (k : Nat)] 3))
  have HSH := Go.Lib.hid (hsh.below K1.out)
  clear cO hz k1 hp hsh
  go_upto_region 4 with fail
  generalize hW : (w1.alloc (.cells #[.slice (some ⟨ga, oa, none⟩) n d, .map (some b)] 73)).alloc (.cells #[.int .i64 (k : Nat)] 3) = W at r6 r7 OS OI B1 HSH hWs ⊢
  clear hW
  have cH : ∀ p : Bw W, Calls Try.prog 61 #[.agg #[.slice (some ⟨ga, oa, none⟩) n d, .map (some b)], .int .i64 kd, .int .i64 base] p.w fun e w' => e = .returned (.bool true) ∧ Below p.w.heap.size p.w w' := fun p => by
    have := has_any l (some ⟨ga, oa, none⟩) n d b kd base HBI.out p.w (HSH.out.below p.h)
    rw [HY.out] at this
    exact this
  have x8 : ∀ p : Bw W, p.w.cell? ⟨w1.heap.size, 0, none⟩ = some (.slice (some ⟨ga, oa, none⟩) n d) := fun p => (OS.out.below p.h).a0
  have x8b : ∀ p : Bw W, p.w.cell? ⟨w1.heap.size, 1, none⟩ = some (.map (some b)) := fun p => (OS.out.below p.h).a1
  have x9 : ∀ p : Bw W, p.w.cell? ⟨w1.heap.size + 1, 0, none⟩ = some (.int .i64 (k : Nat)) := fun p => (boxed_below OI.out p.h).cell
  have xk : ∀ p : Bw W, p.w.cell? ⟨ga, oa + k * 6 + 1, none⟩ = some (.int .i64 kd) := fun p => VV.out _ (B1.out.trans (p.h.mono B1.out.size))
  have cH2 := bw_of cH
  go_wp2_with fail
  refine wp_region_bw (W := W) (by kernel_rfl) (by kernel_rfl) (by first | exact Below.refl _ _ | exact (Below.refl _ _).drew) ?_
  repeat (quiet_step (first
    | (go_at_call 61; exact cH2 _)
    | fail))
  refine wpQuiet_nil ?_
  intro w7 hw'
  have kk : Below W.heap.size W w7 := by obtain ⟨p2, rfl⟩ := hw'; exact p2.h
  have sW := B1.out.size
  have R6 := Go.Lib.hid (boxed_below r6.out kk)
  have R7 := Go.Lib.hid (boxed_below r7.out kk)
  have OS7 := Go.Lib.hid (OS.out.below kk)
  have OI7 := Go.Lib.hid (boxed_below OI.out kk)
  have K7 := Go.Lib.hid (B1.out.trans (kk.mono sW))
  have SH7 := Go.Lib.hid (HSH.out.below kk)
  have s7 := kk.size
  clear hw' kk x8 x8b x9 xk cH cH2 HY r6 r7 OS OI HSH K1 VV
  have p0 := OS7.out.a0
  have p1 := OS7.out.a1
  go_wp2_with fail
  (with_reducible refine (cF _ _).mono ?_)
  rintro e w2 ⟨rfl, rfl⟩
  clear cF
  go_wp2_with fail
  clear p0 p1
  have C6 := ((R6.out.alloc (.cells #[.slice (some ⟨ga, oa, none⟩) n d, .map (some b)] 73)).alloc (.cells #[.int .i64 base] 3))
  have C7 := ((R7.out.alloc (.cells #[.slice (some ⟨ga, oa, none⟩) n d, .map (some b)] 73)).alloc (.cells #[.int .i64 base] 3))
  have CS := ((OS7.out.alloc (.cells #[.slice (some ⟨ga, oa, none⟩) n d, .map (some b)] 73)).alloc (.cells #[.int .i64 base] 3))
  have CI := ((OI7.out.alloc (.cells #[.slice (some ⟨ga, oa, none⟩) n d, .map (some b)] 73)).alloc (.cells #[.int .i64 base] 3))
  have CA := (ObjAt.new w7 #[.slice (some ⟨ga, oa, none⟩) n d, .map (some b)] 73).alloc (.cells #[.int .i64 base] 3)
  have CB := Boxed.new (w7.alloc (.cells #[.slice (some ⟨ga, oa, none⟩) n d, .map (some b)] 73)) 3 (.int .i64 base)
  rw [World.size_alloc] at CB
  have CZ := ((Below.refl w7.heap.size w7).alloc (Nat.le_refl _) (.cells #[.slice (some ⟨ga, oa, none⟩) n d, .map (some b)] 73)).alloc (by simp) (.cells #[.int .i64 base] 3)
  have hs4 : ((w7.alloc (.cells #[.slice (some ⟨ga, oa, none⟩) n d, .map (some b)] 73)).alloc (.cells #[.int .i64 base] 3)).heap.size = w7.heap.size + 2 := by simp
  have hch := chain_any 6 (by decide) w7.heap.size (w7.heap.size + 1) (some ⟨ga, oa, none⟩) n d b (l.length + 1) l base HBI.out HOK.out w7.heap.size w7 _ rfl SH7.out CA CB
  generalize (w7.alloc (.cells #[.slice (some ⟨ga, oa, none⟩) n d, .map (some b)] 73)).alloc (.cells #[.int .i64 base] 3) = W4 at C6 C7 CS CI CA CB CZ hs4 hch ⊢
  refine (wpIn_wide (n := 7)).1 ?_
  refine rangeH1 (T := TZ) (Bs := w7.heap.size) (G := fun pre V => pre.length < l.length + 1 ∧ Below w7.heap.size w7 V) rfl (by decide) (gf := 69) (lb := #[.pointer (some ⟨w7.heap.size, 0, none⟩), .pointer (some ⟨w7.heap.size + 1, 0, none⟩)]) rfl trivial (enters_of Try.func69 (by kernel_rfl) rfl)
    (by omega) hch
    (fun (pre : List Nat) V => (Boxed V w.heap.size 22 (.slice none 0 0) ∧ Boxed V (w.heap.size + 1) 29 (.int .i64 0) ∧ ObjAt V w1.heap.size #[.slice (some ⟨ga, oa, none⟩) n d, .map (some b)] 73 ∧ Boxed V (w1.heap.size + 1) 3 (.int .i64 (k : Nat)) ∧ (ChP l (plc l base) pre ∧ k ∉ pre)) ∧ Below w7.heap.size w7 V)
    (fun c pre V => (c = .ret ∧ k ∈ pre) ∧ Boxed V w.heap.size 22 (.slice none 0 0) ∧ Boxed V (w.heap.size + 1) 29 (.int .i64 16) ∧ Below w.heap.size w V)
    (fun pre V h => ⟨HG.out.bound h.1.2.2.2.2.1, h.2⟩)
    (OwnT.and (OwnT.and (OwnT.boxed rfl (fun _ => _)) (OwnT.and (OwnT.boxed rfl (fun _ => _)) (OwnT.and (OwnT.obj rfl (fun _ => _)) (OwnT.and (OwnT.boxed rfl (fun _ => _)) OwnT.pure)))) (OwnT.below (Nat.le_refl _) (by omega)))
    (fun c => OwnT.and OwnT.pure (OwnT.and (OwnT.boxed rfl (fun _ => _)) (OwnT.and (OwnT.boxed rfl (fun _ => _)) (OwnT.below (Nat.le_refl _) (by omega)))))
    ⟨⟨C6, C7, CS, CI, ChP.nil _ _, by simp⟩, CZ⟩ ?round ?done ?stop
  case round =>
    clear C6 C7 CS CI CA CB CZ hch
    rintro L pre x U ⟨⟨h6, h7, hS, hI, hc, hx⟩, hB⟩ hlt hsp hl hlW
    gi_wp2
    refine ⟨KeepsFrom.refl _ _, Kpt.refl _, ⟨⟨h6, h7, hS, hI, hc, hx⟩, hB⟩, ?_⟩
    rintro V hg ⟨⟨h6, h7, hS, hI, _, _⟩, hBV⟩
    have ci := hI.cell
    have c6 := h6.cell
    have c7 := h7.cell
    have t6 := h6.frozen
    have t7 := h7.frozen
    by_cases hxk : x = k
    · have e3 : ((x : Int) == (k : Int)) = true := by simp [hxk]
      have q := two_boxes h6 h7 (show w.heap.size ≠ w.heap.size + 1 by omega) (.slice none 0 0) (.int .i64 16)
      gi_wp2
      exact ⟨((KeepsOthers.setCell _ _ _).trans (KeepsOthers.setCell _ _ _)).from _, ⟨rfl, by simp [hxk]⟩, q.1, q.2, two_below (K7.out.trans (hBV.mono K7.out.size)) (Nat.le_refl _) (by omega) _ _⟩
    · have e3 : ((x : Int) == (k : Int)) = false := by simp; omega
      have hx2 : k ∉ pre ++ [x] := by simp [hx]; omega
      gi_wp2
      exact ⟨KeepsFrom.refl _ _, Kpt.refl _, ⟨⟨h6, h7, hS, hI, hsp, hx2⟩, hBV⟩⟩
  case done =>
    clear C6 C7 CS CI CA CB CZ hch
    rintro D xs V hD hxs ⟨⟨h6, h7, hS, hI, hc, hx⟩, hB⟩ hK
    have HKN := Go.Lib.hid (show k ∉ chn l base from by
      obtain ⟨g1, g2⟩ := chn_spec HG.out base
      rw [← ch_uniq hxs.1 hxs.2 g1 g2]
      exact hx)
    have BV := Go.Lib.hid (K7.out.trans (hB.mono K7.out.size))
    have sV := hB.size
    have hDV : D < V.heap.size := (Array.getElem?_eq_some_iff.1 hK).1
    have HMK := Go.Lib.hid (show Marks w.heap.size [D] V from ⟨by simp, by intro D' hD'; rw [List.mem_singleton] at hD'; subst hD'; exact ⟨by omega, hK⟩⟩)
    have SHV := Go.Lib.hid (SH7.out.below hB)
    have A6 := Go.Lib.hid h6
    have A7 := Go.Lib.hid h7
    have AS := Go.Lib.hid hS
    have AI := Go.Lib.hid hI
    have l6 := h6.lt
    have l7 := h7.lt
    have cC := CC.out V BV.out
    clear h6 h7 hS hI hc hx hxs hK
    go_wp2_with fail
    (with_reducible refine cC.mono ?_)
    rintro e w8 ⟨⟨g, cb, L, rfl, hOS, hLm⟩, k8⟩
    have hgl := hOS.lt
    have hgV : V.heap.size ≤ g := hgl.1
    have s8 := k8.size
    have K8 := Go.Lib.hid k8
    have HOS := Go.Lib.hid hOS
    have HLM := Go.Lib.hid hLm
    have hkL : k < L.length := by rw [hOS.len]; omega
    have ci := (boxed_below AI.out k8).cell
    have z3 := HOS.out.cell hkL (j := 3) (by omega)
    have t3 := HOS.out.row.frozenAt (k * 6 + 3)
    replace z3 : w8.cell? ⟨g, k * 6 + 3, none⟩ = some (.int .i64 L[k].1.base) := z3
    have Y3 := Go.Lib.hid (show OwnS (w8.setCell ⟨g, k * 6 + 3, none⟩ (.int .i64 base)) V.heap.size g n cb (L.set k (⟨L[k].1.id, L[k].1.kind, L[k].1.name, base, L[k].1.next, L[k].1.props⟩, L[k].2.1, L[k].2.2)) from by
      have hp := HOS.out.prs _ (List.getElem_mem hkL)
      exact HOS.out.put hkL (j := 3) (by omega) rfl hp)
    have B9 := Go.Lib.hid (K8.out.setCell (p := ⟨g, k * 6 + 3, none⟩) hgV (.int .i64 base))
    clear cC k8 hOS hLm
    go_upto_region 12 with fail
    clear ci z3 t3
    generalize w8.setCell ⟨g, k * 6 + 3, none⟩ (.int .i64 base) = W9 at Y3 B9 ⊢
    have hgW : g < W9.heap.size := Y3.out.lt.2
    have s9 := B9.out.size
    have SH9 := Go.Lib.hid (SHV.out.below B9.out)
    have AS9 := Go.Lib.hid (AS.out.below B9.out)
    have AI9 := Go.Lib.hid (boxed_below AI.out B9.out)
    have hL1 : k < (L.set k ((⟨L[k].1.id, L[k].1.kind, L[k].1.name, base, L[k].1.next, L[k].1.props⟩ : St), L[k].2.1, L[k].2.2)).length := by rw [List.length_set]; exact hkL
    have x5 : W9.cell? ⟨g, k * 6 + 5, none⟩ = some (.slice L[k].2.1 L[k].1.props.length L[k].2.2) := by
      rw [Y3.out.cell hL1 (j := 5) (by omega), List.getElem_set_self]; rfl
    have u5 := Y3.out.row.frozenAt (k * 6 + 5)
    obtain ⟨O, hO⟩ : ∃ O, O = keyT (ovG (effI l base) (effI l i)) tabP := ⟨_, rfl⟩
    have HO := Go.Lib.hid hO
    have inB := effP_in HG.out.inT (chn l base)
    have inI := effP_in HG.out.inT (chn l i)
    have hOV : ovL (effI l base) (effI l i) = O := by rw [hO]; exact ov_eq inB inI
    have hlB : (effI l base).length ≤ 1000 := by have := inB.len; unfold effI; omega
    have hlI : (effI l i).length ≤ 1000 := by have := inI.len; unfold effI; omega
    have cEb : ∀ U, Below W9.heap.size W9 U → Calls Try.prog 52 #[.agg #[.slice (some ⟨ga, oa, none⟩) n d, .map (some b)], .int .i64 base] U fun e U' => ∃ Bb nb cb', e = .returned (.slice Bb nb cb') ∧ EP (effI l base) Bb nb cb' U' ∧ Below W9.heap.size W9 U' := fun U hU => by
      refine (effI_any l HOK.out HPS.out HG.out (some ⟨ga, oa, none⟩) n d b base HBI.out U (SH9.out.below hU)).mono ?_
      rintro e U' ⟨B, q, c, rfl, h1, h2⟩
      exact ⟨B, q, c, rfl, h1, hU.trans (h2.mono hU.size)⟩
    have cEi : ∀ U Bb nb cb', Below W9.heap.size W9 U → EP (effI l base) Bb nb cb' U → Calls Try.prog 52 #[.agg #[.slice (some ⟨ga, oa, none⟩) n d, .map (some b)], .int .i64 i] U fun e U' => ∃ Bi ni ci, e = .returned (.slice Bi ni ci) ∧ EP (effI l base) Bb nb cb' U' ∧ EP (effI l i) Bi ni ci U' ∧ Below W9.heap.size W9 U' := fun U Bb nb cb' hU hE => by
      refine (effI_any l HOK.out HPS.out HG.out (some ⟨ga, oa, none⟩) n d b i HI.out U (SH9.out.below hU)).mono ?_
      rintro e U' ⟨B, q, c, rfl, h1, h2⟩
      exact ⟨B, q, c, rfl, hE.below h2, h1, hU.trans (h2.mono hU.size)⟩
    have cV : ∀ U Bb nb cb' Bi ni ci, Below W9.heap.size W9 U → EP (effI l base) Bb nb cb' U → EP (effI l i) Bi ni ci U → Calls Try.prog 62 #[.slice Bb nb cb', .slice Bi ni ci] U fun e U' => ∃ B q c, e = .returned (.slice B q c) ∧ O.length = q ∧ U'.ownsRow W9.heap.size 55 2 (.slice B q c) q (rowP O) ∧ Below W9.heap.size W9 U' ∧ U'.cell? ⟨g, k * 6 + 5, none⟩ = some (.slice L[k].2.1 L[k].1.props.length L[k].2.2) ∧ U'.frozen? ⟨g, k * 6 + 5, none⟩ = false := fun U Bb nb cb' Bi ni ci hU h1 h2 => by
      refine (over_any Bb Bi cb' ci (effI l base) (effI l i) hlB hlI nb ni h1.1 h2.1 h1.2.1 h2.2.1 U h1.2.2 h2.2.2).mono ?_
      rw [hOV]
      rintro e U' ⟨B, q, c, hq, rfl, hr, hb⟩
      have hb9 := hU.trans (hb.mono hU.size)
      exact ⟨B, q, c, rfl, hq, own_lower hr hU.size, hb9, (hb9.cell (p := ⟨g, k * 6 + 5, none⟩) hgW).trans x5, (Y3.out.below hb9).row.frozenAt (k * 6 + 5)⟩
    have SS := Go.Lib.hid (fun U (hU : Below W9.heap.size W9 U) => (⟨(AS9.out.below hU).a0, (AS9.out.below hU).a1, (boxed_below AI9.out hU).cell⟩ : U.cell? ⟨w1.heap.size, 0, none⟩ = some (.slice (some ⟨ga, oa, none⟩) n d) ∧ U.cell? ⟨w1.heap.size, 1, none⟩ = some (.map (some b)) ∧ U.cell? ⟨w1.heap.size + 1, 0, none⟩ = some (.int .i64 (k : Nat))))
    have SS2 := Go.Lib.hid (fun U v (hU : Below W9.heap.size W9 U) => (⟨((AS9.out.below hU).other (show w1.heap.size ≠ g by omega) (k * 6 + 5) v).a0, ((AS9.out.below hU).other (show w1.heap.size ≠ g by omega) (k * 6 + 5) v).a1, (ObjAt.other (show ObjAt U (w1.heap.size + 1) #[.int .i64 (k : Nat)] 3 from boxed_below AI9.out hU) (show w1.heap.size + 1 ≠ g by omega) (k * 6 + 5) v).get (k := 0) rfl⟩ : (U.setCell ⟨g, k * 6 + 5, none⟩ v).cell? ⟨w1.heap.size, 0, none⟩ = some (.slice (some ⟨ga, oa, none⟩) n d) ∧ (U.setCell ⟨g, k * 6 + 5, none⟩ v).cell? ⟨w1.heap.size, 1, none⟩ = some (.map (some b)) ∧ (U.setCell ⟨g, k * 6 + 5, none⟩ v).cell? ⟨w1.heap.size + 1, 0, none⟩ = some (.int .i64 (k : Nat))))
    have D0 : Below W9.heap.size W9 W9.drew := bdrew1 (Below.refl _ _)
    clear inB inI hO hOV hlB hlI x5 u5
    go_region_held3 (fun U => U.cell? ⟨w1.heap.size, 0, none⟩ = some (.slice (some ⟨ga, oa, none⟩) n d) ∧ U.cell? ⟨w1.heap.size, 1, none⟩ = some (.map (some b)) ∧ U.cell? ⟨w1.heap.size + 1, 0, none⟩ = some (.int .i64 (k : Nat))) (first | exact SS.out _ (by assumption) | exact SS2.out _ _ (by assumption)) (first
      | (go_at_call 52; (with_reducible refine (cEb _ D0).mono ?_); rintro e U1 ⟨Bb, nb', cb', rfl, hE1, hU1⟩)
      | (go_at_call 52; (with_reducible refine (cEi _ _ _ _ hU1 hE1).mono ?_); rintro e U2 ⟨Bi, ni, ci, rfl, hE2, hE3, hU2⟩)
      | (go_at_call 62; (with_reducible refine (cV _ _ _ _ _ _ _ hU2 hE2 hE3).mono ?_); rintro e U3 ⟨B8, n8, c8, rfl, hl8, hr8, hU3, y5, t5⟩))
    all_goals
      have HM8 := Y3.out.below hU3
      have hq8 := row_prat hr8 hl8
      have HM5 := HM8.put hL1 (j := 5) (y := ((⟨L[k].1.id, L[k].1.kind, L[k].1.name, base, L[k].1.next, O⟩ : St), B8, c8)) (u := .slice B8 n8 c8) (by omega) (by rw [List.getElem_set_self]; unfold rowA1; dsimp only; rw [hl8]; rfl) ⟨by show O.length ≤ c8; rw [hl8]; exact hq8.1, hq8.2.1, hq8.2.2, .inr (row_ne hr8 hgW)⟩
      rw [List.set_set] at HM5
      have HX := Go.Lib.hid HM5
      have BX := Go.Lib.hid ((B9.out.trans (hU3.mono s9)).setCell (p := ⟨g, k * 6 + 5, none⟩) hgV (.slice B8 n8 c8))
      clear HM8 hq8 HM5 hU1 hE1 hU2 hE2 hE3 hr8 hU3 y5 t5 cEb cEi cV
      generalize U3.setCell ⟨g, k * 6 + 5, none⟩ (.slice B8 n8 c8) = WX at HX BX ⊢
      have X6 := boxed_below A6.out BX.out
      have X7 := boxed_below A7.out BX.out
      have MX := HMK.out.below BX.out
      have c6 := X6.cell
      have c7 := X7.cell
      have g6 := X6.frozen
      have g7 := X7.frozen
      have Q := two_boxes X6 X7 (show w.heap.size ≠ w.heap.size + 1 by omega) (.slice (some ⟨g, 0, none⟩) n cb) (.int .i64 0)
      have X7a := Boxed.other X7 (show w.heap.size + 1 ≠ w.heap.size by omega) (.slice (some ⟨g, 0, none⟩) n cb)
      have MQ := Go.Lib.hid (marks_set (marks_set MX X6 0 (.slice (some ⟨g, 0, none⟩) n cb)) X7a 0 (.int .i64 0))
      have OQ := Go.Lib.hid ((HX.out.box l6 X6 (.slice (some ⟨g, 0, none⟩) n cb)).box l7 X7a (.int .i64 0))
      have BQ := Go.Lib.hid (two_below (BV.out.trans (BX.out.mono BV.out.size)) (Nat.le_refl _) (Nat.le_succ _) (.slice (some ⟨g, 0, none⟩) n cb) (.int .i64 0))
      have HQ := Go.Lib.hid Q
      clear X6 X7 MX X7a Q
      go_wp2_with fail
      refine leaves_marks (lo := w.heap.size) (fun U => Below w.heap.size w U ∧ Boxed U w.heap.size 22 (.slice (some ⟨g, 0, none⟩) n cb) ∧ Boxed U (w.heap.size + 1) 29 (.int .i64 0) ∧ OwnS U V.heap.size g n cb (L.set k ((⟨L[k].1.id, L[k].1.kind, L[k].1.name, base, L[k].1.next, O⟩ : St), B8, c8))) ?_ ?_ [D] _ ⟨BQ.out, HQ.out.1, HQ.out.2, OQ.out⟩ MQ.out
      · rintro U D' ⟨k1, k2, k3, k4⟩ hD' hK'
        exact ⟨below_putM k1 hD' _, obj_putM k2 hK' rfl, obj_putM k3 hK' rfl, k4.putM hK' rfl _⟩
      · rintro U ⟨k1, k2, k3, k4⟩
        have q6 := k2.cell
        have q7 := k3.cell
        refine ⟨.tuple #[.slice (some ⟨g, 0, none⟩) n cb, .int .i64 0], by simp [results, Try.results40, go_sem, q6, q7], .inr ⟨HKN.out, g, cb, _, rfl, ⟨own_lower k4.row BV.out.size, k4.len, k4.prs⟩, ?_⟩, k1⟩
        rw [List.map_set, HLM.out]
        unfold rbL rbF
        have e9 : L[k].1 = l.getD k default := by
          have : (L.map (·.1))[k]? = some L[k].1 := by rw [List.getElem?_map, List.getElem?_eq_getElem hkL]; rfl
          rw [HLM.out] at this
          rw [List.getD_eq_getElem?_getD, this]; rfl
        rw [← e9, ← HO.out]
  case stop =>
    clear C6 C7 CS CI CA CB CZ hch
    rintro D c pre V hD hSp ⟨⟨rfl, hkp⟩, h6, h7, hB⟩ hK
    have HKN := Go.Lib.hid (show k ∈ chn l base from by
      obtain ⟨g1, g2⟩ := chn_spec HG.out base
      exact (ch_pre g1 g2 pre hSp).subset hkp)
    have A6 := Go.Lib.hid h6
    have A7 := Go.Lib.hid h7
    have BV := Go.Lib.hid hB
    have HK := Go.Lib.hid hK
    clear h6 h7 hB hK hSp hkp
    gi_wp2
    refine ⟨by simp, .inl ⟨_, _, rfl, run_takeDeferred HK.out, ?_⟩⟩
    have q4 := cell_kept A6.out.cell (grownBy_putObj' _ D (.deferred none)) (fun r e => by cases e; exact ⟨_, HK.out, rfl⟩)
    have q5 := cell_kept A7.out.cell (grownBy_putObj' _ D (.deferred none)) (fun r e => by cases e; exact ⟨_, HK.out, rfl⟩)
    exact ⟨.tuple #[.slice none 0 0, .int .i64 16], by simp [results, Try.results40, go_sem, q4, q5], .inl ⟨HKN.out, rfl⟩, BV.out.trans (belowK_b (w := w) (Nat.le_refl _) V D _ _ (by omega) HK.out rfl rfl)⟩
/-- What Rebase hands back, whatever comes in. -/
def RebR (l : List St) (i base : Int) (n : Nat) (w : World) (e : Ending) (w' : World) : Prop :=
  ((chkI l i ≠ 0 ∧ e = .returned (.tuple #[.slice none 0 0, .int .i64 (chkI l i)])) ∨
    (chkI l i = 0 ∧ ∃ k, plc l i = some k ∧
      ((base ≠ 0 ∧ hasB l ((l.getD k default).kind) base = false ∧ e = .returned (.tuple #[.slice none 0 0, .int .i64 25])) ∨
        ((base = 0 ∨ hasB l ((l.getD k default).kind) base = true) ∧
          ((k ∈ chn l base ∧ e = .returned (.tuple #[.slice none 0 0, .int .i64 16])) ∨
            (k ∉ chn l base ∧ ∃ g cb L, e = .returned (.tuple #[.slice (some ⟨g, 0, none⟩) n cb, .int .i64 0]) ∧ OwnS w' w.heap.size g n cb L ∧ L.map (·.1) = rbL l i k base)))))) ∧ Below w.heap.size w w'
theorem rebase_any (l : List St) (hok : LsOk l) (hnm : NmsOk l) (hps : PrsOk l) (A : Option Addr) (n d : Nat) (hn : l.length = n) (hs : n ≤ 1000) (i base : Int) (hi : I64 i) (hbi : I64 base) (w : World) (hA : LsAt w A l) :
    Calls Try.prog 40 #[.slice A n d, .int .i64 i, .int .i64 base] w (RebR l i base n w) := by
  by_cases hz : chkI l i = 0
  case neg => exact (rebase_bad l hok hnm A n d hn hs i base hi hz w hA).mono fun e w' h => ⟨.inl ⟨hz, h.1⟩, h.2⟩
  obtain ⟨k, hp⟩ := (chkI_good hz).2
  by_cases hb : base = 0
  · exact (callsIn_wide.1 (rebase_z l hok hnm hps A n d hn hs i base hi hbi hz k hp hb w hA)).mono fun e w' h => ⟨.inr ⟨hz, k, hp, .inr ⟨.inl hb, h.1⟩⟩, h.2⟩
  cases hh : hasB l ((l.getD k default).kind) base with
  | false => exact (rebase_no l hok hnm A n d hn hs i base hi hbi hz k hp hb hh w hA).mono fun e w' h => ⟨.inr ⟨hz, k, hp, .inl ⟨hb, hh, h.1⟩⟩, h.2⟩
  | true => exact (callsIn_wide.1 (rebase_y l hok hnm hps A n d hn hs i base hi hbi hz k hp hb hh w hA)).mono fun e w' h => ⟨.inr ⟨hz, k, hp, .inr ⟨.inr hh, h.1⟩⟩, h.2⟩
end Go.Proofs.Ytbkpokipibgdfaa
