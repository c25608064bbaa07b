/- A range over an iterator, with what has come known as a beginning of the whole; the iterator over tokens so. -/
import Derived.Test.YthjooopppidcfaaDoorKf
namespace Go.Proofs.YthjooopppidcfaaDoor
open Go.RowKit Go.Shelf Go.Lib
open Gc

section
variable {T : TypeId → Bool} {Bs : Nat}
def SeqP (T : TypeId → Bool) (Bs : Nat) {α : Type} (F : Fence) (n : Nat) (P : Program) (g : Nat) (lb : Array Value) (encs : α → Array Value) (S Sp : List α → Prop) (N : Nat) (w : World) : Prop :=
  ∀ (l : Nat) (J Jx : List α → World → Prop) (W : World), Below w.heap.size w W → AbT T W.heap.size J → AbT T W.heap.size Jx →
    (∀ pre x W1, J pre W1 → pre.length < N → Sp (pre ++ [x]) → YieldAt F (n - 1) P l (encs x) W1 fun e W' =>
      (e = .returned (.bool true) ∧ J (pre ++ [x]) W' ∧ Kpt T Bs W1 W') ∨ (e = .returned (.bool false) ∧ Jx (pre ++ [x]) W')) →
    J [] W →
    CallsIn F n P g (#[.func (.yield l) #[] #[]] ++ lb) W fun e W' => (∃ v, e = .returned v) ∧ ((∃ xs, S xs ∧ J xs W') ∨ (∃ pre, Sp pre ∧ Jx pre W'))

variable {F : Fence} {n : Nat} {P : Program}

/-- A range over such an iterator: the assignment to the loop's variable and the body in one premise. -/
theorem rangeP {α : Type} {g : Operand} {ps : Array Tmp} {assign body : Code} {Q : Exit → Act → World → Prop} {a : Act} {w : World}
    (hro : F.round = none) (h1 : 1 ≤ n) {gf : Nat} {lb : Array Value} (hg : a.eval g = .func (.func gf) #[] lb) (hFg : F.fn gf) (eg : ∀ args w, (callFunc gf args).run P w = .ok (.enter gf args) w)
    {encs : α → Array Value} {S Sp : List α → Prop} {N : Nat} (hBs : Bs < w.heap.size) (hseq : SeqP T Bs F (n - 1) P gf lb encs S Sp N w) (hps : ∀ x, (encs x).size = ps.size)
    (I : List α → World → Prop) (Ix : Code → List α → World → Prop) (hI : OwnT T w.heap.size I) (hIx : ∀ c, OwnT T w.heap.size (Ix c)) (h0 : I [] w)
    (hround : ∀ (l : Nat) (pre : List α) (x : α) (W : World), I pre W → pre.length < N → Sp (pre ++ [x]) → w.heap.size ≤ l → l < W.heap.size →
      assign.wpIn (F.inRound l) (n - 1 - 1) P (Exit.then (fun a₁ V => KeepsFrom w.heap.size W V ∧ Kpt T Bs W V ∧ I pre V ∧
        ∀ V', V.grownBy V' (some l) → I pre V' → body.wpIn (F.inRound l) (n - 1 - 1) P (postT T Bs w.heap.size I Ix (pre ++ [x]) V') a₁ V') (fun _ _ _ => False))
        { tmps := (ps.zip (encs x)).foldl (fun t (p, v) => t.setIfInBounds p v) a.tmps, defers := [] } W)
    (hdone : ∀ (D : Nat) (xs : List α) (W : World), w.heap.size ≤ D → S xs → I xs W → W.heap[D]? = some (.deferred (some [])) → Q .normal { a with defers := { target := .collected D, args := #[] } :: a.defers } W)
    (hstop : ∀ (D : Nat) (c : Code) (pre : List α) (W : World), w.heap.size ≤ D → Sp pre → Ix c pre W → W.heap[D]? = some (.deferred (some [])) → c.wpIn F n P Q { a with defers := { target := .collected D, args := #[] } :: a.defers } W) :
    (Code.rangeFunc g ps assign body).wpIn F n P Q a w := by
  refine wpIn_rangeFunc fun fn hfn => ?_
  rw [hro]
  obtain ⟨d, hd⟩ : ∃ d, w.heap.size = d := ⟨_, rfl⟩
  obtain ⟨rec, hrec⟩ : ∃ rec : LoopState → Option Code → Loop, rec = fun st pe => { state := st, pending := pe, fn, tmps := a.tmps, params := ps, assign, body, defers := d } := ⟨_, rfl⟩
  obtain ⟨V1, hV1⟩ : ∃ V1, (w.alloc (.deferred (some []))).alloc (.loop (rec .ready none)) = V1 := ⟨_, rfl⟩
  have hk1 : Kept (d + 1) d (rec .ready none) V1 := by
    rw [← hV1, ← hd]
    refine ⟨?_, (Below.heap_alloc _ _ _ (by simp)).trans (World.alloc_heap_new w _)⟩
    have := World.alloc_heap_new (w.alloc (.deferred (some []))) (.loop (rec .ready none))
    rwa [World.size_alloc] at this
  have hs1 : V1.heap.size = d + 2 := by rw [← hV1, ← hd]; simp
  refine ⟨d + 1, [{ target := .collected d, args := #[] }], V1, { target := .fn (.func gf) lb, args := #[.func (.yield (d + 1)) #[] #[]] }, V1, gf,
    #[.func (.yield (d + 1)) #[] #[]] ++ lb, V1, ?enter, ?res, ?leads, ?inv, fun _ => h1, ?run⟩
  case enter => rw [← hV1, hrec, ← hd]; exact run_enterLoop_outer _ _ _ _ _
  case res =>
    simp only [resolve, hg]
    simp [go_sem]
  case leads => intro f' hf'; simp [Target.leads] at hf'; subst hf'; exact hFg
  case inv => simp [invoke, go_sem, eg]
  case run =>
    rw [hd] at hI hIx hround hdone hstop
    have up : ∀ {A : World} {row : Option Nat}, (∀ r, row = some r → V1.heap.size ≤ r ∧ ∃ o : Obj, A.heap[r]? = some o ∧ mine T o = true) → (∀ r, row = some r → d ≤ r ∧ ∃ o : Obj, A.heap[r]? = some o ∧ (mine T o = true ∨ o.isCells = false)) :=
      fun hr r e => by obtain ⟨hB, o, ho, hm⟩ := hr r e; exact ⟨by omega, o, ho, .inl hm⟩
    refine (hseq (d + 1) (fun pre W => I pre W ∧ Kept (d + 1) d (rec .ready none) W) (fun pre W => ∃ c, Ix c pre W ∧ Kept (d + 1) d (rec .done (some c)) W) V1 ?b0 ?ab ?abx ?rounds ⟨?i0, hk1⟩).mono ?fin
    case b0 => rw [← hV1]; exact ((Below.refl _ w).alloc (Nat.le_refl _) _).alloc (by simp) _
    case ab => exact fun s A C row hs hg' hr => ⟨hI s A C row hs.1 hg' (up hr), hs.2.turn hg' (fun r e => (hr r e).2)⟩
    case abx =>
      rintro s A C row ⟨c, hc, hk⟩ hg' hr
      exact ⟨c, hIx c s A C row hc hg' (up hr), hk.turn hg' (fun r e => (hr r e).2)⟩
    case i0 => rw [← hV1]; exact hI.new _ (hI.new _ h0)
    case rounds =>
      rintro pre x W ⟨hi, hk⟩ hlen hsp
      have hlt : d + 1 < W.heap.size := (Array.getElem?_eq_some_iff.1 hk.1).1
      have hy := run_yield (P := P) (args := encs x) hk.1 (by rw [hrec]; exact hps x)
      rw [hrec] at hy
      refine ⟨fn, _, assign, body, hy, roundIn_of_wpIn hfn (wpIn_mono (hround (d + 1) pre x W hi hlen hsp (by omega) hlt) ?_)⟩
      rintro e a₁ V hp
      cases e with
      | normal =>
        obtain ⟨hkf, hkp, hiV, hbody⟩ := hp
        have hkV := hk.from (by omega : d ≤ d + 1) (Nat.le_refl d) hkf
        obtain ⟨rb, hrb⟩ : ∃ rb : Loop, rb = { rec .ready none with state := .busy } := ⟨_, rfl⟩
        have hbr := run_beginRound (P := P) hkV.1 (by rw [hrec])
        rw [← hrb] at hbr
        refine ⟨_, hbr, ?_⟩
        have hk2 := hkV.put (by omega) rb
        have hBs1 : Bs < V.heap.size := by have := hkf.size; omega
        have hp2 : Kpt T Bs V (V.putObj (d + 1) (.loop rb)) := Kpt.loop hBs1 hkV.1 (by omega) _
        have hi2 := hI.put (.loop rb) hiV (by omega) hkV.1
        refine wpIn_mono (hbody _ (grownBy_putObj' V (d + 1) _) hi2) ?_
        have fin : ∀ (jump : Option Code) (U : World), KeepsFrom d (V.putObj (d + 1) (.loop rb)) U →
            (Instr.endRound (d + 1) jump).run P U = .ok (.bool jump.isNone) (U.putObj (d + 1) (.loop (rec (if jump.isNone then .ready else .done) jump))) ∧
            U.heap[d + 1]? = some (.loop rb) ∧ Kept (d + 1) d (rec (if jump.isNone then .ready else .done) jump) (U.putObj (d + 1) (.loop (rec (if jump.isNone then .ready else .done) jump))) := fun jump U hkU => by
          have h3 := hk2.from (by omega : d ≤ d + 1) (Nat.le_refl d) hkU
          have h4 := run_endRound (P := P) jump h3.1
          refine ⟨?_, h3.1, h3.put (by omega) _⟩
          rw [hrb, hrec] at h4
          rw [hrec]
          exact h4
        rintro e a3 U hpU
        cases e with
        | normal =>
          obtain ⟨hkU, hpU, hiU⟩ := hpU
          obtain ⟨hr, hl, hkk⟩ := fin none U hkU
          have hBs2 : Bs < U.heap.size := by have := hp2.size; have := hpU.size; omega
          exact ⟨_, _, hr, .inl ⟨rfl, ⟨hI.put _ hiU (by omega) hl, hkk⟩, ((hkp.trans hp2).trans hpU).trans (Kpt.loop hBs2 hl (by omega) _)⟩⟩
        | ret =>
          obtain ⟨hkU, hiU⟩ := hpU
          obtain ⟨hr, hl, hkk⟩ := fin (some .ret) U hkU
          exact ⟨_, _, hr, .inr ⟨rfl, .ret, (hIx _).put _ hiU (by omega) hl, hkk⟩⟩
        | exit id =>
          obtain ⟨hkU, hiU⟩ := hpU
          obtain ⟨hr, hl, hkk⟩ := fin (some (.exit id)) U hkU
          exact ⟨_, _, hr, .inr ⟨rfl, .exit id, (hIx _).put _ hiU (by omega) hl, hkk⟩⟩
        | goto t =>
          obtain ⟨hkU, hiU⟩ := hpU
          obtain ⟨hr, hl, hkk⟩ := fin (some (.goto t)) U hkU
          exact ⟨_, _, hr, .inr ⟨rfl, .goto t, (hIx _).put _ hiU (by omega) hl, hkk⟩⟩
        | panic ch => exact hpU.elim
        | outgrown => exact hpU.elim
      | ret => exact hp.elim
      | exit id => exact hp.elim
      | goto t => exact hp.elim
      | panic ch => exact hp.elim
      | outgrown => exact hp.elim
    case fin =>
      rintro e U ⟨⟨v, rfl⟩, (⟨xs, hS, hi, hk⟩ | ⟨pre, hSp, c, hi, hk⟩)⟩
      · have h4 := run_endLoop (P := P) hk.1 (by rw [hrec]; simp)
        rw [hrec] at h4
        exact ⟨none, _, h4, hdone _ xs _ (Nat.le_refl _) hS (hI.put _ hi (by omega) hk.1) ((World.putObj_heap_other (by omega)).trans hk.2)⟩
      · have h4 := run_endLoop (P := P) hk.1 (by rw [hrec]; simp)
        rw [hrec] at h4
        exact ⟨some c, _, h4, hstop _ c pre _ (Nat.le_refl _) hSp ((hIx c).put _ hi (by omega) hk.1) ((World.putObj_heap_other (by omega)).trans hk.2)⟩


/-- The law at one loop variable. -/
theorem rangeP1 {α : Type} {g : Operand} {p : Tmp} {assign body : Code} {Q : Exit → Act → World → Prop} {a : Act} {w : World}
    (hro : F.round = none) (h1 : 1 ≤ n) {gf : Nat} {lb : Array Value} (hg : a.eval g = .func (.func gf) #[] lb) (hFg : F.fn gf) (eg : ∀ args w, (callFunc gf args).run P w = .ok (.enter gf args) w)
    {enc : α → Value} {S Sp : List α → Prop} {N : Nat} (hBs : Bs < w.heap.size) (hseq : SeqP T Bs F (n - 1) P gf lb (fun x => #[enc x]) S Sp N w)
    (I : List α → World → Prop) (Ix : Code → List α → World → Prop) (hI : OwnT T w.heap.size I) (hIx : ∀ c, OwnT T w.heap.size (Ix c)) (h0 : I [] w)
    (hround : ∀ (l : Nat) (pre : List α) (x : α) (W : World), I pre W → pre.length < N → Sp (pre ++ [x]) → w.heap.size ≤ l → l < W.heap.size →
      assign.wpIn (F.inRound l) (n - 1 - 1) P (Exit.then (fun a₁ V => KeepsFrom w.heap.size W V ∧ Kpt T Bs W V ∧ I pre V ∧
        ∀ V', V.grownBy V' (some l) → I pre V' → body.wpIn (F.inRound l) (n - 1 - 1) P (postT T Bs w.heap.size I Ix (pre ++ [x]) V') a₁ V') (fun _ _ _ => False))
        { tmps := a.tmps.setIfInBounds p (enc x), defers := [] } W)
    (hdone : ∀ (D : Nat) (xs : List α) (W : World), w.heap.size ≤ D → S xs → I xs W → W.heap[D]? = some (.deferred (some [])) → Q .normal { a with defers := { target := .collected D, args := #[] } :: a.defers } W)
    (hstop : ∀ (D : Nat) (c : Code) (pre : List α) (W : World), w.heap.size ≤ D → Sp pre → Ix c pre W → W.heap[D]? = some (.deferred (some [])) → c.wpIn F n P Q { a with defers := { target := .collected D, args := #[] } :: a.defers } W) :
    (Code.rangeFunc g #[p] assign body).wpIn F n P Q a w :=
  rangeP hro h1 hg hFg eg hBs hseq (fun _ => rfl) I Ix hI hIx h0 (fun l pre x W hi hlen hsp hl hlW => by
    have e : ((#[p] : Array Tmp).zip #[enc x]).foldl (fun t (p, v) => t.setIfInBounds p v) a.tmps = a.tmps.setIfInBounds p (enc x) := fold_one p (enc x) a.tmps
    rw [e]
    exact hround l pre x W hi hlen hsp hl hlW) hdone hstop
end
attribute [local go_sem] Oper.semAt_some

set_option maxRecDepth 100000 in
set_option maxHeartbeats 4000000 in
theorem toks_genP (n : Nat) (hn : 1 ≤ n) (L Bs g cap pc : Nat) (A : Option Addr) (cur : Array Value) (P : List Nat) (hP : P.length ≤ 1000) (J Jx : List (Int × Nat × Nat) → World → Prop) (W : World)
    (hJ : AbT TC W.heap.size J) (hbox : W.heap[Bs]? = some (.cells #[.slice A P.length pc, .slice (some ⟨g, 0, none⟩) (clu P).length cap] 71 (0, 0))) (hrow : W.heap[g]? = some (.cells cur 93 (0, 0))) (hR : Row W g (clu P))
    (hY : ∀ pre x W1, J pre W1 → pre.length < (utok P).length → pre ++ [x] <+: utok P → YieldAt Fence.wide (n - 1) Tryd.prog L #[tokV x] W1 fun e W' =>
      (e = .returned (.bool true) ∧ J (pre ++ [x]) W' ∧ Kpt TC Bs W1 W') ∨ (e = .returned (.bool false) ∧ Jx (pre ++ [x]) W')) (h0 : J [] W) :
    CallsIn Fence.wide n Tryd.prog 59 #[.func (.yield L) #[] #[], .pointer (some ⟨Bs, 0, none⟩)] W (TokPost P J Jx) := by
  have hBlt : Bs < W.heap.size := (Array.getElem?_eq_some_iff.1 hbox).1
  have hglt := hR.1
  have hlc : (clu P).length ≤ 1000 := Nat.le_trans (clu_le P) hP
  have cK := fun pc' cap' A' i w' hi (R' : Row w' g (clu P)) => tokenAt_any (clu P) g cap' P.length pc' A' i w' hi hlc R'
  have CG := Go.Lib.hid (fun k h => clu_get P k h)
  rw [clu_cls] at cK
  have hls : (segC P).length = (clu P).length := by rw [segC_len, clu_len]
  have HLS := Go.Lib.hid hls
  clear hls
  obtain ⟨m, hm⟩ : ∃ m, (clu P).length = m := ⟨_, rfl⟩
  have HM := Go.Lib.hid hm
  rw [hm] at hlc hbox
  simp only [hm] at cK
  clear hm
  have M0 : Hid (Mid3 W Bs g J [] W) := Go.Lib.hid ⟨rfl, rfl, h0⟩
  have BX := Go.Lib.hid hbox
  have RW := Go.Lib.hid hrow
  have RR := Go.Lib.hid hR
  have JJ := Go.Lib.hid hJ
  have YY := Go.Lib.hid hY
  clear hbox hrow hR h0 hJ hY
  refine callsIn_of_wp Tryd.func59 rfl trivial ?_ rfl
  simp only [Tryd.ntmps59, List.size_toArray, List.length_cons, List.length_nil, Nat.reduceAdd, Nat.reduceSub, Array.replicate_succ, Array.replicate_zero, List.push_toArray, List.append_toArray, List.nil_append, List.cons_append]
  gi_wp2
  gi_loopw [3] (fun s3 wr => ∃ (i : Nat) (pre : List (Int × Nat × Nat)), s3 = .int .i64 (i : Nat) ∧ i ≤ m ∧ Hid (RestT P i pre) ∧ Hid (Mid3 W Bs g J pre wr))
    (fun s3 _ => m - (RowKit.intOf s3).toNat)
  case atStart => exact ⟨0, [], rfl, Nat.zero_le _, Go.Lib.hid (RestT.zero P), M0⟩
  case round =>
    clear M0
    obtain ⟨i, pre, rfl, him, R, M⟩ := hrel
    obtain ⟨hx0, hx1⟩ := M.out.cells BX.out
    by_cases hlt : i < m
    · have hi' : i < (clu P).length := by rw [HM.out]; exact hlt
      have hi3 : i < (segC P).length := by rw [HLS.out]; exact hi'
      have hrw := M.out.rows RR.out
      have ck := cK pc cap A i wr hlt hrw
      have he := Sg.tokEnd_lt (segC P) i hi3
      rw [HLS.out, HM.out] at he
      have HN := Go.Lib.hid (R.out.next hi3)
      have HS := Go.Lib.hid (R.out.short hi3)
      generalize Sg.tokKind (segC P) i = kd at ck HN
      generalize Sg.tokEnd (segC P) i = en at ck HN he
      obtain ⟨e', rfl⟩ : ∃ e', en = e' + 1 := ⟨en - 1, by omega⟩
      have he2 : e' < (clu P).length := by rw [HM.out]; omega
      have cf := (hrw.2 i hi').2.1
      have ct := (hrw.2 e' he2).2.2
      rw [CG.out i hi'] at cf
      rw [CG.out e' he2] at ct
      dsimp only at cf ct
      generalize cut P i = f at cf HN
      generalize cut P (e' + 1) = t at ct HN
      have hs1 : IntKind.i64.wrap (e' : Int) = (e' : Int) := IntWalk.i64_in _ (by omega)
      have S1 := Go.Lib.hid hs1
      have hgw := hrw.1
      clear hs1 R hrw hi' hi3 he2
      gi_wp2_with (refine ⟨trivial, ?_⟩; gi_at_call 60; (with_reducible refine (callsIn_wide.2 ck).mono ?_); rintro e w2 ⟨rfl, hb2⟩)
      refine wpIn_region_still_tail 16 (by kernel_rfl) (by kernel_rfl) ?_
      simp only [List.take_succ_cons, List.take_zero, List.drop_succ_cons, List.drop_zero]
      have hd2 : Below wr.heap.size wr { w2 with drawn := w2.drawn + 1 } := ⟨hb2.os, hb2.tape, hb2.output, hb2.size, hb2.block⟩
      generalize ({ w2 with drawn := w2.drawn + 1 } : World) = w3 at hd2 ⊢
      have M3 := Go.Lib.hid (M.out.below JJ.out hd2 hBlt hglt)
      obtain ⟨y0, y1⟩ := M3.out.cells BX.out
      have cf3 := (hd2.cell (p := ⟨g, i * 3 + 1, none⟩) hgw).trans cf
      have ct3 := (hd2.cell (p := ⟨g, e' * 3 + 2, none⟩) hgw).trans ct
      have hs1 := S1.out
      have hem : e' < m := by omega
      obtain ⟨fn, tmps, assign, body, hy, hRd⟩ := YY.out pre (kd, f, t) w3 M3.out.inj HS.out HN.out.cutPre
      unfold tokV at hy
      dsimp only at hy
      have HY := Go.Lib.hid hy
      have HD2 := Go.Lib.hid hd2.size
      clear cf ct hx0 hx1 hd2 hb2 hy
      repeat still_step
      refine wpStill_nil ?_
      have hy := HY.out
      clear hs1 cf3 ct3 y0 y1
      gi_wp2
      refine hRd.mono ?_
      rintro e w6 (⟨rfl, hJ6, hk6⟩ | ⟨rfl, hJx6⟩)
      · have M6 := Go.Lib.hid (M3.out.yield hk6 RW.out hJ6)
        clear hy
        gi_wp2
        go_roundw
        case rel => exact ⟨e' + 1, pre ++ [(kd, f, t)], by go_num, by omega, HN, M6⟩
        case measure => simp [RowKit.intOf]; omega
      · gi_wp2
        refine bodyPost_ret (results_none rfl _ _ _) rfl ?_
        exact ⟨⟨_, rfl⟩, .inr ⟨pre ++ [(kd, f, t)], HN.out.cutPre, hJx6⟩⟩
    · gi_wp2
      go_end0
      exact ⟨⟨_, rfl⟩, .inl ⟨pre, (R.out.end (by rw [HLS.out, HM.out]; exact hlt)).symm, M.out.inj⟩⟩

theorem toks_anyP (n : Nat) (hn : 1 ≤ n) (Bs : Nat) (P : List Nat) (hP : P.length ≤ 1000) (w : World) (hT : TxtAt w Bs P) :
    SeqP TC Bs Fence.wide n Tryd.prog 59 #[.pointer (some ⟨Bs, 0, none⟩)] (fun x => #[tokV x]) (fun xs => xs = utok P) (fun pre => pre <+: utok P) (utok P).length w := by
  intro L J Jx W hb hJ hJx hY h0
  obtain ⟨A, pc, cv, h1, h2, g, cap, cur, rfl, h3, h4⟩ := hT
  have hB : Bs < w.heap.size := (Array.getElem?_eq_some_iff.1 h1).1
  exact toks_genP n hn L Bs g cap pc A cur P hP J Jx W hJ ((hb.block Bs hB).trans h1) ((hb.block g h4.1).trans h3) (h4.below hb h4.1) hY h0
end Go.Proofs.YthjooopppidcfaaDoor
