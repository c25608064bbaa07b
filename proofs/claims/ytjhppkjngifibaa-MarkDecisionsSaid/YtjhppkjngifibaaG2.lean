/- Of no seat's numbers: a range over an iterator, with a promise that the caller keeps at every yield. -/
import Derived.Test.YtjhppkjngifibaaG1
namespace Go.Proofs.Ytjhppkjngifibaa
open Go.RowKit Go.Lib
section
variable {T : TypeId → Bool} {Bs : Nat}
def SeqG (T : TypeId → Bool) (Bs : Nat) {α : Type} (F : Fence) (n : Nat) (P : Program) (g : Nat) (lb : Array Value) (encs : α → Array Value) (S Sp : List α → Prop) (N : Nat) (G : World → Prop) (w : World) : Prop :=
  ∀ (l : Nat) (J Jx : List α → World → Prop) (W : World), Below w.heap.size w W → AbT T W.heap.size J → AbT T W.heap.size Jx → (∀ pre W', J pre W' → G W') →
    (∀ pre x W1, J pre W1 → pre.length < N → Sp (pre ++ [x]) → YieldAt F (n - 1) P l (encs x) W1 fun e W' =>
      (e = .returned (.bool true) ∧ J (pre ++ [x]) W' ∧ Kpt T Bs W1 W') ∨ (e = .returned (.bool false) ∧ Jx (pre ++ [x]) W')) →
    J [] W →
    CallsIn F n P g (#[.func (.yield l) #[] #[]] ++ lb) W fun e W' => (∃ v, e = .returned v) ∧ ((∃ xs, S xs ∧ J xs W') ∨ (∃ pre, Sp pre ∧ Jx pre W'))

variable {F : Fence} {n : Nat} {P : Program}

/-- A range over such an iterator: the assignment to the loop's variable and the body in one premise. -/
theorem rangeG {α : Type} {g : Operand} {ps : Array Tmp} {assign body : Code} {Q : Exit → Act → World → Prop} {a : Act} {w : World}
    (hro : F.round = none) (h1 : 1 ≤ n) {gf : Nat} {lb : Array Value} (hg : a.eval g = .func (.func gf) #[] lb) (hFg : F.fn gf) (eg : ∀ args w, (callFunc gf args).run P w = .ok (.enter gf args) w)
    {encs : α → Array Value} {S Sp : List α → Prop} {N : Nat} {G : World → Prop} (hBs : Bs < w.heap.size) (hseq : SeqG T Bs F (n - 1) P gf lb encs S Sp N G w) (hps : ∀ x, (encs x).size = ps.size)
    (I : List α → World → Prop) (Ix : Code → List α → World → Prop) (hIG : ∀ pre W, I pre W → G W) (hI : OwnT T w.heap.size I) (hIx : ∀ c, OwnT T w.heap.size (Ix c)) (h0 : I [] w)
    (hround : ∀ (l : Nat) (pre : List α) (x : α) (W : World), I pre W → pre.length < N → Sp (pre ++ [x]) → w.heap.size ≤ l → l < W.heap.size →
      assign.wpIn (F.inRound l) (n - 1 - 1) P (Exit.then (fun a₁ V => KeepsFrom w.heap.size W V ∧ Kpt T Bs W V ∧ I pre V ∧
        ∀ V', V.grownBy V' (some l) → I pre V' → body.wpIn (F.inRound l) (n - 1 - 1) P (postT T Bs w.heap.size I Ix (pre ++ [x]) V') a₁ V') (fun _ _ _ => False))
        { tmps := (ps.zip (encs x)).foldl (fun t (p, v) => t.setIfInBounds p v) a.tmps, defers := [] } W)
    (hdone : ∀ (D : Nat) (xs : List α) (W : World), w.heap.size ≤ D → S xs → I xs W → W.heap[D]? = some (.deferred (some [])) → Q .normal { a with defers := { target := .collected D, args := #[] } :: a.defers } W)
    (hstop : ∀ (D : Nat) (c : Code) (pre : List α) (W : World), w.heap.size ≤ D → Sp pre → Ix c pre W → W.heap[D]? = some (.deferred (some [])) → c.wpIn F n P Q { a with defers := { target := .collected D, args := #[] } :: a.defers } W) :
    (Code.rangeFunc g ps assign body).wpIn F n P Q a w := by
  refine wpIn_rangeFunc fun fn hfn => ?_
  rw [hro]
  obtain ⟨d, hd⟩ : ∃ d, w.heap.size = d := ⟨_, rfl⟩
  obtain ⟨rec, hrec⟩ : ∃ rec : LoopState → Option Code → Loop, rec = fun st pe => { state := st, pending := pe, fn, tmps := a.tmps, params := ps, assign, body, defers := d } := ⟨_, rfl⟩
  obtain ⟨V1, hV1⟩ : ∃ V1, (w.alloc (.deferred (some []))).alloc (.loop (rec .ready none)) = V1 := ⟨_, rfl⟩
  have hk1 : Kept (d + 1) d (rec .ready none) V1 := by
    rw [← hV1, ← hd]
    refine ⟨?_, (Below.heap_alloc _ _ _ (by simp)).trans (World.alloc_heap_new w _)⟩
    have := World.alloc_heap_new (w.alloc (.deferred (some []))) (.loop (rec .ready none))
    rwa [World.size_alloc] at this
  have hs1 : V1.heap.size = d + 2 := by rw [← hV1, ← hd]; simp
  refine ⟨d + 1, [{ target := .collected d, args := #[] }], V1, { target := .fn (.func gf) lb, args := #[.func (.yield (d + 1)) #[] #[]] }, V1, gf,
    #[.func (.yield (d + 1)) #[] #[]] ++ lb, V1, ?enter, ?res, ?leads, ?inv, fun _ => h1, ?run⟩
  case enter => rw [← hV1, hrec, ← hd]; exact run_enterLoop_outer _ _ _ _ _
  case res =>
    simp only [resolve, hg]
    simp [go_sem]
  case leads => intro f' hf'; simp [Target.leads] at hf'; subst hf'; exact hFg
  case inv => simp [invoke, go_sem, eg]
  case run =>
    rw [hd] at hI hIx hround hdone hstop
    have up : ∀ {A : World} {row : Option Nat}, (∀ r, row = some r → V1.heap.size ≤ r ∧ ∃ o : Obj, A.heap[r]? = some o ∧ mine T o = true) → (∀ r, row = some r → d ≤ r ∧ ∃ o : Obj, A.heap[r]? = some o ∧ (mine T o = true ∨ o.isCells = false)) :=
      fun hr r e => by obtain ⟨hB, o, ho, hm⟩ := hr r e; exact ⟨by omega, o, ho, .inl hm⟩
    refine (hseq (d + 1) (fun pre W => I pre W ∧ Kept (d + 1) d (rec .ready none) W) (fun pre W => ∃ c, Ix c pre W ∧ Kept (d + 1) d (rec .done (some c)) W) V1 ?b0 ?ab ?abx (fun pre W' h => hIG pre W' h.1) ?rounds ⟨?i0, hk1⟩).mono ?fin
    case b0 => rw [← hV1]; exact ((Below.refl _ w).alloc (Nat.le_refl _) _).alloc (by simp) _
    case ab => exact fun s A C row hs hg' hr => ⟨hI s A C row hs.1 hg' (up hr), hs.2.turn hg' (fun r e => (hr r e).2)⟩
    case abx =>
      rintro s A C row ⟨c, hc, hk⟩ hg' hr
      exact ⟨c, hIx c s A C row hc hg' (up hr), hk.turn hg' (fun r e => (hr r e).2)⟩
    case i0 => rw [← hV1]; exact hI.new _ (hI.new _ h0)
    case rounds =>
      rintro pre x W ⟨hi, hk⟩ hlen hsp
      have hlt : d + 1 < W.heap.size := (Array.getElem?_eq_some_iff.1 hk.1).1
      have hy := run_yield (P := P) (args := encs x) hk.1 (by rw [hrec]; exact hps x)
      rw [hrec] at hy
      refine ⟨fn, _, assign, body, hy, roundIn_of_wpIn hfn (wpIn_mono (hround (d + 1) pre x W hi hlen hsp (by omega) hlt) ?_)⟩
      rintro e a₁ V hp
      cases e with
      | normal =>
        obtain ⟨hkf, hkp, hiV, hbody⟩ := hp
        have hkV := hk.from (by omega : d ≤ d + 1) (Nat.le_refl d) hkf
        obtain ⟨rb, hrb⟩ : ∃ rb : Loop, rb = { rec .ready none with state := .busy } := ⟨_, rfl⟩
        have hbr := run_beginRound (P := P) hkV.1 (by rw [hrec])
        rw [← hrb] at hbr
        refine ⟨_, hbr, ?_⟩
        have hk2 := hkV.put (by omega) rb
        have hBs1 : Bs < V.heap.size := by have := hkf.size; omega
        have hp2 : Kpt T Bs V (V.putObj (d + 1) (.loop rb)) := Kpt.loop hBs1 hkV.1 (by omega) _
        have hi2 := hI.put (.loop rb) hiV (by omega) hkV.1
        refine wpIn_mono (hbody _ (grownBy_putObj' V (d + 1) _) hi2) ?_
        have fin : ∀ (jump : Option Code) (U : World), KeepsFrom d (V.putObj (d + 1) (.loop rb)) U →
            (Instr.endRound (d + 1) jump).run P U = .ok (.bool jump.isNone) (U.putObj (d + 1) (.loop (rec (if jump.isNone then .ready else .done) jump))) ∧
            U.heap[d + 1]? = some (.loop rb) ∧ Kept (d + 1) d (rec (if jump.isNone then .ready else .done) jump) (U.putObj (d + 1) (.loop (rec (if jump.isNone then .ready else .done) jump))) := fun jump U hkU => by
          have h3 := hk2.from (by omega : d ≤ d + 1) (Nat.le_refl d) hkU
          have h4 := run_endRound (P := P) jump h3.1
          refine ⟨?_, h3.1, h3.put (by omega) _⟩
          rw [hrb, hrec] at h4
          rw [hrec]
          exact h4
        rintro e a3 U hpU
        cases e with
        | normal =>
          obtain ⟨hkU, hpU, hiU⟩ := hpU
          obtain ⟨hr, hl, hkk⟩ := fin none U hkU
          have hBs2 : Bs < U.heap.size := by have := hp2.size; have := hpU.size; omega
          exact ⟨_, _, hr, .inl ⟨rfl, ⟨hI.put _ hiU (by omega) hl, hkk⟩, ((hkp.trans hp2).trans hpU).trans (Kpt.loop hBs2 hl (by omega) _)⟩⟩
        | ret =>
          obtain ⟨hkU, hiU⟩ := hpU
          obtain ⟨hr, hl, hkk⟩ := fin (some .ret) U hkU
          exact ⟨_, _, hr, .inr ⟨rfl, .ret, (hIx _).put _ hiU (by omega) hl, hkk⟩⟩
        | exit id =>
          obtain ⟨hkU, hiU⟩ := hpU
          obtain ⟨hr, hl, hkk⟩ := fin (some (.exit id)) U hkU
          exact ⟨_, _, hr, .inr ⟨rfl, .exit id, (hIx _).put _ hiU (by omega) hl, hkk⟩⟩
        | goto t =>
          obtain ⟨hkU, hiU⟩ := hpU
          obtain ⟨hr, hl, hkk⟩ := fin (some (.goto t)) U hkU
          exact ⟨_, _, hr, .inr ⟨rfl, .goto t, (hIx _).put _ hiU (by omega) hl, hkk⟩⟩
        | panic ch => exact hpU.elim
        | outgrown => exact hpU.elim
      | ret => exact hp.elim
      | exit id => exact hp.elim
      | goto t => exact hp.elim
      | panic ch => exact hp.elim
      | outgrown => exact hp.elim
    case fin =>
      rintro e U ⟨⟨v, rfl⟩, (⟨xs, hS, hi, hk⟩ | ⟨pre, hSp, c, hi, hk⟩)⟩
      · have h4 := run_endLoop (P := P) hk.1 (by rw [hrec]; simp)
        rw [hrec] at h4
        exact ⟨none, _, h4, hdone _ xs _ (Nat.le_refl _) hS (hI.put _ hi (by omega) hk.1) ((World.putObj_heap_other (by omega)).trans hk.2)⟩
      · have h4 := run_endLoop (P := P) hk.1 (by rw [hrec]; simp)
        rw [hrec] at h4
        exact ⟨some c, _, h4, hstop _ c pre _ (Nat.le_refl _) hSp ((hIx c).put _ hi (by omega) hk.1) ((World.putObj_heap_other (by omega)).trans hk.2)⟩


/-- The law at one loop variable. -/
theorem rangeG1 {α : Type} {g : Operand} {p : Tmp} {assign body : Code} {Q : Exit → Act → World → Prop} {a : Act} {w : World}
    (hro : F.round = none) (h1 : 1 ≤ n) {gf : Nat} {lb : Array Value} (hg : a.eval g = .func (.func gf) #[] lb) (hFg : F.fn gf) (eg : ∀ args w, (callFunc gf args).run P w = .ok (.enter gf args) w)
    {enc : α → Value} {S Sp : List α → Prop} {N : Nat} {G : World → Prop} (hBs : Bs < w.heap.size) (hseq : SeqG T Bs F (n - 1) P gf lb (fun x => #[enc x]) S Sp N G w)
    (I : List α → World → Prop) (Ix : Code → List α → World → Prop) (hIG : ∀ pre W, I pre W → G W) (hI : OwnT T w.heap.size I) (hIx : ∀ c, OwnT T w.heap.size (Ix c)) (h0 : I [] w)
    (hround : ∀ (l : Nat) (pre : List α) (x : α) (W : World), I pre W → pre.length < N → Sp (pre ++ [x]) → w.heap.size ≤ l → l < W.heap.size →
      assign.wpIn (F.inRound l) (n - 1 - 1) P (Exit.then (fun a₁ V => KeepsFrom w.heap.size W V ∧ Kpt T Bs W V ∧ I pre V ∧
        ∀ V', V.grownBy V' (some l) → I pre V' → body.wpIn (F.inRound l) (n - 1 - 1) P (postT T Bs w.heap.size I Ix (pre ++ [x]) V') a₁ V') (fun _ _ _ => False))
        { tmps := a.tmps.setIfInBounds p (enc x), defers := [] } W)
    (hdone : ∀ (D : Nat) (xs : List α) (W : World), w.heap.size ≤ D → S xs → I xs W → W.heap[D]? = some (.deferred (some [])) → Q .normal { a with defers := { target := .collected D, args := #[] } :: a.defers } W)
    (hstop : ∀ (D : Nat) (c : Code) (pre : List α) (W : World), w.heap.size ≤ D → Sp pre → Ix c pre W → W.heap[D]? = some (.deferred (some [])) → c.wpIn F n P Q { a with defers := { target := .collected D, args := #[] } :: a.defers } W) :
    (Code.rangeFunc g #[p] assign body).wpIn F n P Q a w :=
  rangeG hro h1 hg hFg eg hBs hseq (fun _ => rfl) I Ix hIG hI hIx h0 (fun l pre x W hi hlen hsp hl hlW => by
    have e : ((#[p] : Array Tmp).zip #[enc x]).foldl (fun t (p, v) => t.setIfInBounds p v) a.tmps = a.tmps.setIfInBounds p (enc x) := fold_one p (enc x) a.tmps
    rw [e]
    exact hround l pre x W hi hlen hsp hl hlW) hdone hstop
end
theorem gen_world {F : Fence} {n : Nat} {P : Program} {Q : Exit → Act → World → Prop} {a : Act} {w : World} {c : Code} (R : World → Prop) (h : R w) (k : ∀ w', R w' → c.wpIn F n P Q a w') : c.wpIn F n P Q a w := k w h
end Go.Proofs.Ytjhppkjngifibaa
