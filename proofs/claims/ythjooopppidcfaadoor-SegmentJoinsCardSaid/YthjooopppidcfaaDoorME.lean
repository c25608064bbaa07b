import Derived.RangeFuncNested
import Derived.RangeFuncBox
import Derived.RangeFuncCalls
import Derived.Test.YthjooopppidcfaaDoorMA
import Derived.Test.YthjooopppidcfaaDoorMB
import Derived.Test.YthjooopppidcfaaDoorMC
import Derived.Test.YthjooopppidcfaaDoorMD
import Derived.Lib.OthersKept
import Derived.RangeFuncBound
import Derived.RangeFuncLeaves
import Derived.Shelf.Abstract
import Derived.Shelf.RegionOpen
import Derived.OwnWalkIn
import Derived.TacticsInMore
import Derived.LoopNIn
import Derived.LoopIn
import Derived.Laws.RangeAny

/- A range over an iterator that keeps a table and a state of its own in cells: of no seat's numbers. 'T' says which types of cells are the iterator's. -/
namespace Go.Proofs.YthjooopppidcfaaDoor
open Go.RowKit

/-- What the iterator may turn, and what no round turns: a walk's object; cells of its own types. -/
def mine (T : TypeId → Bool) : Obj → Bool
  | .cells _ t _ => T t
  | o => o.isWalk

def AbT (T : TypeId → Bool) (B : Nat) {β : Type} (J : β → World → Prop) : Prop :=
  ∀ s A C row, J s A → A.grownBy C row → (∀ r, row = some r → B ≤ r ∧ ∃ o : Obj, A.heap[r]? = some o ∧ mine T o = true) → J s C

/-- What a round that goes on keeps: the string's box, and whatever is the iterator's. -/
structure Kpt (T : TypeId → Bool) (Bs : Nat) (W W' : World) : Prop where
  size : W.heap.size ≤ W'.heap.size
  str : W'.heap[Bs]? = W.heap[Bs]?
  same : ∀ (k : Nat) (o : Obj), W.heap[k]? = some o → mine T o = true → W'.heap[k]? = some o

variable {T : TypeId → Bool} {Bs : Nat}
theorem Kpt.refl (W : World) : Kpt T Bs W W := ⟨Nat.le_refl _, rfl, fun _ _ h _ => h⟩
theorem Kpt.trans {A B C : World} (h : Kpt T Bs A B) (k : Kpt T Bs B C) : Kpt T Bs A C :=
  ⟨Nat.le_trans h.size k.size, k.str.trans h.str, fun i o hi ho => k.same i o (h.same i o hi ho) ho⟩
theorem Kpt.of_grownBy {W W' : World} {row : Option Nat} (hBs : Bs < W.heap.size) (hg : W.grownBy W' row) (hrow : ∀ r, row = some r → r ≠ Bs ∧ ∃ o : Obj, W.heap[r]? = some o ∧ mine T o = false) : Kpt T Bs W W' := by
  refine ⟨hg.size, hg.block Bs hBs (fun e => ?_), fun k o hk ho => (hg.block k (Array.getElem?_eq_some_iff.1 hk).1 (fun e => ?_)).trans hk⟩
  · exact (hrow Bs e.symm).1 rfl
  · obtain ⟨_, o', ho', hm⟩ := hrow k e.symm
    rw [hk] at ho'; cases ho'; rw [ho] at hm; cases hm
theorem Kpt.alloc {W : World} (hBs : Bs < W.heap.size) (o : Obj) : Kpt T Bs W (W.alloc o) := Kpt.of_grownBy hBs (World.grownBy_alloc W o none) (fun _ e => by cases e)
theorem Kpt.boxed {W : World} {B : Nat} {t : TypeId} {v : Value} (hBs : Bs < W.heap.size) (h : Boxed W B t v) (hne : B ≠ Bs) (ht : T t = false) (v' : Value) : Kpt T Bs W (W.setCell ⟨B, 0, none⟩ v') :=
  Kpt.of_grownBy hBs (grownBy_setCell' W B v') (fun r e => by cases e; exact ⟨hne, _, h, ht⟩)
theorem Kpt.loop {W : World} {l : Nat} {r : Loop} (hBs : Bs < W.heap.size) (h : W.heap[l]? = some (.loop r)) (hl : l ≠ Bs) (o : Obj) : Kpt T Bs W (W.putObj l o) :=
  Kpt.of_grownBy hBs (grownBy_putObj' W l o) (fun r e => by cases e; exact ⟨hl, _, h, rfl⟩)

/-- The iterator's contract. -/
def SeqT (T : TypeId → Bool) (Bs : Nat) {α : Type} (F : Fence) (n : Nat) (P : Program) (g : Nat) (lb : Array Value) (encs : α → Array Value) (S Sp : List α → Prop) (N : Nat) (w : World) : Prop :=
  ∀ (l : Nat) (J Jx : List α → World → Prop) (W : World), Below w.heap.size w W → AbT T W.heap.size J → AbT T W.heap.size Jx →
    (∀ pre x W1, J pre W1 → pre.length < N → YieldAt F (n - 1) P l (encs x) W1 fun e W' =>
      (e = .returned (.bool true) ∧ J (pre ++ [x]) W' ∧ Kpt T Bs W1 W') ∨ (e = .returned (.bool false) ∧ Jx (pre ++ [x]) W')) →
    J [] W →
    CallsIn F n P g (#[.func (.yield l) #[] #[]] ++ lb) W fun e W' => (∃ v, e = .returned v) ∧ ((∃ xs, S xs ∧ J xs W') ∨ (∃ pre, Sp pre ∧ Jx pre W'))

/-- What the caller says between two rounds abides the iterator's steps, and the turns of the loop's own record. -/
def OwnT (T : TypeId → Bool) (B : Nat) {β : Type} (I : β → World → Prop) : Prop :=
  ∀ s A C row, I s A → A.grownBy C row → (∀ r, row = some r → B ≤ r ∧ ∃ o : Obj, A.heap[r]? = some o ∧ (mine T o = true ∨ o.isCells = false)) → I s C

theorem OwnT.and {B : Nat} {β : Type} {I I' : β → World → Prop} (h : OwnT T B I) (h' : OwnT T B I') : OwnT T B (fun s W => I s W ∧ I' s W) :=
  fun s A C row hs hg hr => ⟨h s A C row hs.1 hg hr, h' s A C row hs.2 hg hr⟩
theorem OwnT.below {B n₀ : Nat} {β : Type} {w₀ : World} (hn : n₀ ≤ w₀.heap.size) (hB : n₀ ≤ B) : OwnT T B (fun (_ : β) W => Below n₀ w₀ W) :=
  fun _ _ _ _ hs hg hr => hs.grown hg (Nat.le_trans hn hs.size) (fun k e => Nat.le_trans hB (hr k e).1)
theorem OwnT.pure {B : Nat} {β : Type} {p : β → Prop} : OwnT T B (fun s _ => p s) := fun _ _ _ _ hs _ _ => hs
/-- A row of cells of a type that is not the iterator's is not what it turns. -/
theorem not_turned {B : Nat} {A : World} {row : Option Nat} {k : Nat} {c : Array Value} {t : TypeId} {z : Nat × Nat} (hk : A.heap[k]? = some (.cells c t z)) (ht : T t = false)
    (hr : ∀ r, row = some r → B ≤ r ∧ ∃ o : Obj, A.heap[r]? = some o ∧ (mine T o = true ∨ o.isCells = false)) : some k ≠ row := by
  intro e
  obtain ⟨_, o, ho, hm⟩ := hr k e.symm
  rw [hk] at ho; cases ho
  rcases hm with hm | hm
  · rw [show mine T (.cells c t z) = T t from rfl, ht] at hm; cases hm
  · cases hm
theorem OwnT.boxed {B : Nat} {β : Type} {b : Nat} {t : TypeId} (ht : T t = false) (f : β → Value) : OwnT T B (fun s W => Boxed W b t (f s)) :=
  fun _ _ _ _ hs hg hr => hs.kept hg (not_turned hs ht hr)
/-- 'The box holds a slice that owns f s'. -/
theorem OwnT.row {β : Type} {B n₀ b : Nat} {t e : TypeId} (ht : T t = false) (he : T e = false) (size : Nat) (k : β → Nat) (f : β → List Value) (G : β → Value → Prop) :
    OwnT T B (fun s W => ∃ v, Boxed W b t v ∧ W.ownsRow n₀ e size v (k s) (f s) ∧ G s v) := by
  rintro s A C row ⟨v, hv, hrow, hG⟩ hg hr
  refine ⟨v, hv.kept hg (not_turned hv ht hr), hrow.kept hg ?_, hG⟩
  rcases hrow.2 with ⟨rfl, _⟩ | ⟨g, cap, cur, rfl, _, hgb, _⟩
  · exact .inl rfl
  · exact .inr (not_turned hgb he hr)

/-- How a round may be left. -/
def postT (T : TypeId → Bool) (Bs B : Nat) {α : Type} (I : List α → World → Prop) (Ix : Code → List α → World → Prop) (xs : List α) (W : World) : Exit → Act → World → Prop
  | .normal, _, W' => KeepsFrom B W W' ∧ Kpt T Bs W W' ∧ I xs W'
  | .ret, _, W' => KeepsFrom B W W' ∧ Ix .ret xs W'
  | .exit id, _, W' => KeepsFrom B W W' ∧ Ix (.exit id) xs W'
  | .goto t, _, W' => KeepsFrom B W W' ∧ Ix (.goto t) xs W'
  | .panic _, _, _ => False
  | .outgrown, _, _ => False

variable {F : Fence} {n : Nat} {P : Program}

/-- Two facts of the law's own book-keeping: the record lies at l, the block for deferred calls at d. -/
def Kept (l d : Nat) (r : Loop) (W : World) : Prop := W.heap[l]? = some (.loop r) ∧ W.heap[d]? = some (.deferred (some []))

theorem Kept.turn {l d : Nat} {r : Loop} {A C : World} {row : Option Nat} (h : Kept l d r A) (hg : A.grownBy C row) (hr : ∀ k, row = some k → ∃ o : Obj, A.heap[k]? = some o ∧ mine T o = true) : Kept l d r C := by
  have key : ∀ (k : Nat) (o : Obj), A.heap[k]? = some o → mine T o = false → C.heap[k]? = some o := fun k o hk hm => by
    refine (hg.block k (Array.getElem?_eq_some_iff.1 hk).1 fun e => ?_).trans hk
    obtain ⟨o', ho', hm'⟩ := hr k e.symm
    rw [hk] at ho'; cases ho'; rw [hm] at hm'; cases hm'
  exact ⟨key _ _ h.1 rfl, key _ _ h.2 rfl⟩
theorem Kept.from {l d B : Nat} {r : Loop} {A C : World} (h : Kept l d r A) (hl : B ≤ l) (hd : B ≤ d) (hk : KeepsFrom B A C) : Kept l d r C :=
  ⟨hk.same _ _ hl h.1 rfl, hk.same _ _ hd h.2 rfl⟩
theorem Kept.put {l d : Nat} {r : Loop} {A : World} (h : Kept l d r A) (hne : d ≠ l) (r' : Loop) : Kept l d r' (A.putObj l (.loop r')) :=
  ⟨World.putObj_heap_same (Array.getElem?_eq_some_iff.1 h.1).1, (World.putObj_heap_other hne).trans h.2⟩
theorem OwnT.put {B : Nat} {β : Type} {I : β → World → Prop} (h : OwnT T B I) {s : β} {W : World} {l : Nat} {r : Loop} (o : Obj) (hs : I s W) (hB : B ≤ l) (hl : W.heap[l]? = some (.loop r)) : I s (W.putObj l o) :=
  h s W _ (some l) hs (grownBy_putObj' W l o) (fun k e => by cases e; exact ⟨hB, _, hl, .inr rfl⟩)
theorem OwnT.new {B : Nat} {β : Type} {I : β → World → Prop} (h : OwnT T B I) {s : β} {W : World} (o : Obj) (hs : I s W) : I s (W.alloc o) :=
  h s W _ none hs (World.grownBy_alloc W o none) (fun _ e => by cases e)

/-- A range over such an iterator: the assignment to the loop's variable and the body in one premise. -/
theorem rangeT {α : Type} {g : Operand} {ps : Array Tmp} {assign body : Code} {Q : Exit → Act → World → Prop} {a : Act} {w : World}
    (hro : F.round = none) (h1 : 1 ≤ n) {gf : Nat} {lb : Array Value} (hg : a.eval g = .func (.func gf) #[] lb) (hFg : F.fn gf) (eg : ∀ args w, (callFunc gf args).run P w = .ok (.enter gf args) w)
    {encs : α → Array Value} {S Sp : List α → Prop} {N : Nat} (hBs : Bs < w.heap.size) (hseq : SeqT T Bs F (n - 1) P gf lb encs S Sp N w) (hps : ∀ x, (encs x).size = ps.size)
    (I : List α → World → Prop) (Ix : Code → List α → World → Prop) (hI : OwnT T w.heap.size I) (hIx : ∀ c, OwnT T w.heap.size (Ix c)) (h0 : I [] w)
    (hround : ∀ (l : Nat) (pre : List α) (x : α) (W : World), I pre W → pre.length < N → w.heap.size ≤ l → l < W.heap.size →
      assign.wpIn (F.inRound l) (n - 1 - 1) P (Exit.then (fun a₁ V => KeepsFrom w.heap.size W V ∧ Kpt T Bs W V ∧ I pre V ∧
        ∀ V', V.grownBy V' (some l) → I pre V' → body.wpIn (F.inRound l) (n - 1 - 1) P (postT T Bs w.heap.size I Ix (pre ++ [x]) V') a₁ V') (fun _ _ _ => False))
        { tmps := (ps.zip (encs x)).foldl (fun t (p, v) => t.setIfInBounds p v) a.tmps, defers := [] } W)
    (hdone : ∀ (D : Nat) (xs : List α) (W : World), w.heap.size ≤ D → S xs → I xs W → W.heap[D]? = some (.deferred (some [])) → Q .normal { a with defers := { target := .collected D, args := #[] } :: a.defers } W)
    (hstop : ∀ (D : Nat) (c : Code) (pre : List α) (W : World), w.heap.size ≤ D → Sp pre → Ix c pre W → W.heap[D]? = some (.deferred (some [])) → c.wpIn F n P Q { a with defers := { target := .collected D, args := #[] } :: a.defers } W) :
    (Code.rangeFunc g ps assign body).wpIn F n P Q a w := by
  refine wpIn_rangeFunc fun fn hfn => ?_
  rw [hro]
  obtain ⟨d, hd⟩ : ∃ d, w.heap.size = d := ⟨_, rfl⟩
  obtain ⟨rec, hrec⟩ : ∃ rec : LoopState → Option Code → Loop, rec = fun st pe => { state := st, pending := pe, fn, tmps := a.tmps, params := ps, assign, body, defers := d } := ⟨_, rfl⟩
  obtain ⟨V1, hV1⟩ : ∃ V1, (w.alloc (.deferred (some []))).alloc (.loop (rec .ready none)) = V1 := ⟨_, rfl⟩
  have hk1 : Kept (d + 1) d (rec .ready none) V1 := by
    rw [← hV1, ← hd]
    refine ⟨?_, (Below.heap_alloc _ _ _ (by simp)).trans (World.alloc_heap_new w _)⟩
    have := World.alloc_heap_new (w.alloc (.deferred (some []))) (.loop (rec .ready none))
    rwa [World.size_alloc] at this
  have hs1 : V1.heap.size = d + 2 := by rw [← hV1, ← hd]; simp
  refine ⟨d + 1, [{ target := .collected d, args := #[] }], V1, { target := .fn (.func gf) lb, args := #[.func (.yield (d + 1)) #[] #[]] }, V1, gf,
    #[.func (.yield (d + 1)) #[] #[]] ++ lb, V1, ?enter, ?res, ?leads, ?inv, fun _ => h1, ?run⟩
  case enter => rw [← hV1, hrec, ← hd]; exact run_enterLoop_outer _ _ _ _ _
  case res =>
    simp only [resolve, hg]
    simp [go_sem]
  case leads => intro f' hf'; simp [Target.leads] at hf'; subst hf'; exact hFg
  case inv => simp [invoke, go_sem, eg]
  case run =>
    rw [hd] at hI hIx hround hdone hstop
    have up : ∀ {A : World} {row : Option Nat}, (∀ r, row = some r → V1.heap.size ≤ r ∧ ∃ o : Obj, A.heap[r]? = some o ∧ mine T o = true) → (∀ r, row = some r → d ≤ r ∧ ∃ o : Obj, A.heap[r]? = some o ∧ (mine T o = true ∨ o.isCells = false)) :=
      fun hr r e => by obtain ⟨hB, o, ho, hm⟩ := hr r e; exact ⟨by omega, o, ho, .inl hm⟩
    refine (hseq (d + 1) (fun pre W => I pre W ∧ Kept (d + 1) d (rec .ready none) W) (fun pre W => ∃ c, Ix c pre W ∧ Kept (d + 1) d (rec .done (some c)) W) V1 ?b0 ?ab ?abx ?rounds ⟨?i0, hk1⟩).mono ?fin
    case b0 => rw [← hV1]; exact ((Below.refl _ w).alloc (Nat.le_refl _) _).alloc (by simp) _
    case ab => exact fun s A C row hs hg' hr => ⟨hI s A C row hs.1 hg' (up hr), hs.2.turn hg' (fun r e => (hr r e).2)⟩
    case abx =>
      rintro s A C row ⟨c, hc, hk⟩ hg' hr
      exact ⟨c, hIx c s A C row hc hg' (up hr), hk.turn hg' (fun r e => (hr r e).2)⟩
    case i0 => rw [← hV1]; exact hI.new _ (hI.new _ h0)
    case rounds =>
      rintro pre x W ⟨hi, hk⟩ hlen
      have hlt : d + 1 < W.heap.size := (Array.getElem?_eq_some_iff.1 hk.1).1
      have hy := run_yield (P := P) (args := encs x) hk.1 (by rw [hrec]; exact hps x)
      rw [hrec] at hy
      refine ⟨fn, _, assign, body, hy, roundIn_of_wpIn hfn (wpIn_mono (hround (d + 1) pre x W hi hlen (by omega) hlt) ?_)⟩
      rintro e a₁ V hp
      cases e with
      | normal =>
        obtain ⟨hkf, hkp, hiV, hbody⟩ := hp
        have hkV := hk.from (by omega : d ≤ d + 1) (Nat.le_refl d) hkf
        obtain ⟨rb, hrb⟩ : ∃ rb : Loop, rb = { rec .ready none with state := .busy } := ⟨_, rfl⟩
        have hbr := run_beginRound (P := P) hkV.1 (by rw [hrec])
        rw [← hrb] at hbr
        refine ⟨_, hbr, ?_⟩
        have hk2 := hkV.put (by omega) rb
        have hBs1 : Bs < V.heap.size := by have := hkf.size; omega
        have hp2 : Kpt T Bs V (V.putObj (d + 1) (.loop rb)) := Kpt.loop hBs1 hkV.1 (by omega) _
        have hi2 := hI.put (.loop rb) hiV (by omega) hkV.1
        refine wpIn_mono (hbody _ (grownBy_putObj' V (d + 1) _) hi2) ?_
        have fin : ∀ (jump : Option Code) (U : World), KeepsFrom d (V.putObj (d + 1) (.loop rb)) U →
            (Instr.endRound (d + 1) jump).run P U = .ok (.bool jump.isNone) (U.putObj (d + 1) (.loop (rec (if jump.isNone then .ready else .done) jump))) ∧
            U.heap[d + 1]? = some (.loop rb) ∧ Kept (d + 1) d (rec (if jump.isNone then .ready else .done) jump) (U.putObj (d + 1) (.loop (rec (if jump.isNone then .ready else .done) jump))) := fun jump U hkU => by
          have h3 := hk2.from (by omega : d ≤ d + 1) (Nat.le_refl d) hkU
          have h4 := run_endRound (P := P) jump h3.1
          refine ⟨?_, h3.1, h3.put (by omega) _⟩
          rw [hrb, hrec] at h4
          rw [hrec]
          exact h4
        rintro e a3 U hpU
        cases e with
        | normal =>
          obtain ⟨hkU, hpU, hiU⟩ := hpU
          obtain ⟨hr, hl, hkk⟩ := fin none U hkU
          have hBs2 : Bs < U.heap.size := by have := hp2.size; have := hpU.size; omega
          exact ⟨_, _, hr, .inl ⟨rfl, ⟨hI.put _ hiU (by omega) hl, hkk⟩, ((hkp.trans hp2).trans hpU).trans (Kpt.loop hBs2 hl (by omega) _)⟩⟩
        | ret =>
          obtain ⟨hkU, hiU⟩ := hpU
          obtain ⟨hr, hl, hkk⟩ := fin (some .ret) U hkU
          exact ⟨_, _, hr, .inr ⟨rfl, .ret, (hIx _).put _ hiU (by omega) hl, hkk⟩⟩
        | exit id =>
          obtain ⟨hkU, hiU⟩ := hpU
          obtain ⟨hr, hl, hkk⟩ := fin (some (.exit id)) U hkU
          exact ⟨_, _, hr, .inr ⟨rfl, .exit id, (hIx _).put _ hiU (by omega) hl, hkk⟩⟩
        | goto t =>
          obtain ⟨hkU, hiU⟩ := hpU
          obtain ⟨hr, hl, hkk⟩ := fin (some (.goto t)) U hkU
          exact ⟨_, _, hr, .inr ⟨rfl, .goto t, (hIx _).put _ hiU (by omega) hl, hkk⟩⟩
        | panic ch => exact hpU.elim
        | outgrown => exact hpU.elim
      | ret => exact hp.elim
      | exit id => exact hp.elim
      | goto t => exact hp.elim
      | panic ch => exact hp.elim
      | outgrown => exact hp.elim
    case fin =>
      rintro e U ⟨⟨v, rfl⟩, (⟨xs, hS, hi, hk⟩ | ⟨pre, hSp, c, hi, hk⟩)⟩
      · have h4 := run_endLoop (P := P) hk.1 (by rw [hrec]; simp)
        rw [hrec] at h4
        exact ⟨none, _, h4, hdone _ xs _ (Nat.le_refl _) hS (hI.put _ hi (by omega) hk.1) ((World.putObj_heap_other (by omega)).trans hk.2)⟩
      · have h4 := run_endLoop (P := P) hk.1 (by rw [hrec]; simp)
        rw [hrec] at h4
        exact ⟨some c, _, h4, hstop _ c pre _ (Nat.le_refl _) hSp ((hIx c).put _ hi (by omega) hk.1) ((World.putObj_heap_other (by omega)).trans hk.2)⟩

theorem fold_one (p : Tmp) (v : Value) (t : Array Value) : (#[p].zip #[v]).foldl (fun t (x : Tmp × Value) => t.setIfInBounds x.1 x.2) t = t.setIfInBounds p v := by simp

/-- The law at one loop variable. -/
theorem rangeT1 {α : Type} {g : Operand} {p : Tmp} {assign body : Code} {Q : Exit → Act → World → Prop} {a : Act} {w : World}
    (hro : F.round = none) (h1 : 1 ≤ n) {gf : Nat} {lb : Array Value} (hg : a.eval g = .func (.func gf) #[] lb) (hFg : F.fn gf) (eg : ∀ args w, (callFunc gf args).run P w = .ok (.enter gf args) w)
    {enc : α → Value} {S Sp : List α → Prop} {N : Nat} (hBs : Bs < w.heap.size) (hseq : SeqT T Bs F (n - 1) P gf lb (fun x => #[enc x]) S Sp N w)
    (I : List α → World → Prop) (Ix : Code → List α → World → Prop) (hI : OwnT T w.heap.size I) (hIx : ∀ c, OwnT T w.heap.size (Ix c)) (h0 : I [] w)
    (hround : ∀ (l : Nat) (pre : List α) (x : α) (W : World), I pre W → pre.length < N → w.heap.size ≤ l → l < W.heap.size →
      assign.wpIn (F.inRound l) (n - 1 - 1) P (Exit.then (fun a₁ V => KeepsFrom w.heap.size W V ∧ Kpt T Bs W V ∧ I pre V ∧
        ∀ V', V.grownBy V' (some l) → I pre V' → body.wpIn (F.inRound l) (n - 1 - 1) P (postT T Bs w.heap.size I Ix (pre ++ [x]) V') a₁ V') (fun _ _ _ => False))
        { tmps := a.tmps.setIfInBounds p (enc x), defers := [] } W)
    (hdone : ∀ (D : Nat) (xs : List α) (W : World), w.heap.size ≤ D → S xs → I xs W → W.heap[D]? = some (.deferred (some [])) → Q .normal { a with defers := { target := .collected D, args := #[] } :: a.defers } W)
    (hstop : ∀ (D : Nat) (c : Code) (pre : List α) (W : World), w.heap.size ≤ D → Sp pre → Ix c pre W → W.heap[D]? = some (.deferred (some [])) → c.wpIn F n P Q { a with defers := { target := .collected D, args := #[] } :: a.defers } W) :
    (Code.rangeFunc g #[p] assign body).wpIn F n P Q a w :=
  rangeT hro h1 hg hFg eg hBs hseq (fun _ => rfl) I Ix hI hIx h0 (fun l pre x W hi hlen hl hlW => by
    have e : ((#[p] : Array Tmp).zip #[enc x]).foldl (fun t (p, v) => t.setIfInBounds p v) a.tmps = a.tmps.setIfInBounds p (enc x) := fold_one p (enc x) a.tmps
    rw [e]
    exact hround l pre x W hi hlen hl hlW) hdone hstop
end Go.Proofs.YthjooopppidcfaaDoor

namespace Go.Proofs.YthjooopppidcfaaDoor
open Go.RowKit Go.Lib
open Gc U

/-- The iterator's own types of cells: the table's, the state's. -/
def TT (t : TypeId) : Bool := t == 143 || t == 135

theorem grown_below {n : Nat} {W W' : World} (h : Below n W W') (hn : n = W.heap.size) : W.grownBy W' none :=
  ⟨h.os, h.tape, h.output, h.size, fun k hk _ => h.block k (by omega)⟩
theorem grown_iterAt (W : World) (k : Nat) (s : ByteArray) (p : Nat) : W.grownBy (W.iterAt k s p) (some k) :=
  ⟨rfl, rfl, rfl, by rw [iterAt_size]; exact Nat.le_refl _, fun i _ h => iterAt_other W k i s p (fun e => h (by rw [e]))⟩

/-- What holds within a round of the iterator: its table, its state, the string's iterator, the string's box; what its caller says. -/
structure Mid (l : List Span) (s : ByteArray) (Bs g gs gi : Nat) (J : List (Nat × Nat) → World → Prop) (st : St) (pos : Nat) (pre : List (Nat × Nat)) (W : World) : Prop where
  tab : W.heap[g]? = some (.cells (rowOf l) 143 (0, 0))
  st : StAt W gs st
  it : W.heap[gi]? = some (.stringIter s pos)
  str : W.heap[Bs]? = some (.cells #[.string s] 9 (0, 0))
  inj : J pre W

section
variable {l : List Span} {s : ByteArray} {Bs g gs gi B : Nat} {J : List (Nat × Nat) → World → Prop} {st : St} {pos : Nat} {pre : List (Nat × Nat)} {W W' : World}

theorem Mid.turn (h : Mid l s Bs g gs gi J st pos pre W) (hJ : AbT TT B J) {row : Option Nat} (hg : W.grownBy W' row) (hr : row = none ∨ (row = some gs ∧ B ≤ gs ∧ ∃ st', StAt W' gs st') ∨ (row = some gi ∧ B ≤ gi)) : J pre W' := by
  refine hJ pre W W' row h.inj hg fun r e => ?_
  rcases hr with rfl | ⟨rfl, hb, _⟩ | ⟨rfl, hb⟩
  · cases e
  · cases e; exact ⟨hb, _, h.st, rfl⟩
  · cases e; exact ⟨hb, _, h.it, rfl⟩

theorem Mid.below (h : Mid l s Bs g gs gi J st pos pre W) (hJ : AbT TT B J) (hb : Below W.heap.size W W') : Mid l s Bs g gs gi J st pos pre W' := by
  have key : ∀ (k : Nat) (o : Obj), W.heap[k]? = some o → W'.heap[k]? = some o := fun k o hk => (hb.block k (Array.getElem?_eq_some_iff.1 hk).1).trans hk
  exact ⟨key _ _ h.tab, key _ _ h.st, key _ _ h.it, key _ _ h.str, h.turn hJ (grown_below hb rfl) (.inl rfl)⟩

theorem Mid.next (h : Mid l s Bs g gs gi J st pos pre W) (hJ : AbT TT B J) (hB : B ≤ gi) (p : Nat) : Mid l s Bs g gs gi J st p pre (W.iterAt gi s p) := by
  have key : ∀ (k : Nat) (o : Obj), W.heap[k]? = some o → (∀ t q, o ≠ .stringIter t q) → (W.iterAt gi s p).heap[k]? = some o := fun k o hk hne => by
    rw [iterAt_other W gi k s p (fun e => by subst e; rw [h.it] at hk; exact hne _ _ (Option.some.inj hk).symm)]; exact hk
  exact ⟨key _ _ h.tab (fun _ _ e => by cases e), key _ _ h.st (fun _ _ e => by cases e), iterAt_heap W gi s pos p h.it, key _ _ h.str (fun _ _ e => by cases e), h.turn hJ (grown_iterAt W gi s p) (.inr (.inr ⟨rfl, hB⟩))⟩

theorem Mid.add (h : Mid l s Bs g gs gi J st pos pre W) (hJ : AbT TT B J) (hB : B ≤ gs) {st' : St} (hs : StAt W' gs st') (hg : W.grownBy W' (some gs)) : Mid l s Bs g gs gi J st' pos pre W' := by
  have key : ∀ (k : Nat) (o : Obj), W.heap[k]? = some o → (∀ c z, o ≠ .cells c 135 z) → W'.heap[k]? = some o := fun k o hk hne => by
    rw [hg.block k (Array.getElem?_eq_some_iff.1 hk).1 (fun e => ?_)]; exact hk
    cases e
    have h1 := h.st
    unfold StAt at h1
    rw [h1] at hk
    exact hne _ _ (Option.some.inj hk).symm
  exact ⟨key _ _ h.tab (fun _ _ e => by cases e), hs, key _ _ h.it (fun _ _ e => by cases e), key _ _ h.str (fun _ _ e => by cases e), h.turn hJ hg (.inr (.inl ⟨rfl, hB, _, hs⟩))⟩

theorem Mid.yield (h : Mid l s Bs g gs gi J st pos pre W) (hk : Kpt TT Bs W W') {pre' : List (Nat × Nat)} (hJ' : J pre' W') : Mid l s Bs g gs gi J st pos pre' W' :=
  ⟨hk.same _ _ h.tab rfl, hk.same _ _ h.st rfl, hk.same _ _ h.it rfl, hk.str.trans h.str, hJ'⟩

theorem Mid.cell (h : Mid l s Bs g gs gi J st pos pre W) : W.cell? ⟨Bs, 0, none⟩ = some (.string s) := by
  have := h.str
  simp [World.cell?, this]
theorem row_of_obj {l : List Span} {t : TypeId} (h : W.heap[g]? = some (.cells (rowOf l) t (0, 0))) : Row W g l := by
  refine ⟨(Array.getElem?_eq_some_iff.1 h).1, fun k hk => ?_⟩
  have h0 := rowOf_get l k hk 0 (by decide)
  have h1 := rowOf_get l k hk 1 (by decide)
  have h2 := rowOf_get l k hk 2 (by decide)
  simp only [Nat.add_zero, List.getElem?_cons_zero, List.getElem?_cons_succ] at h0 h1 h2
  refine ⟨?_, ?_, ?_⟩
  · simp [World.cell?, h, h0]
  · simp [World.cell?, h, h1]
  · simp [World.cell?, h, h2]
end

def GetsObj (l : List Span) (w : World) (e : Ending) (w' : World) : Prop :=
  ∃ g, e = .returned (.slice (some ⟨g, 0, none⟩) l.length l.length) ∧ w'.heap[g]? = some (.cells (rowOf l) 143 (0, 0)) ∧ Below w.heap.size w w' ∧ w.heap.size ≤ g
theorem table_obj (w : World) : Calls Tryd.prog 99 #[] w (GetsObj tabA w) := (classTable_any w).mono fun e w' ⟨h1, h2⟩ => by
  subst h1; subst h2
  exact ⟨w.heap.size, rfl, World.alloc_heap_new w _, (Below.refl _ _).alloc (Nat.le_refl _) _, Nat.le_refl _⟩

/-! ### the loop's arithmetic -/
def clsOf (cf : Int → Int) (P : List Nat) : List Int := P.map fun p : Nat => cf (p : Int)
/-- Behind k points, j the beginning of the cluster under way, pre what has come. -/
def Rest (cf : Int → Int) (P : List Nat) (k j : Nat) (pre : List (Nat × Nat)) : Prop :=
  k ≤ P.length ∧ j ≤ k ∧ (0 < k → j < k) ∧ cls (clsOf cf P) = pre ++ clGo (clsOf cf (P.take k)).reverse j k (clsOf cf (P.drop k))
theorem Rest.zero (cf : Int → Int) (P : List Nat) : Rest cf P 0 0 [] := ⟨Nat.zero_le _, Nat.le_refl _, fun h => absurd h (Nat.lt_irrefl _), rfl⟩
theorem rev_succ (cf : Int → Int) (P : List Nat) (k : Nat) (h : k < P.length) : (clsOf cf (P.take (k + 1))).reverse = cf (P[k] : Nat) :: (clsOf cf (P.take k)).reverse := by
  unfold clsOf
  rw [List.take_succ_eq_append_getElem h, List.map_append, List.reverse_append]
  rfl
theorem drop_cls (cf : Int → Int) (P : List Nat) (k : Nat) (h : k < P.length) : clsOf cf (P.drop k) = cf (P[k] : Nat) :: clsOf cf (P.drop (k + 1)) := by
  unfold clsOf
  rw [List.drop_eq_getElem_cons h]; rfl
theorem Rest.cut {cf : Int → Int} {P : List Nat} {k j : Nat} {pre : List (Nat × Nat)} (h : Rest cf P k j pre) (hk : k < P.length) (h0 : 0 < k) (hb : refB (clsOf cf (P.take k)).reverse (cf (P[k] : Nat)) = true) : Rest cf P (k + 1) k (pre ++ [(j, k)]) := by
  obtain ⟨h1, h2, h3, h4⟩ := h
  refine ⟨by omega, by omega, fun _ => by omega, ?_⟩
  rw [h4, drop_cls cf P k hk, rev_succ cf P k hk]
  conv => lhs; unfold clGo
  rw [if_pos ⟨h0, hb⟩, List.append_assoc]; rfl
theorem Rest.go {cf : Int → Int} {P : List Nat} {k j : Nat} {pre : List (Nat × Nat)} (h : Rest cf P k j pre) (hk : k < P.length) (hb : k = 0 ∨ refB (clsOf cf (P.take k)).reverse (cf (P[k] : Nat)) = false) : Rest cf P (k + 1) j pre := by
  obtain ⟨h1, h2, h3, h4⟩ := h
  refine ⟨by omega, by omega, fun _ => by rcases Nat.eq_zero_or_pos k with h | h <;> omega, ?_⟩
  rw [h4, drop_cls cf P k hk, rev_succ cf P k hk]
  conv => lhs; unfold clGo
  rw [if_neg]
  rintro ⟨h5, h6⟩
  rcases hb with hb | hb
  · omega
  · rw [hb] at h6; cases h6
theorem Rest.end {cf : Int → Int} {P : List Nat} {j : Nat} {pre : List (Nat × Nat)} (h : Rest cf P P.length j pre) (h0 : 0 < P.length) : cls (clsOf cf P) = pre ++ [(j, P.length)] := by
  rw [h.2.2.2, List.drop_length]
  show pre ++ clGo _ j P.length [] = _
  unfold clGo
  rw [if_pos h0]
theorem Rest.none {cf : Int → Int} {P : List Nat} {j : Nat} {pre : List (Nat × Nat)} (h : Rest cf P P.length j pre) (h0 : P.length = 0) : cls (clsOf cf P) = pre := by
  rw [h.2.2.2, List.drop_length]
  show pre ++ clGo _ j P.length [] = _
  unfold clGo
  rw [if_neg (by omega), List.append_nil]
theorem Rest.short {cf : Int → Int} {P : List Nat} {k j : Nat} {pre : List (Nat × Nat)} (h : Rest cf P k j pre) (hb : 0 < k) : pre.length < (cls (clsOf cf P)).length := by
  rw [h.2.2.2, List.length_append]
  have := clGo_up (clsOf cf (P.drop k)) (clsOf cf (P.take k)).reverse j k (h.2.2.1 hb)
  have h2 : 0 < (clGo (clsOf cf (P.take k)).reverse j k (clsOf cf (P.drop k))).length := List.length_pos_iff.2 this.2.1
  omega
theorem Rest.cutPre {cf : Int → Int} {P : List Nat} {k j : Nat} {pre : List (Nat × Nat)} (h : Rest cf P k j pre) : pre <+: cls (clsOf cf P) := ⟨_, h.2.2.2.symm⟩
/-- The rune that the range hands over, and where it goes on. -/
theorem rune_at {s : ByteArray} {P : List Nat} (hP : Pts P) (hs : s.data.toList = U.bytes P) (k : Nat) (hk : k < P.length) : off P k < s.size ∧ (Utf8.decode s (off P k)).1 = P[k] ∧ off P k + (Utf8.decode s (off P k)).2 = off P (k + 1) := by
  have hsz : s.size = (U.bytes P).length := by rw [← hs]; simp
  have h1 := off_lt P k P.length hk (Nat.le_refl _)
  rw [off_end] at h1
  have h4 := drop_off P [] k
  rw [List.append_nil, List.append_nil] at h4
  rw [decode_drop, hs, h4, drop_cons P k hk, decN_enc _ (hP.get k hk)]
  exact ⟨by omega, rfl, (off_succ P k hk).symm⟩
end Go.Proofs.YthjooopppidcfaaDoor

namespace Go.Proofs.YthjooopppidcfaaDoor
open Go.RowKit Go.Shelf Go.Lib
open Gc

attribute [local go_sem] Oper.semAt_some

def clV (s : ByteArray) (P : List Nat) (x : Nat × Nat) : Value := .agg #[.int .i64 (x.2 : Nat), .string (s.extract (U.off P x.1) (U.off P x.2))]
def encC (s : ByteArray) (P : List Nat) (x : Nat × Nat) : Array Value := #[clV s P x]

/-- How the iterator ends. -/
def IterPost (cf : Int → Int) (P : List Nat) (J Jx : List (Nat × Nat) → World → Prop) (e : Ending) (W' : World) : Prop :=
  (∃ v, e = .returned v) ∧ ((∃ xs, xs = cls (clsOf cf P) ∧ J xs W') ∨ (∃ pre, pre <+: cls (clsOf cf P) ∧ Jx pre W'))

set_option maxRecDepth 100000 in
set_option maxHeartbeats 4000000 in
theorem iter_gen (l : List Span) (cf : Int → Int) (hT : ∀ w, Calls Tryd.prog 99 #[] w (GetsObj l w))
    (hC : ∀ g p w, Row w g l → Calls Tryd.prog 100 #[.slice (some ⟨g, 0, none⟩) l.length l.length, .int .i64 p] w (IntPost (cf p) w))
    (n : Nat) (hn : 1 ≤ n) (L Bs : Nat) (s : ByteArray) (P : List Nat) (hP : U.Pts P) (hs : s.data.toList = U.bytes P) (hsz : s.size ≤ maxLen) (J Jx : List (Nat × Nat) → World → Prop) (W : World)
    (hJ : AbT TT W.heap.size J) (hstr : W.heap[Bs]? = some (.cells #[.string s] 9 (0, 0)))
    (hY : ∀ pre x W1, J pre W1 → pre.length < (cls (clsOf cf P)).length → YieldAt Fence.wide (n - 1) Tryd.prog L (encC s P x) W1 fun e W' =>
      (e = .returned (.bool true) ∧ J (pre ++ [x]) W' ∧ Kpt TT Bs W1 W') ∨ (e = .returned (.bool false) ∧ Jx (pre ++ [x]) W')) (h0 : J [] W) :
    CallsIn Fence.wide n Tryd.prog 98 #[.func (.yield L) #[] #[], .pointer (some ⟨Bs, 0, none⟩)] W (IterPost cf P J Jx) := by
  refine callsIn_of_wp Tryd.func98 rfl trivial ?_ rfl
  simp only [Tryd.ntmps98, List.size_toArray, List.length_cons, List.length_nil, Nat.reduceAdd, Nat.reduceSub, Array.replicate_succ, Array.replicate_zero, List.push_toArray, List.append_toArray, List.nil_append, List.cons_append]
  have hBs : W.cell? ⟨Bs, 0, none⟩ = some (.string s) := by simp [World.cell?, hstr]
  have hBlt : Bs < W.heap.size := (Array.getElem?_eq_some_iff.1 hstr).1
  unfold maxLen at hsz
  generalize hlen : l.length = ln at hC hT
  have hPs : P.length ≤ s.size := by
    have h1 := (U.bytes_len P).1
    have h2 : s.size = (U.bytes P).length := by rw [← hs]; simp
    omega
  gi_wp2_with (refine ⟨trivial, ?_⟩; gi_at_call 99; refine (callsIn_wide.2 (hT _)).mono ?_; rintro e w1 ⟨g, rfl, ho1, hb1, hg1⟩; have O1 := Go.Lib.hid ho1; clear ho1; have hc1 := (hb1.cell (p := ⟨Bs, 0, none⟩) hBlt).trans hBs; have hlt1 : Bs < w1.heap.size := Nat.lt_of_lt_of_le hBlt hb1.size; have hne1 : ¬ Bs = w1.heap.size := Nat.ne_of_lt hlt1)
  obtain ⟨gs, hgs⟩ : ∃ gs, w1.heap.size = gs := ⟨_, rfl⟩
  have hB1 : W.heap.size ≤ gs := by rw [← hgs]; exact hb1.size
  have M0 : Mid l s Bs g gs (gs + 1) J St.zero 0 [] ((w1.alloc (.cells #[.int .i64 0, .bool false, .bool false, .bool false] 135)).iter s 0) := by
    have key : ∀ (k : Nat) (o : Obj), w1.heap[k]? = some o → ((w1.alloc (.cells #[.int .i64 0, .bool false, .bool false, .bool false] 135)).iter s 0).heap[k]? = some o := fun k o hk => by
      have h1 := (Array.getElem?_eq_some_iff.1 hk).1
      exact (Below.heap_alloc _ _ _ (by simp; omega)).trans ((Below.heap_alloc _ _ _ h1).trans hk)
    refine ⟨key _ _ O1.out, ?_, ?_, key _ _ ((hb1.block Bs hBlt).trans hstr), ?_⟩
    · rw [← hgs]
      exact (Below.heap_alloc _ _ _ (by simp)).trans (World.alloc_heap_new w1 _)
    · have := World.alloc_heap_new (w1.alloc (.cells #[.int .i64 0, .bool false, .bool false, .bool false] 135)) (.stringIter s 0)
      rw [World.size_alloc, hgs] at this
      exact this
    · exact hJ [] _ _ none (hJ [] _ _ none (hJ [] W w1 none h0 (grown_below hb1 rfl) (fun _ e => by cases e)) (World.grownBy_alloc _ _ none) (fun _ e => by cases e)) (World.grownBy_alloc _ _ none) (fun _ e => by cases e)
  have MH := Go.Lib.hid M0
  clear M0
  rw [hgs]
  generalize (w1.alloc (.cells #[.int .i64 0, .bool false, .bool false, .bool false] 135)).iter s 0 = w2 at MH ⊢
  clear hne1 hc1 hlt1 hb1 O1 hBs hg1 hstr
  gi_loopw [5, 6] (fun s5 s6 wr => ∃ (k j : Nat) (pre : List (Nat × Nat)), s5 = .int .i64 (U.off P j : Nat) ∧ s6 = .int .i64 (k : Nat) ∧ Hid (Rest cf P k j pre) ∧ Hid (Mid l s Bs g gs (gs + 1) J (stOf (clsOf cf (P.take k)).reverse) (U.off P k) pre wr))
    (fun _ s6 _ => P.length - (intOf s6).toNat)
  case atStart => exact ⟨0, 0, [], rfl, rfl, Go.Lib.hid (Rest.zero cf P), MH⟩
  case round =>
    clear MH
    obtain ⟨k, j, pre, rfl, rfl, R, M⟩ := hrel
    have hkle := R.out.1
    have hjk := R.out.2.1
    have hoj : U.off P j ≤ U.off P k := U.off_mono P j k hjk
    by_cases hlt : k < P.length
    · obtain ⟨hp1, hp2, hp3⟩ := rune_at hP hs k hlt
      have hnx := fun ty => run_next_any_at (P := Tryd.prog) wr (gs + 1) s (U.off P k) ty M.out.it hp1
      have MN := Go.Lib.hid (M.out.next hJ (by omega) (U.off P (k + 1)))
      rw [hp2, hp3] at hnx
      have hpt : (P[k] : Nat) ≤ 1114111 := (hP.get k hlt).1
      have RG := Go.Lib.hid (fun h => R.out.go hlt h)
      have RC := Go.Lib.hid (fun h h' => R.out.cut hlt h h')
      have RS := Go.Lib.hid (fun h => R.out.short h)
      have hbd := boundary_ref (clsOf cf (P.take k)).reverse (cf (P[k] : Nat))
      have hrv := rev_succ cf P k hlt
      have hst : stOf (clsOf cf (P.take (k + 1))).reverse = (stOf (clsOf cf (P.take k)).reverse).add (cf (P[k] : Nat)) := by rw [hrv]; rfl
      have HST := Go.Lib.hid hst
      clear hst hrv hp2 hp3 R M
      generalize wr.iterAt (gs + 1) s (U.off P (k + 1)) = w3 at hnx MN
      generalize (P[k] : Nat) = p at hnx hpt RG RC hbd HST
      generalize stOf (clsOf cf (P.take k)).reverse = st at MN hbd HST
      generalize hbb : refB (clsOf cf (P.take k)).reverse (cf p) = bb at hbd RG RC
      have HBD := Go.Lib.hid hbd
      clear hbd hbb
      have hpi : (0 : Int) ≤ (p : Int) := by omega
      have hok2 : U.off P k ≤ s.size := by omega
      have hpi2 : (p : Int) ≤ 1114111 := by omega
      obtain ⟨ok, hok⟩ : ∃ ok, U.off P k = ok := ⟨_, rfl⟩
      obtain ⟨oj, hojj⟩ : ∃ oj, U.off P j = oj := ⟨_, rfl⟩
      have OK := Go.Lib.hid hok
      have OJ := Go.Lib.hid hojj
      rw [hok] at hnx hp1 hoj hok2
      rw [hojj] at hoj
      rw [hojj]
      clear hok hojj
      have hc := fun w3 (M3 : Mid l s Bs g gs (gs + 1) J st (U.off P (k + 1)) pre w3) => hC g (p : Int) w3 (row_of_obj M3.tab)
      by_cases hk0 : k = 0
      · subst hk0
        gi_wp2_with (refine ⟨trivial, ?_⟩; gi_at_call 100; (with_reducible refine (callsIn_wide.2 (hc w3 MN.out)).mono ?_); rintro e w4 ⟨rfl, hb4⟩; have M4 := Go.Lib.hid (MN.out.below hJ hb4))
        refine ⟨trivial, ?_⟩
        gi_wp2_with ((refine ⟨trivial, ?_⟩; gi_at_call 102; (with_reducible refine (callsIn_wide.2 (add_any gs st (cf p) w4 M4.out.st)).mono ?_); rintro e w5 ⟨rfl, hs5, hg5⟩; have M5 := Go.Lib.hid (M4.out.add hJ hB1 hs5 hg5); clear hs5))
        go_roundw
        case rel => exact ⟨1, j, pre, by rw [OJ.out], rfl, Go.Lib.hid (RG.out (by simp)), Go.Lib.hid (by rw [HST.out]; exact M5.out)⟩
        case measure => simp [intOf]; omega
      · have hk1 : 0 < k := by omega
        have hlen := RS.out hk1
        have HL := Go.Lib.hid hlen
        clear hlen
        cases bb with
        | false =>
          gi_wp2_with (first
            | (refine ⟨trivial, ?_⟩; gi_at_call 100; (with_reducible refine (callsIn_wide.2 (hc w3 MN.out)).mono ?_); rintro e w4 ⟨rfl, hb4⟩; have M4 := Go.Lib.hid (MN.out.below hJ hb4); have cB := boundary_any gs st (cf p) w4 M4.out.st; rw [HBD.out] at cB)
            | (refine ⟨trivial, ?_⟩; gi_at_call 101; (with_reducible refine (callsIn_wide.2 cB).mono ?_); rintro e w5 ⟨rfl, hb5⟩; have M5 := Go.Lib.hid (M4.out.below hJ hb5); clear cB)
            | (refine ⟨trivial, ?_⟩; gi_at_call 102; (with_reducible refine (callsIn_wide.2 (add_any gs st (cf p) w5 M5.out.st)).mono ?_); rintro e w6 ⟨rfl, hs6, hg6⟩; have M6 := Go.Lib.hid (M5.out.add hJ hB1 hs6 hg6); clear hs6))
          go_roundw
          case rel => exact ⟨k + 1, j, pre, by rw [OJ.out], by go_num, Go.Lib.hid (RG.out (by simp)), Go.Lib.hid (by rw [HST.out]; exact M6.out)⟩
          case measure => simp [intOf]; omega
        | true =>
          gi_wp2_with (first
            | (refine ⟨trivial, ?_⟩; gi_at_call 100; (with_reducible refine (callsIn_wide.2 (hc w3 MN.out)).mono ?_); rintro e w4 ⟨rfl, hb4⟩; have M4 := Go.Lib.hid (MN.out.below hJ hb4); have cB := boundary_any gs st (cf p) w4 M4.out.st; rw [HBD.out] at cB)
            | (refine ⟨trivial, ?_⟩; gi_at_call 101; (with_reducible refine (callsIn_wide.2 cB).mono ?_); rintro e w5 ⟨rfl, hb5⟩; have M5 := Go.Lib.hid (M4.out.below hJ hb5); clear cB; have hc5 := M5.out.cell; obtain ⟨fn, tmps, assign, body, hy, hR⟩ := hY pre (j, k) w5 M5.out.inj HL.out; unfold encC clV at hy; dsimp only at hy; rw [OJ.out, OK.out] at hy))
          refine hR.mono ?_
          rintro e w6 (⟨rfl, hJ6, hk6⟩ | ⟨rfl, hJx6⟩)
          · have M6 := Go.Lib.hid (M5.out.yield hk6 hJ6)
            clear hy hc5
            gi_wp2_with (refine ⟨trivial, ?_⟩; gi_at_call 102; (with_reducible refine (callsIn_wide.2 (add_any gs st (cf p) w6 M6.out.st)).mono ?_); rintro e w7 ⟨rfl, hs7, hg7⟩; have M7 := Go.Lib.hid (M6.out.add hJ hB1 hs7 hg7); clear hs7)
            go_roundw
            case rel => exact ⟨k + 1, k, pre ++ [(j, k)], by rw [OK.out], by go_num, Go.Lib.hid (RC.out hk1 (by simp)), Go.Lib.hid (by rw [HST.out]; exact M7.out)⟩
            case measure => simp [intOf]; omega
          · gi_wp2
            refine bodyPost_ret (results_none rfl _ _ _) rfl ?_
            exact ⟨⟨_, rfl⟩, .inr ⟨pre ++ [(j, k)], (RC.out hk1 (by simp)).cutPre, hJx6⟩⟩
    · obtain rfl : k = P.length := by omega
      have hend : U.off P P.length = s.size := by rw [U.off_end, ← hs]; simp
      have hnx := fun ty => run_next_end_at (P := Tryd.prog) wr (gs + 1) s (U.off P P.length) ty M.out.it (by omega)
      have RN := Go.Lib.hid (fun h => R.out.none h)
      have RE := Go.Lib.hid (fun h => R.out.end h)
      have RS := Go.Lib.hid (fun h => R.out.short h)
      by_cases hk0 : P.length = 0
      · have HK := Go.Lib.hid hk0
        rw [hk0]
        clear R
        gi_wp2
        go_end0
        exact ⟨⟨_, rfl⟩, .inl ⟨pre, (RN.out HK.out).symm, M.out.inj⟩⟩
      · have hk1 : 0 < P.length := by omega
        have hlen := RS.out hk1
        have hc5 := M.out.cell
        obtain ⟨fn, tmps, assign, body, hy, hR⟩ := hY pre (j, P.length) wr M.out.inj hlen
        unfold encC clV at hy
        dsimp only at hy
        rw [hend] at hy hoj
        clear hlen R
        have HE := Go.Lib.hid hend
        clear hend
        generalize U.off P j = oj at hoj hy ⊢
        gi_wp2
        refine hR.mono ?_
        rintro e w6 (⟨rfl, hJ6, hk6⟩ | ⟨rfl, hJx6⟩)
        · gi_wp2
          go_end0
          exact ⟨⟨_, rfl⟩, .inl ⟨_, (RE.out hk1).symm, hJ6⟩⟩
        · gi_wp2
          go_end0
          exact ⟨⟨_, rfl⟩, .inr ⟨_, by rw [RE.out hk1]; exact List.prefix_refl _, hJx6⟩⟩

/-- The classes of a string's points. -/
def cp (P : List Nat) : List Int := clsOf classOf P

theorem iter_any (n : Nat) (hn : 1 ≤ n) (Bs : Nat) (s : ByteArray) (P : List Nat) (hP : U.Pts P) (hs : s.data.toList = U.bytes P) (hsz : s.size ≤ maxLen) (w : World) (hstr : w.heap[Bs]? = some (.cells #[.string s] 9 (0, 0))) :
    SeqT TT Bs Fence.wide n Tryd.prog 98 #[.pointer (some ⟨Bs, 0, none⟩)] (fun x => #[clV s P x]) (fun xs => xs = cls (cp P)) (fun pre => pre <+: cls (cp P)) (cls (cp P)).length w := by
  intro L J Jx W hb hJ hJx hY h0
  have hB : Bs < w.heap.size := (Array.getElem?_eq_some_iff.1 hstr).1
  exact iter_gen tabA classOf table_obj (fun g p w R => classIn_any g p w R.1 R) n hn L Bs s P hP hs hsz J Jx W hJ ((hb.block Bs hB).trans hstr) hY h0

theorem clusters_in (s : ByteArray) (n : Nat) (w : World) :
    CallsIn Fence.wide n Tryd.prog 84 #[.string s] w fun e w' => e = .returned (.func (.func 98) #[] #[.pointer (some ⟨w.heap.size, 0, none⟩)]) ∧ w' = w.alloc (.cells #[.string s] 9) := by
  refine callsIn_of_wp Tryd.func84 rfl trivial ?_ rfl
  simp only [Tryd.ntmps84, List.size_toArray, List.length_cons, List.length_nil, Nat.reduceAdd, Nat.reduceSub, Array.replicate_succ, Array.replicate_zero, List.push_toArray, List.append_toArray, List.nil_append, List.cons_append]
  gi_wp2
  go_ret
  exact ⟨rfl, rfl⟩
end Go.Proofs.YthjooopppidcfaaDoor
