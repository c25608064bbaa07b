/- Of no seat's numbers: a range over an iterator with cells of its own; objects in memory; a region that reads but for its tail, inside a fence. -/
import Derived.RangeFuncNested
import Derived.RangeFuncBox
import Derived.RangeFuncCalls
import Derived.Lib.OthersKept
import Derived.RangeFuncBound
import Derived.RangeFuncLeaves
import Derived.Shelf.Abstract
import Derived.Shelf.RegionOpen
import Derived.OwnWalkIn
import Derived.TacticsInMore
import Derived.LoopNIn
import Derived.LoopIn
import Derived.Laws.RangeAny
import Derived.StillTailTactics
import Derived.OrdersIn
import Derived.TacticsIn
import Derived.Test.YtjhppkjngifibaaRows
import Derived.WalkKit
import Derived.WalkSpells
import Derived.WalkLawsBesides
import Derived.Lib.Hide

/- A range over an iterator that keeps a table and a state of its own in cells: of no seat's numbers. 'T' says which types of cells are the iterator's. -/
namespace Go.Proofs.Ytjhppkjngifibaa
open Go.RowKit

/-- What the iterator may turn, and what no round turns: a walk's object; cells of its own types. -/
def mine (T : TypeId → Bool) : Obj → Bool
  | .cells _ t _ => T t
  | .map .. => false
  | o => o.isWalk

def AbT (T : TypeId → Bool) (B : Nat) {β : Type} (J : β → World → Prop) : Prop :=
  ∀ s A C row, J s A → A.grownBy C row → (∀ r, row = some r → B ≤ r ∧ ∃ o : Obj, A.heap[r]? = some o ∧ mine T o = true) → J s C

/-- What a round that goes on keeps: the string's box, and whatever is the iterator's. -/
structure Kpt (T : TypeId → Bool) (Bs : Nat) (W W' : World) : Prop where
  size : W.heap.size ≤ W'.heap.size
  str : W'.heap[Bs]? = W.heap[Bs]?
  same : ∀ (k : Nat) (o : Obj), W.heap[k]? = some o → mine T o = true → W'.heap[k]? = some o

variable {T : TypeId → Bool} {Bs : Nat}
theorem Kpt.refl (W : World) : Kpt T Bs W W := ⟨Nat.le_refl _, rfl, fun _ _ h _ => h⟩
theorem Kpt.trans {A B C : World} (h : Kpt T Bs A B) (k : Kpt T Bs B C) : Kpt T Bs A C :=
  ⟨Nat.le_trans h.size k.size, k.str.trans h.str, fun i o hi ho => k.same i o (h.same i o hi ho) ho⟩
theorem Kpt.of_grownBy {W W' : World} {row : Option Nat} (hBs : Bs < W.heap.size) (hg : W.grownBy W' row) (hrow : ∀ r, row = some r → r ≠ Bs ∧ ∃ o : Obj, W.heap[r]? = some o ∧ mine T o = false) : Kpt T Bs W W' := by
  refine ⟨hg.size, hg.block Bs hBs (fun e => ?_), fun k o hk ho => (hg.block k (Array.getElem?_eq_some_iff.1 hk).1 (fun e => ?_)).trans hk⟩
  · exact (hrow Bs e.symm).1 rfl
  · obtain ⟨_, o', ho', hm⟩ := hrow k e.symm
    rw [hk] at ho'; cases ho'; rw [ho] at hm; cases hm
theorem Kpt.alloc {W : World} (hBs : Bs < W.heap.size) (o : Obj) : Kpt T Bs W (W.alloc o) := Kpt.of_grownBy hBs (World.grownBy_alloc W o none) (fun _ e => by cases e)
theorem Kpt.boxed {W : World} {B : Nat} {t : TypeId} {v : Value} (hBs : Bs < W.heap.size) (h : Boxed W B t v) (hne : B ≠ Bs) (ht : T t = false) (v' : Value) : Kpt T Bs W (W.setCell ⟨B, 0, none⟩ v') :=
  Kpt.of_grownBy hBs (grownBy_setCell' W B v') (fun r e => by cases e; exact ⟨hne, _, h, ht⟩)
theorem Kpt.loop {W : World} {l : Nat} {r : Loop} (hBs : Bs < W.heap.size) (h : W.heap[l]? = some (.loop r)) (hl : l ≠ Bs) (o : Obj) : Kpt T Bs W (W.putObj l o) :=
  Kpt.of_grownBy hBs (grownBy_putObj' W l o) (fun r e => by cases e; exact ⟨hl, _, h, rfl⟩)

/-- The iterator's contract. -/
def SeqT (T : TypeId → Bool) (Bs : Nat) {α : Type} (F : Fence) (n : Nat) (P : Program) (g : Nat) (lb : Array Value) (encs : α → Array Value) (S Sp : List α → Prop) (N : Nat) (w : World) : Prop :=
  ∀ (l : Nat) (J Jx : List α → World → Prop) (W : World), Below w.heap.size w W → AbT T W.heap.size J → AbT T W.heap.size Jx →
    (∀ pre x W1, J pre W1 → pre.length < N → YieldAt F (n - 1) P l (encs x) W1 fun e W' =>
      (e = .returned (.bool true) ∧ J (pre ++ [x]) W' ∧ Kpt T Bs W1 W') ∨ (e = .returned (.bool false) ∧ Jx (pre ++ [x]) W')) →
    J [] W →
    CallsIn F n P g (#[.func (.yield l) #[] #[]] ++ lb) W fun e W' => (∃ v, e = .returned v) ∧ ((∃ xs, S xs ∧ J xs W') ∨ (∃ pre, Sp pre ∧ Jx pre W'))

/-- What the caller says between two rounds abides the iterator's steps, and the turns of the loop's own record. -/
def OwnT (T : TypeId → Bool) (B : Nat) {β : Type} (I : β → World → Prop) : Prop :=
  ∀ s A C row, I s A → A.grownBy C row → (∀ r, row = some r → B ≤ r ∧ ∃ o : Obj, A.heap[r]? = some o ∧ (mine T o = true ∨ o.isCells = false)) → I s C

theorem OwnT.and {B : Nat} {β : Type} {I I' : β → World → Prop} (h : OwnT T B I) (h' : OwnT T B I') : OwnT T B (fun s W => I s W ∧ I' s W) :=
  fun s A C row hs hg hr => ⟨h s A C row hs.1 hg hr, h' s A C row hs.2 hg hr⟩
theorem OwnT.below {B n₀ : Nat} {β : Type} {w₀ : World} (hn : n₀ ≤ w₀.heap.size) (hB : n₀ ≤ B) : OwnT T B (fun (_ : β) W => Below n₀ w₀ W) :=
  fun _ _ _ _ hs hg hr => hs.grown hg (Nat.le_trans hn hs.size) (fun k e => Nat.le_trans hB (hr k e).1)
theorem OwnT.pure {B : Nat} {β : Type} {p : β → Prop} : OwnT T B (fun s _ => p s) := fun _ _ _ _ hs _ _ => hs
/-- A row of cells of a type that is not the iterator's is not what it turns. -/
theorem not_turned {B : Nat} {A : World} {row : Option Nat} {k : Nat} {c : Array Value} {t : TypeId} {z : Nat × Nat} (hk : A.heap[k]? = some (.cells c t z)) (ht : T t = false)
    (hr : ∀ r, row = some r → B ≤ r ∧ ∃ o : Obj, A.heap[r]? = some o ∧ (mine T o = true ∨ o.isCells = false)) : some k ≠ row := by
  intro e
  obtain ⟨_, o, ho, hm⟩ := hr k e.symm
  rw [hk] at ho; cases ho
  rcases hm with hm | hm
  · rw [show mine T (.cells c t z) = T t from rfl, ht] at hm; cases hm
  · cases hm
theorem OwnT.boxed {B : Nat} {β : Type} {b : Nat} {t : TypeId} (ht : T t = false) (f : β → Value) : OwnT T B (fun s W => Boxed W b t (f s)) :=
  fun _ _ _ _ hs hg hr => hs.kept hg (not_turned hs ht hr)
/-- 'The box holds a slice that owns f s'. -/
theorem OwnT.row {β : Type} {B n₀ b : Nat} {t e : TypeId} (ht : T t = false) (he : T e = false) (size : Nat) (k : β → Nat) (f : β → List Value) (G : β → Value → Prop) :
    OwnT T B (fun s W => ∃ v, Boxed W b t v ∧ W.ownsRow n₀ e size v (k s) (f s) ∧ G s v) := by
  rintro s A C row ⟨v, hv, hrow, hG⟩ hg hr
  refine ⟨v, hv.kept hg (not_turned hv ht hr), hrow.kept hg ?_, hG⟩
  rcases hrow.2 with ⟨rfl, _⟩ | ⟨g, cap, cur, rfl, _, hgb, _⟩
  · exact .inl rfl
  · exact .inr (not_turned hgb he hr)

/-- How a round may be left. -/
def postT (T : TypeId → Bool) (Bs B : Nat) {α : Type} (I : List α → World → Prop) (Ix : Code → List α → World → Prop) (xs : List α) (W : World) : Exit → Act → World → Prop
  | .normal, _, W' => KeepsFrom B W W' ∧ Kpt T Bs W W' ∧ I xs W'
  | .ret, _, W' => KeepsFrom B W W' ∧ Ix .ret xs W'
  | .exit id, _, W' => KeepsFrom B W W' ∧ Ix (.exit id) xs W'
  | .goto t, _, W' => KeepsFrom B W W' ∧ Ix (.goto t) xs W'
  | .panic _, _, _ => False
  | .outgrown, _, _ => False

variable {F : Fence} {n : Nat} {P : Program}

/-- Two facts of the law's own book-keeping: the record lies at l, the block for deferred calls at d. -/
def Kept (l d : Nat) (r : Loop) (W : World) : Prop := W.heap[l]? = some (.loop r) ∧ W.heap[d]? = some (.deferred (some []))

theorem Kept.turn {l d : Nat} {r : Loop} {A C : World} {row : Option Nat} (h : Kept l d r A) (hg : A.grownBy C row) (hr : ∀ k, row = some k → ∃ o : Obj, A.heap[k]? = some o ∧ mine T o = true) : Kept l d r C := by
  have key : ∀ (k : Nat) (o : Obj), A.heap[k]? = some o → mine T o = false → C.heap[k]? = some o := fun k o hk hm => by
    refine (hg.block k (Array.getElem?_eq_some_iff.1 hk).1 fun e => ?_).trans hk
    obtain ⟨o', ho', hm'⟩ := hr k e.symm
    rw [hk] at ho'; cases ho'; rw [hm] at hm'; cases hm'
  exact ⟨key _ _ h.1 rfl, key _ _ h.2 rfl⟩
theorem Kept.from {l d B : Nat} {r : Loop} {A C : World} (h : Kept l d r A) (hl : B ≤ l) (hd : B ≤ d) (hk : KeepsFrom B A C) : Kept l d r C :=
  ⟨hk.same _ _ hl h.1 rfl, hk.same _ _ hd h.2 rfl⟩
theorem Kept.put {l d : Nat} {r : Loop} {A : World} (h : Kept l d r A) (hne : d ≠ l) (r' : Loop) : Kept l d r' (A.putObj l (.loop r')) :=
  ⟨World.putObj_heap_same (Array.getElem?_eq_some_iff.1 h.1).1, (World.putObj_heap_other hne).trans h.2⟩
theorem OwnT.put {B : Nat} {β : Type} {I : β → World → Prop} (h : OwnT T B I) {s : β} {W : World} {l : Nat} {r : Loop} (o : Obj) (hs : I s W) (hB : B ≤ l) (hl : W.heap[l]? = some (.loop r)) : I s (W.putObj l o) :=
  h s W _ (some l) hs (grownBy_putObj' W l o) (fun k e => by cases e; exact ⟨hB, _, hl, .inr rfl⟩)
theorem OwnT.new {B : Nat} {β : Type} {I : β → World → Prop} (h : OwnT T B I) {s : β} {W : World} (o : Obj) (hs : I s W) : I s (W.alloc o) :=
  h s W _ none hs (World.grownBy_alloc W o none) (fun _ e => by cases e)

/-- A range over such an iterator: the assignment to the loop's variable and the body in one premise. -/
theorem rangeT {α : Type} {g : Operand} {ps : Array Tmp} {assign body : Code} {Q : Exit → Act → World → Prop} {a : Act} {w : World}
    (hro : F.round = none) (h1 : 1 ≤ n) {gf : Nat} {lb : Array Value} (hg : a.eval g = .func (.func gf) #[] lb) (hFg : F.fn gf) (eg : ∀ args w, (callFunc gf args).run P w = .ok (.enter gf args) w)
    {encs : α → Array Value} {S Sp : List α → Prop} {N : Nat} (hBs : Bs < w.heap.size) (hseq : SeqT T Bs F (n - 1) P gf lb encs S Sp N w) (hps : ∀ x, (encs x).size = ps.size)
    (I : List α → World → Prop) (Ix : Code → List α → World → Prop) (hI : OwnT T w.heap.size I) (hIx : ∀ c, OwnT T w.heap.size (Ix c)) (h0 : I [] w)
    (hround : ∀ (l : Nat) (pre : List α) (x : α) (W : World), I pre W → pre.length < N → w.heap.size ≤ l → l < W.heap.size →
      assign.wpIn (F.inRound l) (n - 1 - 1) P (Exit.then (fun a₁ V => KeepsFrom w.heap.size W V ∧ Kpt T Bs W V ∧ I pre V ∧
        ∀ V', V.grownBy V' (some l) → I pre V' → body.wpIn (F.inRound l) (n - 1 - 1) P (postT T Bs w.heap.size I Ix (pre ++ [x]) V') a₁ V') (fun _ _ _ => False))
        { tmps := (ps.zip (encs x)).foldl (fun t (p, v) => t.setIfInBounds p v) a.tmps, defers := [] } W)
    (hdone : ∀ (D : Nat) (xs : List α) (W : World), w.heap.size ≤ D → S xs → I xs W → W.heap[D]? = some (.deferred (some [])) → Q .normal { a with defers := { target := .collected D, args := #[] } :: a.defers } W)
    (hstop : ∀ (D : Nat) (c : Code) (pre : List α) (W : World), w.heap.size ≤ D → Sp pre → Ix c pre W → W.heap[D]? = some (.deferred (some [])) → c.wpIn F n P Q { a with defers := { target := .collected D, args := #[] } :: a.defers } W) :
    (Code.rangeFunc g ps assign body).wpIn F n P Q a w := by
  refine wpIn_rangeFunc fun fn hfn => ?_
  rw [hro]
  obtain ⟨d, hd⟩ : ∃ d, w.heap.size = d := ⟨_, rfl⟩
  obtain ⟨rec, hrec⟩ : ∃ rec : LoopState → Option Code → Loop, rec = fun st pe => { state := st, pending := pe, fn, tmps := a.tmps, params := ps, assign, body, defers := d } := ⟨_, rfl⟩
  obtain ⟨V1, hV1⟩ : ∃ V1, (w.alloc (.deferred (some []))).alloc (.loop (rec .ready none)) = V1 := ⟨_, rfl⟩
  have hk1 : Kept (d + 1) d (rec .ready none) V1 := by
    rw [← hV1, ← hd]
    refine ⟨?_, (Below.heap_alloc _ _ _ (by simp)).trans (World.alloc_heap_new w _)⟩
    have := World.alloc_heap_new (w.alloc (.deferred (some []))) (.loop (rec .ready none))
    rwa [World.size_alloc] at this
  have hs1 : V1.heap.size = d + 2 := by rw [← hV1, ← hd]; simp
  refine ⟨d + 1, [{ target := .collected d, args := #[] }], V1, { target := .fn (.func gf) lb, args := #[.func (.yield (d + 1)) #[] #[]] }, V1, gf,
    #[.func (.yield (d + 1)) #[] #[]] ++ lb, V1, ?enter, ?res, ?leads, ?inv, fun _ => h1, ?run⟩
  case enter => rw [← hV1, hrec, ← hd]; exact run_enterLoop_outer _ _ _ _ _
  case res =>
    simp only [resolve, hg]
    simp [go_sem]
  case leads => intro f' hf'; simp [Target.leads] at hf'; subst hf'; exact hFg
  case inv => simp [invoke, go_sem, eg]
  case run =>
    rw [hd] at hI hIx hround hdone hstop
    have up : ∀ {A : World} {row : Option Nat}, (∀ r, row = some r → V1.heap.size ≤ r ∧ ∃ o : Obj, A.heap[r]? = some o ∧ mine T o = true) → (∀ r, row = some r → d ≤ r ∧ ∃ o : Obj, A.heap[r]? = some o ∧ (mine T o = true ∨ o.isCells = false)) :=
      fun hr r e => by obtain ⟨hB, o, ho, hm⟩ := hr r e; exact ⟨by omega, o, ho, .inl hm⟩
    refine (hseq (d + 1) (fun pre W => I pre W ∧ Kept (d + 1) d (rec .ready none) W) (fun pre W => ∃ c, Ix c pre W ∧ Kept (d + 1) d (rec .done (some c)) W) V1 ?b0 ?ab ?abx ?rounds ⟨?i0, hk1⟩).mono ?fin
    case b0 => rw [← hV1]; exact ((Below.refl _ w).alloc (Nat.le_refl _) _).alloc (by simp) _
    case ab => exact fun s A C row hs hg' hr => ⟨hI s A C row hs.1 hg' (up hr), hs.2.turn hg' (fun r e => (hr r e).2)⟩
    case abx =>
      rintro s A C row ⟨c, hc, hk⟩ hg' hr
      exact ⟨c, hIx c s A C row hc hg' (up hr), hk.turn hg' (fun r e => (hr r e).2)⟩
    case i0 => rw [← hV1]; exact hI.new _ (hI.new _ h0)
    case rounds =>
      rintro pre x W ⟨hi, hk⟩ hlen
      have hlt : d + 1 < W.heap.size := (Array.getElem?_eq_some_iff.1 hk.1).1
      have hy := run_yield (P := P) (args := encs x) hk.1 (by rw [hrec]; exact hps x)
      rw [hrec] at hy
      refine ⟨fn, _, assign, body, hy, roundIn_of_wpIn hfn (wpIn_mono (hround (d + 1) pre x W hi hlen (by omega) hlt) ?_)⟩
      rintro e a₁ V hp
      cases e with
      | normal =>
        obtain ⟨hkf, hkp, hiV, hbody⟩ := hp
        have hkV := hk.from (by omega : d ≤ d + 1) (Nat.le_refl d) hkf
        obtain ⟨rb, hrb⟩ : ∃ rb : Loop, rb = { rec .ready none with state := .busy } := ⟨_, rfl⟩
        have hbr := run_beginRound (P := P) hkV.1 (by rw [hrec])
        rw [← hrb] at hbr
        refine ⟨_, hbr, ?_⟩
        have hk2 := hkV.put (by omega) rb
        have hBs1 : Bs < V.heap.size := by have := hkf.size; omega
        have hp2 : Kpt T Bs V (V.putObj (d + 1) (.loop rb)) := Kpt.loop hBs1 hkV.1 (by omega) _
        have hi2 := hI.put (.loop rb) hiV (by omega) hkV.1
        refine wpIn_mono (hbody _ (grownBy_putObj' V (d + 1) _) hi2) ?_
        have fin : ∀ (jump : Option Code) (U : World), KeepsFrom d (V.putObj (d + 1) (.loop rb)) U →
            (Instr.endRound (d + 1) jump).run P U = .ok (.bool jump.isNone) (U.putObj (d + 1) (.loop (rec (if jump.isNone then .ready else .done) jump))) ∧
            U.heap[d + 1]? = some (.loop rb) ∧ Kept (d + 1) d (rec (if jump.isNone then .ready else .done) jump) (U.putObj (d + 1) (.loop (rec (if jump.isNone then .ready else .done) jump))) := fun jump U hkU => by
          have h3 := hk2.from (by omega : d ≤ d + 1) (Nat.le_refl d) hkU
          have h4 := run_endRound (P := P) jump h3.1
          refine ⟨?_, h3.1, h3.put (by omega) _⟩
          rw [hrb, hrec] at h4
          rw [hrec]
          exact h4
        rintro e a3 U hpU
        cases e with
        | normal =>
          obtain ⟨hkU, hpU, hiU⟩ := hpU
          obtain ⟨hr, hl, hkk⟩ := fin none U hkU
          have hBs2 : Bs < U.heap.size := by have := hp2.size; have := hpU.size; omega
          exact ⟨_, _, hr, .inl ⟨rfl, ⟨hI.put _ hiU (by omega) hl, hkk⟩, ((hkp.trans hp2).trans hpU).trans (Kpt.loop hBs2 hl (by omega) _)⟩⟩
        | ret =>
          obtain ⟨hkU, hiU⟩ := hpU
          obtain ⟨hr, hl, hkk⟩ := fin (some .ret) U hkU
          exact ⟨_, _, hr, .inr ⟨rfl, .ret, (hIx _).put _ hiU (by omega) hl, hkk⟩⟩
        | exit id =>
          obtain ⟨hkU, hiU⟩ := hpU
          obtain ⟨hr, hl, hkk⟩ := fin (some (.exit id)) U hkU
          exact ⟨_, _, hr, .inr ⟨rfl, .exit id, (hIx _).put _ hiU (by omega) hl, hkk⟩⟩
        | goto t =>
          obtain ⟨hkU, hiU⟩ := hpU
          obtain ⟨hr, hl, hkk⟩ := fin (some (.goto t)) U hkU
          exact ⟨_, _, hr, .inr ⟨rfl, .goto t, (hIx _).put _ hiU (by omega) hl, hkk⟩⟩
        | panic ch => exact hpU.elim
        | outgrown => exact hpU.elim
      | ret => exact hp.elim
      | exit id => exact hp.elim
      | goto t => exact hp.elim
      | panic ch => exact hp.elim
      | outgrown => exact hp.elim
    case fin =>
      rintro e U ⟨⟨v, rfl⟩, (⟨xs, hS, hi, hk⟩ | ⟨pre, hSp, c, hi, hk⟩)⟩
      · have h4 := run_endLoop (P := P) hk.1 (by rw [hrec]; simp)
        rw [hrec] at h4
        exact ⟨none, _, h4, hdone _ xs _ (Nat.le_refl _) hS (hI.put _ hi (by omega) hk.1) ((World.putObj_heap_other (by omega)).trans hk.2)⟩
      · have h4 := run_endLoop (P := P) hk.1 (by rw [hrec]; simp)
        rw [hrec] at h4
        exact ⟨some c, _, h4, hstop _ c pre _ (Nat.le_refl _) hSp ((hIx c).put _ hi (by omega) hk.1) ((World.putObj_heap_other (by omega)).trans hk.2)⟩

theorem fold_one (p : Tmp) (v : Value) (t : Array Value) : (#[p].zip #[v]).foldl (fun t (x : Tmp × Value) => t.setIfInBounds x.1 x.2) t = t.setIfInBounds p v := by simp

/-- The law at one loop variable. -/
theorem rangeT1 {α : Type} {g : Operand} {p : Tmp} {assign body : Code} {Q : Exit → Act → World → Prop} {a : Act} {w : World}
    (hro : F.round = none) (h1 : 1 ≤ n) {gf : Nat} {lb : Array Value} (hg : a.eval g = .func (.func gf) #[] lb) (hFg : F.fn gf) (eg : ∀ args w, (callFunc gf args).run P w = .ok (.enter gf args) w)
    {enc : α → Value} {S Sp : List α → Prop} {N : Nat} (hBs : Bs < w.heap.size) (hseq : SeqT T Bs F (n - 1) P gf lb (fun x => #[enc x]) S Sp N w)
    (I : List α → World → Prop) (Ix : Code → List α → World → Prop) (hI : OwnT T w.heap.size I) (hIx : ∀ c, OwnT T w.heap.size (Ix c)) (h0 : I [] w)
    (hround : ∀ (l : Nat) (pre : List α) (x : α) (W : World), I pre W → pre.length < N → w.heap.size ≤ l → l < W.heap.size →
      assign.wpIn (F.inRound l) (n - 1 - 1) P (Exit.then (fun a₁ V => KeepsFrom w.heap.size W V ∧ Kpt T Bs W V ∧ I pre V ∧
        ∀ V', V.grownBy V' (some l) → I pre V' → body.wpIn (F.inRound l) (n - 1 - 1) P (postT T Bs w.heap.size I Ix (pre ++ [x]) V') a₁ V') (fun _ _ _ => False))
        { tmps := a.tmps.setIfInBounds p (enc x), defers := [] } W)
    (hdone : ∀ (D : Nat) (xs : List α) (W : World), w.heap.size ≤ D → S xs → I xs W → W.heap[D]? = some (.deferred (some [])) → Q .normal { a with defers := { target := .collected D, args := #[] } :: a.defers } W)
    (hstop : ∀ (D : Nat) (c : Code) (pre : List α) (W : World), w.heap.size ≤ D → Sp pre → Ix c pre W → W.heap[D]? = some (.deferred (some [])) → c.wpIn F n P Q { a with defers := { target := .collected D, args := #[] } :: a.defers } W) :
    (Code.rangeFunc g #[p] assign body).wpIn F n P Q a w :=
  rangeT hro h1 hg hFg eg hBs hseq (fun _ => rfl) I Ix hI hIx h0 (fun l pre x W hi hlen hl hlW => by
    have e : ((#[p] : Array Tmp).zip #[enc x]).foldl (fun t (p, v) => t.setIfInBounds p v) a.tmps = a.tmps.setIfInBounds p (enc x) := fold_one p (enc x) a.tmps
    rw [e]
    exact hround l pre x W hi hlen hl hlW) hdone hstop
end Go.Proofs.Ytjhppkjngifibaa

namespace Go.Proofs.Ytjhppkjngifibaa
open Go.RowKit Go.Lib
section
variable {T : TypeId → Bool} {Bs : Nat}
def SeqP (T : TypeId → Bool) (Bs : Nat) {α : Type} (F : Fence) (n : Nat) (P : Program) (g : Nat) (lb : Array Value) (encs : α → Array Value) (S Sp : List α → Prop) (N : Nat) (w : World) : Prop :=
  ∀ (l : Nat) (J Jx : List α → World → Prop) (W : World), Below w.heap.size w W → AbT T W.heap.size J → AbT T W.heap.size Jx →
    (∀ pre x W1, J pre W1 → pre.length < N → Sp (pre ++ [x]) → YieldAt F (n - 1) P l (encs x) W1 fun e W' =>
      (e = .returned (.bool true) ∧ J (pre ++ [x]) W' ∧ Kpt T Bs W1 W') ∨ (e = .returned (.bool false) ∧ Jx (pre ++ [x]) W')) →
    J [] W →
    CallsIn F n P g (#[.func (.yield l) #[] #[]] ++ lb) W fun e W' => (∃ v, e = .returned v) ∧ ((∃ xs, S xs ∧ J xs W') ∨ (∃ pre, Sp pre ∧ Jx pre W'))

variable {F : Fence} {n : Nat} {P : Program}

/-- A range over such an iterator: the assignment to the loop's variable and the body in one premise. -/
theorem rangeP {α : Type} {g : Operand} {ps : Array Tmp} {assign body : Code} {Q : Exit → Act → World → Prop} {a : Act} {w : World}
    (hro : F.round = none) (h1 : 1 ≤ n) {gf : Nat} {lb : Array Value} (hg : a.eval g = .func (.func gf) #[] lb) (hFg : F.fn gf) (eg : ∀ args w, (callFunc gf args).run P w = .ok (.enter gf args) w)
    {encs : α → Array Value} {S Sp : List α → Prop} {N : Nat} (hBs : Bs < w.heap.size) (hseq : SeqP T Bs F (n - 1) P gf lb encs S Sp N w) (hps : ∀ x, (encs x).size = ps.size)
    (I : List α → World → Prop) (Ix : Code → List α → World → Prop) (hI : OwnT T w.heap.size I) (hIx : ∀ c, OwnT T w.heap.size (Ix c)) (h0 : I [] w)
    (hround : ∀ (l : Nat) (pre : List α) (x : α) (W : World), I pre W → pre.length < N → Sp (pre ++ [x]) → w.heap.size ≤ l → l < W.heap.size →
      assign.wpIn (F.inRound l) (n - 1 - 1) P (Exit.then (fun a₁ V => KeepsFrom w.heap.size W V ∧ Kpt T Bs W V ∧ I pre V ∧
        ∀ V', V.grownBy V' (some l) → I pre V' → body.wpIn (F.inRound l) (n - 1 - 1) P (postT T Bs w.heap.size I Ix (pre ++ [x]) V') a₁ V') (fun _ _ _ => False))
        { tmps := (ps.zip (encs x)).foldl (fun t (p, v) => t.setIfInBounds p v) a.tmps, defers := [] } W)
    (hdone : ∀ (D : Nat) (xs : List α) (W : World), w.heap.size ≤ D → S xs → I xs W → W.heap[D]? = some (.deferred (some [])) → Q .normal { a with defers := { target := .collected D, args := #[] } :: a.defers } W)
    (hstop : ∀ (D : Nat) (c : Code) (pre : List α) (W : World), w.heap.size ≤ D → Sp pre → Ix c pre W → W.heap[D]? = some (.deferred (some [])) → c.wpIn F n P Q { a with defers := { target := .collected D, args := #[] } :: a.defers } W) :
    (Code.rangeFunc g ps assign body).wpIn F n P Q a w := by
  refine wpIn_rangeFunc fun fn hfn => ?_
  rw [hro]
  obtain ⟨d, hd⟩ : ∃ d, w.heap.size = d := ⟨_, rfl⟩
  obtain ⟨rec, hrec⟩ : ∃ rec : LoopState → Option Code → Loop, rec = fun st pe => { state := st, pending := pe, fn, tmps := a.tmps, params := ps, assign, body, defers := d } := ⟨_, rfl⟩
  obtain ⟨V1, hV1⟩ : ∃ V1, (w.alloc (.deferred (some []))).alloc (.loop (rec .ready none)) = V1 := ⟨_, rfl⟩
  have hk1 : Kept (d + 1) d (rec .ready none) V1 := by
    rw [← hV1, ← hd]
    refine ⟨?_, (Below.heap_alloc _ _ _ (by simp)).trans (World.alloc_heap_new w _)⟩
    have := World.alloc_heap_new (w.alloc (.deferred (some []))) (.loop (rec .ready none))
    rwa [World.size_alloc] at this
  have hs1 : V1.heap.size = d + 2 := by rw [← hV1, ← hd]; simp
  refine ⟨d + 1, [{ target := .collected d, args := #[] }], V1, { target := .fn (.func gf) lb, args := #[.func (.yield (d + 1)) #[] #[]] }, V1, gf,
    #[.func (.yield (d + 1)) #[] #[]] ++ lb, V1, ?enter, ?res, ?leads, ?inv, fun _ => h1, ?run⟩
  case enter => rw [← hV1, hrec, ← hd]; exact run_enterLoop_outer _ _ _ _ _
  case res =>
    simp only [resolve, hg]
    simp [go_sem]
  case leads => intro f' hf'; simp [Target.leads] at hf'; subst hf'; exact hFg
  case inv => simp [invoke, go_sem, eg]
  case run =>
    rw [hd] at hI hIx hround hdone hstop
    have up : ∀ {A : World} {row : Option Nat}, (∀ r, row = some r → V1.heap.size ≤ r ∧ ∃ o : Obj, A.heap[r]? = some o ∧ mine T o = true) → (∀ r, row = some r → d ≤ r ∧ ∃ o : Obj, A.heap[r]? = some o ∧ (mine T o = true ∨ o.isCells = false)) :=
      fun hr r e => by obtain ⟨hB, o, ho, hm⟩ := hr r e; exact ⟨by omega, o, ho, .inl hm⟩
    refine (hseq (d + 1) (fun pre W => I pre W ∧ Kept (d + 1) d (rec .ready none) W) (fun pre W => ∃ c, Ix c pre W ∧ Kept (d + 1) d (rec .done (some c)) W) V1 ?b0 ?ab ?abx ?rounds ⟨?i0, hk1⟩).mono ?fin
    case b0 => rw [← hV1]; exact ((Below.refl _ w).alloc (Nat.le_refl _) _).alloc (by simp) _
    case ab => exact fun s A C row hs hg' hr => ⟨hI s A C row hs.1 hg' (up hr), hs.2.turn hg' (fun r e => (hr r e).2)⟩
    case abx =>
      rintro s A C row ⟨c, hc, hk⟩ hg' hr
      exact ⟨c, hIx c s A C row hc hg' (up hr), hk.turn hg' (fun r e => (hr r e).2)⟩
    case i0 => rw [← hV1]; exact hI.new _ (hI.new _ h0)
    case rounds =>
      rintro pre x W ⟨hi, hk⟩ hlen hsp
      have hlt : d + 1 < W.heap.size := (Array.getElem?_eq_some_iff.1 hk.1).1
      have hy := run_yield (P := P) (args := encs x) hk.1 (by rw [hrec]; exact hps x)
      rw [hrec] at hy
      refine ⟨fn, _, assign, body, hy, roundIn_of_wpIn hfn (wpIn_mono (hround (d + 1) pre x W hi hlen hsp (by omega) hlt) ?_)⟩
      rintro e a₁ V hp
      cases e with
      | normal =>
        obtain ⟨hkf, hkp, hiV, hbody⟩ := hp
        have hkV := hk.from (by omega : d ≤ d + 1) (Nat.le_refl d) hkf
        obtain ⟨rb, hrb⟩ : ∃ rb : Loop, rb = { rec .ready none with state := .busy } := ⟨_, rfl⟩
        have hbr := run_beginRound (P := P) hkV.1 (by rw [hrec])
        rw [← hrb] at hbr
        refine ⟨_, hbr, ?_⟩
        have hk2 := hkV.put (by omega) rb
        have hBs1 : Bs < V.heap.size := by have := hkf.size; omega
        have hp2 : Kpt T Bs V (V.putObj (d + 1) (.loop rb)) := Kpt.loop hBs1 hkV.1 (by omega) _
        have hi2 := hI.put (.loop rb) hiV (by omega) hkV.1
        refine wpIn_mono (hbody _ (grownBy_putObj' V (d + 1) _) hi2) ?_
        have fin : ∀ (jump : Option Code) (U : World), KeepsFrom d (V.putObj (d + 1) (.loop rb)) U →
            (Instr.endRound (d + 1) jump).run P U = .ok (.bool jump.isNone) (U.putObj (d + 1) (.loop (rec (if jump.isNone then .ready else .done) jump))) ∧
            U.heap[d + 1]? = some (.loop rb) ∧ Kept (d + 1) d (rec (if jump.isNone then .ready else .done) jump) (U.putObj (d + 1) (.loop (rec (if jump.isNone then .ready else .done) jump))) := fun jump U hkU => by
          have h3 := hk2.from (by omega : d ≤ d + 1) (Nat.le_refl d) hkU
          have h4 := run_endRound (P := P) jump h3.1
          refine ⟨?_, h3.1, h3.put (by omega) _⟩
          rw [hrb, hrec] at h4
          rw [hrec]
          exact h4
        rintro e a3 U hpU
        cases e with
        | normal =>
          obtain ⟨hkU, hpU, hiU⟩ := hpU
          obtain ⟨hr, hl, hkk⟩ := fin none U hkU
          have hBs2 : Bs < U.heap.size := by have := hp2.size; have := hpU.size; omega
          exact ⟨_, _, hr, .inl ⟨rfl, ⟨hI.put _ hiU (by omega) hl, hkk⟩, ((hkp.trans hp2).trans hpU).trans (Kpt.loop hBs2 hl (by omega) _)⟩⟩
        | ret =>
          obtain ⟨hkU, hiU⟩ := hpU
          obtain ⟨hr, hl, hkk⟩ := fin (some .ret) U hkU
          exact ⟨_, _, hr, .inr ⟨rfl, .ret, (hIx _).put _ hiU (by omega) hl, hkk⟩⟩
        | exit id =>
          obtain ⟨hkU, hiU⟩ := hpU
          obtain ⟨hr, hl, hkk⟩ := fin (some (.exit id)) U hkU
          exact ⟨_, _, hr, .inr ⟨rfl, .exit id, (hIx _).put _ hiU (by omega) hl, hkk⟩⟩
        | goto t =>
          obtain ⟨hkU, hiU⟩ := hpU
          obtain ⟨hr, hl, hkk⟩ := fin (some (.goto t)) U hkU
          exact ⟨_, _, hr, .inr ⟨rfl, .goto t, (hIx _).put _ hiU (by omega) hl, hkk⟩⟩
        | panic ch => exact hpU.elim
        | outgrown => exact hpU.elim
      | ret => exact hp.elim
      | exit id => exact hp.elim
      | goto t => exact hp.elim
      | panic ch => exact hp.elim
      | outgrown => exact hp.elim
    case fin =>
      rintro e U ⟨⟨v, rfl⟩, (⟨xs, hS, hi, hk⟩ | ⟨pre, hSp, c, hi, hk⟩)⟩
      · have h4 := run_endLoop (P := P) hk.1 (by rw [hrec]; simp)
        rw [hrec] at h4
        exact ⟨none, _, h4, hdone _ xs _ (Nat.le_refl _) hS (hI.put _ hi (by omega) hk.1) ((World.putObj_heap_other (by omega)).trans hk.2)⟩
      · have h4 := run_endLoop (P := P) hk.1 (by rw [hrec]; simp)
        rw [hrec] at h4
        exact ⟨some c, _, h4, hstop _ c pre _ (Nat.le_refl _) hSp ((hIx c).put _ hi (by omega) hk.1) ((World.putObj_heap_other (by omega)).trans hk.2)⟩


/-- The law at one loop variable. -/
theorem rangeP1 {α : Type} {g : Operand} {p : Tmp} {assign body : Code} {Q : Exit → Act → World → Prop} {a : Act} {w : World}
    (hro : F.round = none) (h1 : 1 ≤ n) {gf : Nat} {lb : Array Value} (hg : a.eval g = .func (.func gf) #[] lb) (hFg : F.fn gf) (eg : ∀ args w, (callFunc gf args).run P w = .ok (.enter gf args) w)
    {enc : α → Value} {S Sp : List α → Prop} {N : Nat} (hBs : Bs < w.heap.size) (hseq : SeqP T Bs F (n - 1) P gf lb (fun x => #[enc x]) S Sp N w)
    (I : List α → World → Prop) (Ix : Code → List α → World → Prop) (hI : OwnT T w.heap.size I) (hIx : ∀ c, OwnT T w.heap.size (Ix c)) (h0 : I [] w)
    (hround : ∀ (l : Nat) (pre : List α) (x : α) (W : World), I pre W → pre.length < N → Sp (pre ++ [x]) → w.heap.size ≤ l → l < W.heap.size →
      assign.wpIn (F.inRound l) (n - 1 - 1) P (Exit.then (fun a₁ V => KeepsFrom w.heap.size W V ∧ Kpt T Bs W V ∧ I pre V ∧
        ∀ V', V.grownBy V' (some l) → I pre V' → body.wpIn (F.inRound l) (n - 1 - 1) P (postT T Bs w.heap.size I Ix (pre ++ [x]) V') a₁ V') (fun _ _ _ => False))
        { tmps := a.tmps.setIfInBounds p (enc x), defers := [] } W)
    (hdone : ∀ (D : Nat) (xs : List α) (W : World), w.heap.size ≤ D → S xs → I xs W → W.heap[D]? = some (.deferred (some [])) → Q .normal { a with defers := { target := .collected D, args := #[] } :: a.defers } W)
    (hstop : ∀ (D : Nat) (c : Code) (pre : List α) (W : World), w.heap.size ≤ D → Sp pre → Ix c pre W → W.heap[D]? = some (.deferred (some [])) → c.wpIn F n P Q { a with defers := { target := .collected D, args := #[] } :: a.defers } W) :
    (Code.rangeFunc g #[p] assign body).wpIn F n P Q a w :=
  rangeP hro h1 hg hFg eg hBs hseq (fun _ => rfl) I Ix hI hIx h0 (fun l pre x W hi hlen hsp hl hlW => by
    have e : ((#[p] : Array Tmp).zip #[enc x]).foldl (fun t (p, v) => t.setIfInBounds p v) a.tmps = a.tmps.setIfInBounds p (enc x) := fold_one p (enc x) a.tmps
    rw [e]
    exact hround l pre x W hi hlen hsp hl hlW) hdone hstop
end

theorem grown_below {n : Nat} {W W' : World} (h : Below n W W') (hn : n = W.heap.size) : W.grownBy W' none :=
  ⟨h.os, h.tape, h.output, h.size, fun k hk _ => h.block k (by omega)⟩
def Pair2 (a b : Value) (w : World) (e : Ending) (w' : World) : Prop := e = .returned (.tuple #[a, b]) ∧ Below w.heap.size w w'
theorem row_type {W : World} {base : Nat} {e : TypeId} {size : Nat} {v : Value} {k : Nat} {xs : List Value} (h : W.ownsRow base e size v k xs) (g : Nat) (hg : v.ownBlock = some g) : base ≤ g ∧ ∃ cur, W.heap[g]? = some (.cells cur e (0, 0)) := by
  rcases h.2 with ⟨rfl, _⟩ | ⟨g', cap, cur, rfl, hb, hgb, _⟩
  · simp [Value.ownBlock] at hg
  · obtain rfl : g' = g := by simpa [Value.ownBlock] using hg
    exact ⟨hb, cur, hgb⟩
theorem kpt_append {T : TypeId → Bool} {Bs : Nat} {V w1 : World} {B : Nat} {t e : TypeId} {v v' : Value} {base size k : Nat} {xs : List Value} {tmp : Obj} (hBs : Bs < V.heap.size)
    (hv : Boxed V B t v) (hB : B ≠ Bs) (ht : T t = false) (he : T e = false) (hte : t ≠ e) (hrow : V.ownsRow base e size v k xs) (hne : ∀ g, v.ownBlock = some g → g ≠ Bs) 
    (hgrow : (V.alloc tmp).grownBy w1 v.ownBlock) : Kpt T Bs V (w1.setCell ⟨B, 0, none⟩ v') := by
  have hv1 : Boxed w1 B t v := (hv.alloc tmp).kept hgrow (hv.not_row hte hrow)
  have k1 : Kpt T Bs V (V.alloc tmp) := Kpt.alloc hBs tmp
  have k2 : Kpt T Bs (V.alloc tmp) w1 := Kpt.of_grownBy (by simp; omega) hgrow (fun g hg => by
    obtain ⟨_, cur, hc⟩ := row_type (hrow.alloc tmp) g hg
    exact ⟨hne g hg, _, hc, he⟩)
  exact (k1.trans k2).trans (Kpt.boxed (by have := k2.size; simp at this; omega) hv1 hB ht v')
theorem row_below {W W' : World} {base : Nat} {e : TypeId} {size : Nat} {v : Value} {k : Nat} {xs : List Value} (h : W.ownsRow base e size v k xs) (hb : Below W.heap.size W W') : W'.ownsRow base e size v k xs :=
  h.kept (grown_below hb rfl) (by cases v.ownBlock <;> simp)
def IntPost (v : Int) (w : World) (e : Ending) (w' : World) : Prop := e = .returned (.int .i64 v) ∧ Below w.heap.size w w'
theorem bdrew {B : Nat} {a w : World} (h : Below B a w) (n : Nat) : Below B a (w.drewN n) := ⟨h.os, h.tape, h.output, h.size, h.block⟩
theorem neB {x y : Int} (h : x ≠ y) : (x == y) = false := by simpa using h
theorem bdrew1 {B : Nat} {a w : World} (h : Below B a w) : Below B a w.drew := ⟨h.os, h.tape, h.output, h.size, h.block⟩
theorem own_lower {w : World} {b b' : Nat} {e : TypeId} {s : Nat} {v : Value} {n : Nat} {xs : List Value} (h : w.ownsRow b e s v n xs) (hb : b' ≤ b) : w.ownsRow b' e s v n xs := by
  obtain ⟨h1, h2⟩ := h
  refine ⟨h1, ?_⟩
  rcases h2 with h2 | ⟨g, cap, cur, a1, a2, a3⟩
  · exact .inl h2
  · exact .inr ⟨g, cap, cur, a1, Nat.le_trans hb a2, a3⟩
/-- An object of several cells. -/
def ObjAt (W : World) (b : Nat) (c : Array Value) (t : TypeId) : Prop := W.heap[b]? = some (.cells c t (0, 0))
section
variable {W W' : World} {b : Nat} {c : Array Value} {t : TypeId}
theorem ObjAt.lt (h : ObjAt W b c t) : b < W.heap.size := (Array.getElem?_eq_some_iff.1 h).1
theorem ObjAt.new (W : World) (c : Array Value) (t : TypeId) : ObjAt (W.alloc (.cells c t)) W.heap.size c t := World.alloc_heap_new W _
theorem ObjAt.kept {row : Option Nat} (h : ObjAt W b c t) (hg : W.grownBy W' row) (hne : some b ≠ row) : ObjAt W' b c t := (hg.block b h.lt hne).trans h
theorem ObjAt.alloc (h : ObjAt W b c t) (o : Obj) : ObjAt (W.alloc o) b c t := h.kept (World.grownBy_alloc W o none) (by simp)
theorem ObjAt.below (h : ObjAt W b c t) (hb : Below W.heap.size W W') : ObjAt W' b c t := (hb.block b h.lt).trans h
theorem ObjAt.other (h : ObjAt W b c t) {C : Nat} (hne : b ≠ C) (i : Nat) (u : Value) : ObjAt (W.setCell ⟨C, i, none⟩ u) b c t := (Below.heap_setCell _ _ _ b hne).trans h
theorem ObjAt.get (h : ObjAt W b c t) {k : Nat} {v : Value} (hk : c[k]? = some v) : W.cell? ⟨b, k, none⟩ = some v := by
  have h' : W.heap[b]? = some (.cells c t (0, 0)) := h
  simp [World.cell?, h', hk]
theorem ObjAt.a0 {x y : Value} (h : ObjAt W b #[x, y] t) : W.cell? ⟨b, 0, none⟩ = some x := h.get rfl
theorem ObjAt.a1 {x y : Value} (h : ObjAt W b #[x, y] t) : W.cell? ⟨b, 1, none⟩ = some y := h.get rfl
theorem ObjAt.b0 {x y z : Value} (h : ObjAt W b #[x, y, z] t) : W.cell? ⟨b, 0, none⟩ = some x := h.get rfl
theorem ObjAt.b1 {x y z : Value} (h : ObjAt W b #[x, y, z] t) : W.cell? ⟨b, 1, none⟩ = some y := h.get rfl
theorem ObjAt.b2 {x y z : Value} (h : ObjAt W b #[x, y, z] t) : W.cell? ⟨b, 2, none⟩ = some z := h.get rfl
theorem ObjAt.frozen (h : ObjAt W b c t) (k : Nat) : W.frozen? ⟨b, k, none⟩ = false := by
  have h' : W.heap[b]? = some (.cells c t (0, 0)) := h
  simp [World.frozen?, h']
end
theorem OwnT.obj {T : TypeId → Bool} {B : Nat} {β : Type} {b : Nat} {t : TypeId} (ht : T t = false) (f : β → Array Value) : OwnT T B (fun s W => ObjAt W b (f s) t) :=
  fun _ _ _ _ hs hg hr => hs.kept hg (not_turned hs ht hr)

theorem boxed_below {W W' : World} {B : Nat} {t : TypeId} {v : Value} (h : Boxed W B t v) (hb : Below W.heap.size W W') : Boxed W' B t v := (hb.block B h.lt).trans h
theorem boxed_other {W : World} {B C : Nat} {t : TypeId} {v : Value} (h : Boxed W B t v) (hne : B ≠ C) (u : Value) : Boxed (W.setCell ⟨C, 0, none⟩ u) B t v := h.kept (grownBy_setCell' _ _ _) (by simp; exact hne)
theorem two_boxes {W : World} {B C : Nat} {t t' : TypeId} {u v : Value} (hB : Boxed W B t u) (hC : Boxed W C t' v) (hne : B ≠ C) (x y : Value) :
    Boxed ((W.setCell ⟨B, 0, none⟩ x).setCell ⟨C, 0, none⟩ y) B t x ∧ Boxed ((W.setCell ⟨B, 0, none⟩ x).setCell ⟨C, 0, none⟩ y) C t' y :=
  ⟨boxed_other (hB.set x) hne y, (boxed_other hC (Ne.symm hne) x).set y⟩

theorem keeps_below {B : Nat} {W W' : World} (h : Below W.heap.size W W') : KeepsFrom B W W' :=
  ⟨h.size, fun k _ _ hk _ => (h.block k (Array.getElem?_eq_some_iff.1 hk).1).trans hk⟩
theorem kpt_below {T : TypeId → Bool} {Bs : Nat} {W W' : World} (hBs : Bs < W.heap.size) (h : Below W.heap.size W W') : Kpt T Bs W W' :=
  ⟨h.size, h.block Bs hBs, fun k _ hk _ => (h.block k (Array.getElem?_eq_some_iff.1 hk).1).trans hk⟩
end Go.Proofs.Ytjhppkjngifibaa

namespace Go.Proofs.Ytjhppkjngifibaa
open Go Go.RowKit
section
variable {n : Nat} {P : Program} {ops : Array Oper} {md : Region.Mode} {w : World}

theorem wpIn_of_still_wide {o : Oper} {a : Act} {K : Act → Prop} {K' : Act → World → Prop} {Q' : Exit → Act → World → Prop} (h : ∀ a, K a → K' a w) (hh : o.still P a w K) : o.wpIn Fence.wide n P a w K' Q' := by
  refine ⟨fun _ _ => trivial, ?_⟩
  rw [show Fence.wide.round = none from rfl, Oper.semAt_none]
  unfold Oper.still at hh
  generalize (execOp a.eval o).run P w = r at *
  cases r with
  | ok x w' =>
    cases x <;> simp only [Oper.stillUpon] at hh <;> simp only [Oper.uponIn]
    case value u =>
      obtain ⟨e1, e2⟩ := hh
      subst e1
      exact h _ e2
    case skip =>
      obtain ⟨e1, e2⟩ := hh
      subst e1
      exact h _ e2
    case enter f args =>
      obtain ⟨e1, v, hc, hn⟩ := hh
      subst e1
      have hc' : CallsIn Fence.wide (n - 1) P f args w' (fun e w'' => e = .returned v ∧ w'' = w') := callsIn_wide.2 hc
      refine ⟨(fun hd => (by cases hd)), hc'.mono ?_⟩
      rintro e w'' ⟨rfl, rfl⟩
      exact h _ hn
  | halt x w' => simp only [Oper.stillUpon] at hh

theorem wpOpIn_of_stOp {i : Nat} {a : Act} {K : Act → Prop} {K' : Act → World → Prop} {Q' : Exit → Act → World → Prop} (h : ∀ a, K a → K' a w) (hh : stOp P ops w i K a) : wpOpIn Fence.wide n P ops Q' i K' a w := by
  unfold stOp at hh
  unfold wpOpIn
  split
  · rename_i ho; simp only [ho] at hh; exact h _ hh
  · rename_i o ho
    simp only [ho] at hh
    split
    · rename_i hw; simp only [hw, if_true] at hh; exact wpIn_of_still_wide h hh
    · rename_i hw; simp only [hw] at hh; exact ⟨fun _ _ => trivial, h _ hh⟩

theorem wpAnyIn_of_head {m g : Nat} {L : Array Bool → Act → Prop} {Q' : Exit → Act → World → Prop} (hL : ∀ listed a, L listed a → wpAnyIn Fence.wide n P md ops Q' g listed a w) :
    ∀ (f : Nat) (listed : Array Bool) (a : Act), wpAnyL P md ops w m L f listed a → wpAnyIn Fence.wide n P md ops Q' (f + g) listed a w
  | 0, listed, a, h => by rw [Nat.zero_add]; exact hL _ _ h
  | f + 1, listed, a, h => by
    rw [show f + 1 + g = (f + g) + 1 by omega]
    exact ⟨fun h0 => absurd h0 h.1, fun i hi => wpOpIn_of_stOp (fun a' h' => wpAnyIn_of_head hL f _ a' h') (h.2 i hi).2⟩

theorem wpAnyIn_of_seq {F : Fence} {Q' : Exit → Act → World → Prop} : ∀ (l : List Oper) (k : Nat) (listed : Array Bool) (a : Act) (w : World), (∀ j, l[j]? = ops[k + j]?) →
    Region.seqB md ops l.length k listed = true → wpListIn F n P ops Q' l a w → wpAnyIn F n P md ops Q' l.length listed a w
  | [], _, _, _, _, _, hB, h => ⟨by simpa [Region.seqB] using hB, h⟩
  | o :: l, k, listed, a, w, hl, hB, h => by
    have h0 : ops[k]? = some o := by simpa using (hl 0).symm
    simp only [List.length_cons, Region.seqB, Bool.and_eq_true, decide_eq_true_eq] at hB
    refine ⟨fun h1 => (by rw [hB.1] at h1; cases h1), fun i hi => ?_⟩
    rw [hB.1] at hi
    have hik : i = k := by simpa using hi
    subst hik
    have hw : wpOpIn F n P ops Q' i (wpListIn F n P ops Q' l) a w := by unfold wpOpIn; simp only [h0]; exact h
    exact wpOpIn_mono (fun a' w' h' => wpAnyIn_of_seq l (i + 1) _ a' w' (fun j => by have := hl (j + 1); simpa [Nat.add_assoc, Nat.add_comm 1 j] using this) hB.2 h') hw

theorem wpIn_region_still_tail {id : Nat} {Q : Exit → Act → World → Prop} {a : Act} {w : World} {l : List Oper} (m : Nat) (hm : P.follows .mixedOrders = true) (hB : Region.lexTailB .any l.toArray m = true)
    (h : wpStill P l.toArray { w with drawn := w.drawn + 1 } (fun a' => wpListIn Fence.wide n P l.toArray Q (l.drop m) a' { w with drawn := w.drawn + 1 }) (l.take m) a) : (Code.region id l.toArray true).wpIn Fence.wide n P Q a w := by
  simp only [Region.lexTailB, Bool.and_eq_true, decide_eq_true_eq] at hB
  obtain ⟨⟨⟨⟨hsel, hn⟩, hs⟩, hc⟩, hlex⟩ := hB
  have hn' : m < l.length := by simpa using hn
  have htl : (l.take m).length = m := by simp; omega
  have hdl : (l.drop m).length = l.toArray.size - m := by simp
  have inv0 : HeadInv .any l.toArray m (Array.replicate l.toArray.size false) :=
    ⟨by simp, fun j oj _ hl => (by rw [getD_replicate_false] at hl; cases hl), fun t _ ht => getD_in (by simpa using ht) (getD_replicate_false _ _)⟩
  have H := wpAnyL_lex (md := .any) (g := l.toArray.size - m) hsel hs hc hn (l.take m) 0 _ a (fun j hj => by
    have hj' : j < m := by rw [htl] at hj; exact hj
    simp [hj']) (by simpa using htl) inv0 (by rw [htl]; exact hlex) h
  refine wpIn_region_any hm ?_
  have := wpAnyIn_of_head (n := n) (Q' := Q) (g := l.toArray.size - m) (fun listed a' hL => by
    have := wpAnyIn_of_seq (F := Fence.wide) (n := n) (md := .any) (Q' := Q) (l.drop m) m listed a' { w with drawn := w.drawn + 1 } (fun j => by simp [List.getElem?_drop]) (by rw [hdl]; exact hL.1) hL.2
    rwa [hdl] at this) _ _ _ H
  rw [htl, show m + (l.toArray.size - m) = l.toArray.size by omega] at this
  exact this
end
end Go.Proofs.Ytjhppkjngifibaa
