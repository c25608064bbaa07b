/- Layer 8: marks of loops that have ended; chains that end, plainly. -/
import Derived.Test.YtbkpokipibgdfaaS8
namespace Go.Proofs.Ytbkpokipibgdfaa
open Go.RowKit Go.Lib Go.Maps
set_option linter.unusedVariables false

/-- The marks of loops that have ended. -/
def mkD (D : Nat) : Deferred := { target := .collected D, args := #[] }
def Marks (lo : Nat) (Ds : List Nat) (W : World) : Prop := Ds.Nodup ∧ ∀ D ∈ Ds, lo ≤ D ∧ W.heap[D]? = some (.deferred (some []))
theorem leaves_marks {F : Fence} {n : Nat} {P : Program} {fn : Func} {tmps : Array Value} {R : Ending → World → Prop} {lo : Nat} (K : World → Prop) (hK : ∀ W D, K W → lo ≤ D → W.heap[D]? = some (.deferred (some [])) → K (W.putObj D (.deferred none)))
    (hR : ∀ W, K W → LeavesIn F n P fn tmps R [] .returning W) : ∀ (Ds : List Nat) (W : World), K W → Marks lo Ds W → LeavesInM F n P fn tmps R (Ds.map mkD) .returning W := by
  intro Ds
  induction Ds with
  | nil => intro W h _; exact hR W h
  | cons D Ds ih =>
    intro W h hM
    obtain ⟨h1, h2⟩ := hM
    obtain ⟨h3, h4⟩ := h2 D (List.mem_cons_self ..)
    refine ⟨by simp, .inl ⟨D, _, rfl, run_takeDeferred h4, ih _ (hK W D h h3 h4) ⟨(List.nodup_cons.1 h1).2, fun D' hD' => ?_⟩⟩⟩
    obtain ⟨h5, h6⟩ := h2 D' (List.mem_cons_of_mem _ hD')
    have hne : D' ≠ D := fun e => (List.nodup_cons.1 h1).1 (e ▸ hD')
    exact ⟨h5, (World.putObj_heap_other hne).trans h6⟩
theorem Marks.lt {lo : Nat} {Ds : List Nat} {W : World} (h : Marks lo Ds W) : ∀ D ∈ Ds, D < W.heap.size := fun D hD => (Array.getElem?_eq_some_iff.1 (h.2 D hD).2).1
theorem Marks.grown {lo : Nat} {Ds : List Nat} {W W' : World} {row : Option Nat} (h : Marks lo Ds W) (hg : W.grownBy W' row) (hr : ∀ D ∈ Ds, some D ≠ row) : Marks lo Ds W' :=
  ⟨h.1, fun D hD => ⟨(h.2 D hD).1, (hg.block D (h.lt D hD) (hr D hD)).trans (h.2 D hD).2⟩⟩
theorem Marks.alloc {lo : Nat} {Ds : List Nat} {W : World} (h : Marks lo Ds W) (o : Obj) : Marks lo Ds (W.alloc o) := h.grown (World.grownBy_alloc W o none) (fun _ _ e => by cases e)
theorem Marks.below {lo : Nat} {Ds : List Nat} {W W' : World} (h : Marks lo Ds W) (hb : Below W.heap.size W W') : Marks lo Ds W' :=
  h.grown (grown_below hb rfl) (fun _ _ e => by cases e)
theorem Marks.snoc {lo D : Nat} {Ds : List Nat} {W : World} (h : Marks lo Ds W) (hD : lo ≤ D) (hK : W.heap[D]? = some (.deferred (some []))) (hn : D ∉ Ds) : Marks lo (D :: Ds) W :=
  ⟨List.nodup_cons.2 ⟨hn, h.1⟩, fun D' hD' => by
    rcases List.mem_cons.1 hD' with rfl | hD'
    · exact ⟨hD, hK⟩
    · exact h.2 D' hD'⟩
theorem own_marks {T : TypeId → Bool} {B : Nat} {β : Type} {lo : Nat} {Ds : List Nat} (h : ∀ D ∈ Ds, D < B) : OwnT T B (fun (_ : β) W => Marks lo Ds W) := by
  rintro s A C row hM hg hr
  exact hM.grown hg (fun D hD e => by have := (hr D e.symm).1; have := h D hD; omega)
theorem below_putM {B : Nat} {w W : World} {D : Nat} (h : Below B w W) (hD : B ≤ D) (o : Obj) : Below B w (W.putObj D o) :=
  ⟨h.os, h.tape, h.output, by have := h.size; simpa [World.putObj] using this, fun k hk => (World.putObj_heap_other (by omega)).trans (h.block k hk)⟩
theorem ownsRow_putM {w : World} {base : Nat} {v : Value} {n : Nat} {xs : List Value} {e : TypeId} {sz : Nat} (h : w.ownsRow base e sz v n xs) {D : Nat} {o o' : Obj} (hD : w.heap[D]? = some o') (ho : o'.isCells = false) : (w.putObj D o).ownsRow base e sz v n xs := by
  refine h.kept (grownBy_putObj' w D o) ?_
  rcases h.2 with ⟨rfl, _⟩ | ⟨g, cap, cur, rfl, _, hg, _⟩
  · exact .inl rfl
  · refine .inr fun e => ?_
    have : g = D := by simpa [Value.ownBlock] using e
    subst this
    rw [hg] at hD; cases hD; cases ho
theorem obj_putM {w : World} {b : Nat} {c : Array Value} {t : TypeId} (h : ObjAt w b c t) {D : Nat} {o o' : Obj} (hD : w.heap[D]? = some o') (ho : o'.isCells = false) : ObjAt (w.putObj D o) b c t := by
  refine h.kept (grownBy_putObj' w D o) fun e => ?_
  have : b = D := by simpa using e
  subst this
  have h' : w.heap[b]? = some (.cells c t (0, 0)) := h
  rw [h'] at hD; cases hD; cases ho
theorem grown_set (W : World) (b i : Nat) (u : Value) : W.grownBy (W.setCell ⟨b, i, none⟩ u) (some b) :=
  ⟨rfl, rfl, rfl, by simp [World.setCell], fun k hk hne => Below.heap_setCell W ⟨b, i, none⟩ u k (by rintro rfl; exact hne rfl)⟩
theorem marks_set {lo b : Nat} {Ds : List Nat} {W : World} (h : Marks lo Ds W) {c : Array Value} {t : TypeId} (ho : ObjAt W b c t) (i : Nat) (u : Value) : Marks lo Ds (W.setCell ⟨b, i, none⟩ u) := by
  refine h.grown (grown_set _ _ _ _) fun D hD e => ?_
  have : D = b := by simpa using e
  subst this
  have h' : W.heap[D]? = some (.cells c t (0, 0)) := ho
  have := (h.2 D hD).2
  rw [h'] at this; cases this

/-- n steps along a chain. -/
def itr (l : List St) : Nat → Option Nat → Option Nat
  | 0, o => o
  | n + 1, o => itr l n (o.bind (stp l))
theorem itr_none (l : List St) (n : Nat) : itr l n none = none := by
  induction n with
  | zero => rfl
  | succ n ih => exact ih
theorem itr_add (l : List St) (a b : Nat) (o : Option Nat) : itr l (a + b) o = itr l b (itr l a o) := by
  induction a generalizing o with
  | zero => rw [Nat.zero_add]; rfl
  | succ a ih => rw [Nat.succ_add]; exact ih _
/-- A chain that ends. -/
def Ends (l : List St) (o : Option Nat) : Prop := ∃ n, itr l n o = none
theorem Ends.none (l : List St) : Ends l none := ⟨0, rfl⟩
theorem Ends.step {l : List St} {k : Nat} : Ends l (some k) ↔ Ends l (stp l k) := by
  constructor
  · rintro ⟨n, h⟩
    cases n with
    | zero => cases h
    | succ n => exact ⟨n, h⟩
  · rintro ⟨n, h⟩
    exact ⟨n + 1, h⟩
theorem ChP.init {l : List St} {o : Option Nat} {pre : List Nat} {k : Nat} (h : ChP l o (pre ++ [k])) : ChP l o pre ∧ nxt l o pre = some k :=
  ⟨fun q x t e => h q x (t ++ [k]) (by rw [e]; simp), h pre k [] rfl⟩
theorem rev_ind {p : List Nat → Prop} (h0 : p []) (h1 : ∀ q k, p q → p (q ++ [k])) (l : List Nat) : p l := by
  have : ∀ n (l : List Nat), l.length = n → p l := by
    intro n
    induction n with
    | zero => intro l hl; rw [List.eq_nil_of_length_eq_zero hl]; exact h0
    | succ n ih =>
      intro l hl
      rcases List.eq_nil_or_concat l with rfl | ⟨q, k, rfl⟩
      · cases hl
      · rw [List.concat_eq_append] at hl ⊢
        rw [List.length_append] at hl
        exact h1 q k (ih q (by simpa using hl))
  exact this _ l rfl
theorem ends_back {l : List St} {o : Option Nat} : ∀ pre, ChP l o pre → Ends l (nxt l o pre) → Ends l o ∧ ∀ x ∈ pre, Ends l (some x) := by
  refine rev_ind (fun _ h => ⟨h, fun x hx => by cases hx⟩) ?_
  intro q k ih hc he
  obtain ⟨h1, h2⟩ := hc.init
  rw [nxt_snoc] at he
  have hk := Ends.step.2 he
  obtain ⟨i1, i2⟩ := ih h1 (by rw [h2]; exact hk)
  refine ⟨i1, fun x hx => ?_⟩
  rcases List.mem_append.1 hx with hx | hx
  · exact i2 x hx
  · rw [List.mem_singleton.1 hx]; exact hk
theorem ends_fore {l : List St} {o : Option Nat} (h : Ends l o) : ∀ pre, ChP l o pre → Ends l (nxt l o pre) := by
  refine rev_ind (fun _ => h) ?_
  intro q k ih hc
  obtain ⟨h1, h2⟩ := hc.init
  rw [nxt_snoc]
  exact Ends.step.1 (by rw [← h2]; exact ih h1)
theorem itr_ch {l : List St} {o : Option Nat} {q : List Nat} {x : Nat} : ∀ t, ChP l o (q ++ x :: t) → itr l (t.length + 1) (some x) = nxt l o (q ++ x :: t) := by
  refine rev_ind (fun _ => (nxt_snoc l o q x).symm) ?_
  intro t y ih hc
  have e : q ++ x :: (t ++ [y]) = (q ++ x :: t) ++ [y] := by simp
  rw [e] at hc ⊢
  obtain ⟨h1, h2⟩ := hc.init
  rw [nxt_snoc, List.length_append, show t.length + [y].length + 1 = (t.length + 1) + 1 from rfl, itr_add, ih h1, h2]
  rfl
theorem not_ends {l : List St} {o : Option Nat} {pre : List Nat} {x : Nat} (hc : ChP l o pre) (hn : nxt l o pre = some x) (hx : x ∈ pre) : ¬ Ends l o := by
  intro he
  obtain ⟨q, t, rfl⟩ := List.append_of_mem hx
  have h1 := itr_ch t hc
  rw [hn] at h1
  have h2 : Ends l (some x) := (ends_back _ hc (ends_fore he _ hc)).2 x hx
  obtain ⟨n, h3⟩ := h2
  have key : ∀ n, itr l n (some x) ≠ none := by
    intro n
    induction n using Nat.strongRecOn with
    | ind n ih =>
      intro h
      by_cases hlt : n < t.length + 1
      · have := itr_add l n (t.length + 1 - n) (some x)
        rw [show n + (t.length + 1 - n) = t.length + 1 by omega, h, itr_none, h1] at this
        cases this
      · have := itr_add l (t.length + 1) (n - (t.length + 1)) (some x)
        rw [show t.length + 1 + (n - (t.length + 1)) = n by omega, h, h1] at this
        exact ih (n - (t.length + 1)) (by omega) this.symm
  exact key n h3
theorem nodup_le : ∀ (m : Nat) (l : List Nat), l.Nodup → (∀ x ∈ l, x < m) → l.length ≤ m := by
  intro m
  induction m with
  | zero =>
    intro l _ h
    cases l with
    | nil => exact Nat.le_refl _
    | cons x l => exact absurd (h x (by simp)) (Nat.not_lt_zero _)
  | succ m ih =>
    intro l hn h
    by_cases hm : m ∈ l
    · have h1 := List.length_erase_of_mem hm
      have h2 := ih (l.erase m) (hn.erase m) (fun x hx => by
        have hx1 := List.mem_of_mem_erase hx
        have hx2 : x ≠ m := fun e => by subst e; exact (List.Nodup.not_mem_erase hn) hx
        have := h x hx1
        omega)
      omega
    · have := ih l hn (fun x hx => by
        have := h x hx
        have hx2 : x ≠ m := fun e => by subst e; exact hm hx
        omega)
      omega
/-- What the walks have found ahead of the i-th. -/
def WInv (l : List St) (i : Nat) (ws : List Nat) : Prop := ws.length = l.length ∧ (∀ j (h : j < ws.length), ws[j] ≤ i ∧ (ws[j] ≠ 0 → Ends l (some j))) ∧ ∀ j (h : j < ws.length), j < i → ws[j] ≠ 0
theorem WInv.start (l : List St) : WInv l 0 (List.replicate l.length 0) := ⟨by simp, fun j h => by simp, fun j _ h => absurd h (Nat.not_lt_zero _)⟩
theorem WInv.all {l : List St} {ws : List Nat} (h : WInv l l.length ws) : ∀ j, j < l.length → Ends l (some j) := fun j hj => (h.2.1 j (by rw [h.1]; exact hj)).2 (h.2.2 j (by rw [h.1]; exact hj) hj)
/-- What one walk has done. -/
structure Inn (l : List St) (i : Nat) (ws pre ws' : List Nat) : Prop where
  len : ws'.length = l.length
  hit : ∀ j (h : j < ws'.length), j ∈ pre → ws'[j] = i + 1
  old : ∀ j (h : j < ws'.length) (h' : j < ws.length), j ∉ pre → ws'[j] = ws[j]
  nod : pre.Nodup
theorem Inn.start {l : List St} {i : Nat} {ws : List Nat} (h : ws.length = l.length) : Inn l i ws [] ws := ⟨h, (fun j _ hj => by cases hj), fun j _ _ _ => rfl, List.nodup_nil⟩
theorem Inn.seen {l : List St} {i : Nat} {ws pre ws' : List Nat} (h : Inn l i ws pre ws') (hw : WInv l i ws) {x : Nat} (hx : x < ws'.length) (e : ws'[x] = i + 1) : x ∈ pre := by
  apply Classical.byContradiction
  intro hn
  have hx' : x < ws.length := by rw [hw.1, ← h.len]; exact hx
  have h1 := h.old x hx hx' hn
  have h2 := (hw.2.1 x hx').1
  omega
theorem Inn.elder {l : List St} {i : Nat} {ws pre ws' : List Nat} (h : Inn l i ws pre ws') (hw : WInv l i ws) {x : Nat} (hx : x < ws'.length) (e : ws'[x] ≠ i + 1) (e0 : ws'[x] ≠ 0) : Ends l (some x) := by
  have hn : x ∉ pre := fun hm => e (h.hit x hx hm)
  have hx' : x < ws.length := by rw [hw.1, ← h.len]; exact hx
  have h1 := h.old x hx hx' hn
  exact (hw.2.1 x hx').2 (by rw [← h1]; exact e0)
theorem Inn.step {l : List St} {i : Nat} {ws pre ws' : List Nat} (h : Inn l i ws pre ws') {x : Nat} (hx : x < ws'.length) (e : ws'[x] = 0) : Inn l i ws (pre ++ [x]) (ws'.set x (i + 1)) := by
  have hn : x ∉ pre := fun hm => by have := h.hit x hx hm; omega
  refine ⟨by rw [List.length_set]; exact h.len, fun j hj hm => ?_, fun j hj hj' hm => ?_, ?_⟩
  · rw [List.length_set] at hj
    rw [List.getElem_set]
    by_cases e1 : x = j
    · rw [if_pos e1]
    · rw [if_neg e1]
      rcases List.mem_append.1 hm with hm | hm
      · exact h.hit j hj hm
      · exact absurd (List.mem_singleton.1 hm).symm e1
  · rw [List.length_set] at hj
    have e1 : x ≠ j := fun e => hm (by rw [e]; simp)
    rw [List.getElem_set, if_neg e1]
    exact h.old j hj hj' (fun hp => hm (List.mem_append_left _ hp))
  · rw [List.nodup_append]
    exact ⟨h.nod, by simp, fun a ha b hb e => by rw [List.mem_singleton] at hb; exact hn (by rw [← hb, ← e]; exact ha)⟩
theorem Inn.done {l : List St} {i : Nat} {ws pre ws' : List Nat} (h : Inn l i ws pre ws') (hw : WInv l i ws) (he : ∀ x ∈ pre, Ends l (some x)) (hi : i ∈ pre ∨ ∀ h : i < ws.length, ws[i] ≠ 0) : WInv l (i + 1) ws' := by
  refine ⟨h.len, fun j hj => ?_, fun j hj hji => ?_⟩
  · have hj' : j < ws.length := by rw [hw.1, ← h.len]; exact hj
    by_cases hm : j ∈ pre
    · rw [h.hit j hj hm]; exact ⟨Nat.le_refl _, fun _ => he j hm⟩
    · rw [h.old j hj hj' hm]
      exact ⟨Nat.le_succ_of_le (hw.2.1 j hj').1, (hw.2.1 j hj').2⟩
  · have hj' : j < ws.length := by rw [hw.1, ← h.len]; exact hj
    by_cases hm : j ∈ pre
    · rw [h.hit j hj hm]; omega
    · rw [h.old j hj hj' hm]
      by_cases e : j = i
      · subst e
        rcases hi with hi | hi
        · exact absurd hi hm
        · exact hi hj'
      · exact hw.2.2 j hj' (by omega)
/-- Do all chains end? -/
noncomputable def endB (l : List St) : Bool := @decide (∀ j, j < l.length → Ends l (some j)) (Classical.propDecidable _)
theorem endB_yes {l : List St} (h : ∀ j, j < l.length → Ends l (some j)) : endB l = true := by unfold endB; exact @decide_eq_true _ (Classical.propDecidable _) h
theorem endB_no {l : List St} {j : Nat} (hj : j < l.length) (h : ¬ Ends l (some j)) : endB l = false := by unfold endB; exact @decide_eq_false _ (Classical.propDecidable _) (fun k => h (k j hj))
end Go.Proofs.Ytbkpokipibgdfaa
