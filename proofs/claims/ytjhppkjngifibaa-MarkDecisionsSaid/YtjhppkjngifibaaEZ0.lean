/- Layer 23: a region that draws its order, by an invariant. -/
import Derived.Test.YtjhppkjngifibaaG3
namespace Go.Proofs.Ytjhppkjngifibaa
open Go.RowKit Go.Lib
set_option linter.unusedVariables false

/-! ## A region that draws its order, by an invariant: one case for each operation, none for each order -/
/-- What an operation waits for. -/
def depsOf (o : Oper) : List Nat := (o.after.toList.filter (Region.binds .any)).map (·.on)
def backB (ops : Array Oper) : Bool := (List.range ops.size).all fun i => ((ops[i]?).map fun o => (depsOf o).all (fun j => decide (j < i))).getD true
abbrev lstd (listed : Array Bool) : Nat → Bool := fun i => listed.getD i false
/-- L and i. -/
def plus (L : Nat → Bool) (i : Nat) : Nat → Bool := fun j => if j = i then true else L j
theorem plus_same (L : Nat → Bool) (i : Nat) : plus L i i = true := by simp [plus]
theorem plus_other (L : Nat → Bool) {i j : Nat} (h : j ≠ i) : plus L i j = L j := by simp [plus, h]
/-- The case of one operation. -/
def StepI (P : Program) (Q : Exit → Act → World → Prop) (I : (Nat → Bool) → Act → World → Prop) (i : Nat) (o : Oper) (ops : Array Oper) : Prop :=
  ∀ (L : Nat → Bool) (a : Act) (w : World), I L a w → L i = false → (∀ j, (depsOf o).elem j = true → L j = true) → ∀ K' : Act → World → Prop, (∀ a' w', I (plus L i) a' w' → K' a' w') →
    if Region.wanted o (yielded ops a.tmps) = true then Oper.wp P o a w K' Q else K' (a.put o.dst undef) w
def StepsI (P : Program) (Q : Exit → Act → World → Prop) (I : (Nat → Bool) → Act → World → Prop) (ops : Array Oper) : Nat → List Oper → Prop
  | _, [] => True
  | i, o :: t => StepI P Q I i o ops ∧ StepsI P Q I ops (i + 1) t
theorem StepsI.at {P : Program} {Q : Exit → Act → World → Prop} {I : (Nat → Bool) → Act → World → Prop} {ops : Array Oper} : ∀ (l : List Oper) (k : Nat), StepsI P Q I ops k l → ∀ (j : Nat) (o : Oper), l[j]? = some o → StepI P Q I (k + j) o ops := by
  intro l
  induction l with
  | nil => intro k h j o e; simp at e
  | cons x t ih =>
    intro k h j o e
    cases j with
    | zero => simp only [List.getElem?_cons_zero, Option.some.injEq] at e; subst e; exact h.1
    | succ j => rw [List.getElem?_cons_succ] at e; have := ih (k + 1) h.2 j o e; rwa [show k + 1 + j = k + (j + 1) by omega] at this
/-- How many are not listed yet. -/
def left (n : Nat) (listed : Array Bool) : Nat := ((List.range n).filter (fun i => !lstd listed i)).length
theorem mem_ready {ops : Array Oper} {listed : Array Bool} (hl : listed.size = ops.size) {i : Nat} (h : i ∈ Region.ready .any ops listed) : i < ops.size ∧ lstd listed i = false ∧ ∃ o, ops[i]? = some o ∧ ∀ j, (depsOf o).elem j = true → lstd listed j = true := by
  unfold Region.ready at h
  rw [List.mem_filter, List.mem_range] at h
  obtain ⟨hi, h⟩ := h
  rw [Bool.and_eq_true] at h
  obtain ⟨h1, h2⟩ := h
  refine ⟨hi, ?_, ops[i], Array.getElem?_eq_getElem hi, ?_⟩
  · have hil : i < listed.size := by omega
    have : listed.getD i true = listed.getD i false := by simp [Array.getD, hil]
    show listed.getD i false = false
    rw [← this]; simpa using h1
  · intro j hj
    rw [Array.getElem?_eq_getElem hi] at h2
    simp only [Option.map_some, Option.getD_some] at h2
    rw [Array.all_eq_true_iff_forall_mem] at h2
    rw [List.elem_iff] at hj
    unfold depsOf at hj
    rw [List.mem_map] at hj
    obtain ⟨e, he, rfl⟩ := hj
    rw [List.mem_filter] at he
    have := h2 e (Array.mem_toList_iff.1 he.1)
    rw [he.2] at this
    simpa using this
theorem ready_nil {ops : Array Oper} {listed : Array Bool} (hl : listed.size = ops.size) (hb : backB ops = true) (h : Region.ready .any ops listed = []) : ∀ i, i < ops.size → lstd listed i = true := by
  intro i
  induction i using Nat.strongRecOn with
  | ind i ih =>
    intro hi
    by_cases hc : lstd listed i = true
    · exact hc
    · exfalso
      have hm : i ∈ Region.ready .any ops listed := by
        unfold Region.ready
        rw [List.mem_filter, List.mem_range]
        refine ⟨hi, ?_⟩
        rw [Bool.and_eq_true]
        have hil : i < listed.size := by omega
        have e : listed.getD i true = listed.getD i false := by simp [Array.getD, hil]
        refine ⟨by rw [e]; simpa using hc, ?_⟩
        rw [Array.getElem?_eq_getElem hi]
        simp only [Option.map_some, Option.getD_some]
        rw [Array.all_eq_true_iff_forall_mem]
        intro x hx
        unfold backB at hb
        rw [List.all_eq_true] at hb
        have hb2 := hb i (List.mem_range.2 hi)
        rw [Array.getElem?_eq_getElem hi] at hb2
        simp only [Option.map_some, Option.getD_some] at hb2
        rw [List.all_eq_true] at hb2
        cases hbi : Region.binds .any x with
        | false => rfl
        | true =>
          have hj : x.on < i := by
            have := hb2 x.on (by unfold depsOf; rw [List.mem_map]; exact ⟨x, List.mem_filter.2 ⟨Array.mem_toList_iff.2 hx, hbi⟩, rfl⟩)
            simpa using this
          have := ih x.on hj (by omega)
          simpa using this
      rw [h] at hm
      cases hm
theorem lstd_set {listed : Array Bool} {i : Nat} (h : i < listed.size) : lstd (listed.setIfInBounds i true) = plus (lstd listed) i := by
  funext j
  unfold plus lstd
  by_cases e : j = i
  · subst e; simp [Array.getD, h]
  · rw [if_neg e]
    simp only [Array.getD_eq_getD_getElem?]
    rw [Array.getElem?_setIfInBounds_ne (fun x => e x.symm)]
theorem filter_lt {l : List Nat} {p q : Nat → Bool} (hpq : ∀ x ∈ l, q x = true → p x = true) {i : Nat} (hi : i ∈ l) (hp : p i = true) (hq : q i = false) : (l.filter q).length < (l.filter p).length := by
  induction l with
  | nil => cases hi
  | cons x t ih =>
    have hle : (t.filter q).length ≤ (t.filter p).length := by
      clear ih hi
      induction t with
      | nil => simp
      | cons y t ih2 =>
        have h1 := hpq y (by simp)
        have h2 := ih2 (fun z hz => hpq z (by rcases List.mem_cons.1 hz with e | e <;> simp [e]))
        by_cases c1 : q y = true
        · rw [List.filter_cons_of_pos c1, List.filter_cons_of_pos (h1 c1)]; simp; omega
        · rw [List.filter_cons_of_neg c1]
          by_cases c2 : p y = true
          · rw [List.filter_cons_of_pos c2]; simp; omega
          · rw [List.filter_cons_of_neg c2]; exact h2
    rcases List.mem_cons.1 hi with e | e
    · subst e
      rw [List.filter_cons_of_neg (by rw [hq]; simp), List.filter_cons_of_pos hp]; simp; omega
    · have h2 := ih (fun z hz => hpq z (by simp [hz])) e
      by_cases c1 : q x = true
      · rw [List.filter_cons_of_pos c1, List.filter_cons_of_pos (hpq x (by simp) c1)]; simp; omega
      · rw [List.filter_cons_of_neg c1]
        by_cases c2 : p x = true
        · rw [List.filter_cons_of_pos c2]; simp; omega
        · rw [List.filter_cons_of_neg c2]; exact h2
theorem left_set {n : Nat} {listed : Array Bool} {i : Nat} (hn : listed.size = n) (hi : i < n) (h : lstd listed i = false) : left n (listed.setIfInBounds i true) < left n listed := by
  unfold left
  rw [lstd_set (by omega)]
  refine filter_lt (i := i) (fun x _ hx => ?_) (List.mem_range.2 hi) (by rw [h]; rfl) (by rw [plus_same]; rfl)
  unfold plus at hx
  split at hx
  · cases hx
  · exact hx
theorem any_inv {P : Program} {Q : Exit → Act → World → Prop} {ops : Array Oper} (hb : backB ops = true) (I : (Nat → Bool) → Act → World → Prop)
    (hs : StepsI P Q I ops 0 ops.toList) (he : ∀ L a w, I L a w → (∀ i, i < ops.size → L i = true) → Q .normal a w) :
    ∀ (fuel : Nat) (listed : Array Bool) (a : Act) (w : World), listed.size = ops.size → left ops.size listed ≤ fuel → I (lstd listed) a w → wpAny P .any ops Q fuel listed a w := by
  intro fuel
  induction fuel with
  | zero =>
    intro listed a w hl hf hI
    have hr : Region.ready .any ops listed = [] := by
      cases hc : Region.ready .any ops listed with
      | nil => rfl
      | cons x t =>
        have hm := mem_ready hl (i := x) (by rw [hc]; simp)
        have := left_set (n := ops.size) hl hm.1 hm.2.1
        omega
    exact ⟨hr, he _ _ _ hI (ready_nil hl hb hr)⟩
  | succ fuel ih =>
    intro listed a w hl hf hI
    refine ⟨fun hr => he _ _ _ hI (ready_nil hl hb hr), fun i hi => ?_⟩
    obtain ⟨h1, h2, o, ho, h3⟩ := mem_ready hl hi
    have hst := StepsI.at ops.toList 0 hs i o (by rw [Array.getElem?_toList]; exact ho)
    rw [Nat.zero_add] at hst
    refine wpOp_step ho (fun K' hK => hst _ a w hI h2 h3 K' (fun a' w' hI' => hK a' w' (ih _ a' w' (by simpa using hl) ?_ ?_)))
    · have := left_set (n := ops.size) hl h1 h2; omega
    · rw [lstd_set (by omega)]; exact hI'
theorem region_inv {P : Program} {id : Nat} {Q : Exit → Act → World → Prop} {ops : Array Oper} {a : Act} {w : World} (hm : P.follows .mixedOrders = true) (hb : backB ops = true) (I : (Nat → Bool) → Act → World → Prop)
    (h0 : I (fun _ => false) a w.drew) (hs : StepsI P Q I ops 0 ops.toList) (he : ∀ L a w, I L a w → (∀ i, i < ops.size → L i = true) → Q .normal a w) : (Code.region id ops true).wp P Q a w := by
  refine wp_region_any hm (any_inv hb I hs he _ _ _ _ (by simp) ?_ ?_)
  · unfold left
    exact Nat.le_trans (List.length_filter_le _ _) (by simp)
  · have : lstd (Array.replicate ops.size false) = fun _ => false := by
      funext j; unfold lstd; simp only [Array.getD_eq_getD_getElem?]
      by_cases h : j < ops.size
      · rw [Array.getElem?_replicate, if_pos h]; rfl
      · rw [Array.getElem?_replicate, if_neg h]; rfl
    rw [this]; exact h0
theorem StepsI.nil {P : Program} {Q : Exit → Act → World → Prop} {I : (Nat → Bool) → Act → World → Prop} {ops : Array Oper} {i : Nat} : StepsI P Q I ops i [] := trivial
theorem StepsI.cons {P : Program} {Q : Exit → Act → World → Prop} {I : (Nat → Bool) → Act → World → Prop} {ops : Array Oper} {i : Nat} {o : Oper} {t : List Oper} (h : StepI P Q I i o ops) (ht : StepsI P Q I ops (i + 1) t) : StepsI P Q I ops i (o :: t) := ⟨h, ht⟩
theorem region_inv2 (I : Act → (Nat → Bool) → Act → World → Prop) {P : Program} {id : Nat} {Q : Exit → Act → World → Prop} {ops : List Oper} {a : Act} {w : World} (hm : P.follows .mixedOrders = true) (hb : backB ops.toArray = true)
    (h0 : I a (fun _ => false) a w.drew) (hs : StepsI P Q (I a) ops.toArray 0 ops) (he : ∀ L a' w, I a L a' w → (∀ i, i < ops.length → L i = true) → Q .normal a' w) : (Code.region id ops.toArray true).wp P Q a w :=
  region_inv hm hb (I a) h0 hs (fun L a' w h h2 => he L a' w h (fun i hi => h2 i (by simpa using hi)))
theorem step_eq {P : Program} {Q : Exit → Act → World → Prop} {ops : Array Oper} {o : Oper} {K' : Act → World → Prop} {a a1 : Act} {w : World} (he : a = a1)
    (h : if Region.wanted o (yielded ops a1.tmps) = true then Oper.wp P o a1 w K' Q else K' (a1.put o.dst undef) w) : if Region.wanted o (yielded ops a.tmps) = true then Oper.wp P o a w K' Q else K' (a.put o.dst undef) w := by subst he; exact h
theorem end_eq {Q : Exit → Act → World → Prop} {a a1 : Act} {w : World} (he : a = a1) (h : Q .normal a1 w) : Q .normal a w := by subst he; exact h
end Go.Proofs.Ytjhppkjngifibaa
