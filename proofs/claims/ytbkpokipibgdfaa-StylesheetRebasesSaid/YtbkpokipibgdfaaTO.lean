/- Layer 8, plainly: properties of the table; merging. -/
import Derived.Test.YtbkpokipibgdfaaNM
import Derived.Test.YtbkpokipibgdfaaTM
namespace Go.Proofs.Ytbkpokipibgdfaa
open Go.Lib
set_option linter.unusedVariables false

/-- Sorted, with keys of the table. -/
def InT (l : List Pr) : Prop := Srt l ∧ ∀ x ∈ l, ∃ r ∈ tabP, r.1 = x.1
theorem sub_len : ∀ (T : List Int) (l : List Int), T.Pairwise (· < ·) → l.Pairwise (· < ·) → (∀ x ∈ l, x ∈ T) → l.length ≤ T.length := by
  intro T
  induction T with
  | nil =>
    intro l _ _ h
    cases l with
    | nil => exact Nat.le_refl _
    | cons x l => have := h x (by simp); cases this
  | cons t T ih =>
    intro l hT hl h
    obtain ⟨hT1, hT2⟩ := List.pairwise_cons.1 hT
    cases l with
    | nil => exact Nat.zero_le _
    | cons x l =>
      obtain ⟨hl1, hl2⟩ := List.pairwise_cons.1 hl
      by_cases hx : x = t
      · have := ih l hT2 hl2 (fun y hy => by
          have h1 := hl1 y hy
          have h2 := h y (List.mem_cons_of_mem _ hy)
          rcases List.mem_cons.1 h2 with e | e
          · omega
          · exact e)
        simp only [List.length_cons]
        omega
      · have hxT : x ∈ T := by
          rcases List.mem_cons.1 (h x (by simp)) with e | e
          · exact absurd e hx
          · exact e
        have hxt := hT1 x hxT
        have := ih (x :: l) hT2 hl (fun y hy => by
          rcases List.mem_cons.1 (h y hy) with e | e
          · rcases List.mem_cons.1 hy with e2 | e2
            · omega
            · have := hl1 y e2; omega
          · exact e)
        simp only [List.length_cons] at this ⊢
        omega
theorem tab_srt : (tabP.map (·.1)).Pairwise (· < ·) := by decide +kernel
theorem InT.len {l : List Pr} (h : InT l) : l.length ≤ 45 := by
  have := sub_len (tabP.map (·.1)) (l.map (·.1)) tab_srt (by rw [List.pairwise_map]; exact h.1) (by
    intro x hx
    obtain ⟨y, hy, rfl⟩ := List.mem_map.1 hx
    obtain ⟨r, hr, e⟩ := h.2 y hy
    exact List.mem_map.2 ⟨r, hr, e⟩)
  rw [List.length_map, List.length_map] at this
  exact this
theorem InT.nil : InT [] := ⟨List.Pairwise.nil, fun x hx => by cases hx⟩
theorem InT.merge {a b : List Pr} (ha : InT a) (hb : InT b) : InT (mergeL a b) := by
  refine ⟨srt_merge ha.1 hb.1, fun x hx => ?_⟩
  obtain ⟨z, hz, rfl⟩ := List.mem_map.1 hx
  rcases pairs_key a b z hz with ⟨y, hy, e⟩ | ⟨y, hy, e⟩
  · obtain ⟨r, hr, e2⟩ := ha.2 y hy
    exact ⟨r, hr, e2.trans e⟩
  · obtain ⟨r, hr, e2⟩ := hb.2 y hy
    exact ⟨r, hr, e2.trans e⟩
theorem lookL_merge {a b : List Pr} (ha : InT a) (hb : InT b) (p : Int) : look (mergeL a b) p = (look b p).or (look a p) := look_merge ha.1 hb.1 p
/-- The reference's merging, over the table's rows. -/
def rmgF (a b : List Pr) (r : Row) : Option Pr := ((look b r.1).or (look a r.1)).map fun v => (r.1, v)
def rmgT (a b : List Pr) (T : List Row) : List Pr := T.filterMap (rmgF a b)
theorem rmg_key {a b : List Pr} {T : List Row} {x : Pr} (hx : x ∈ rmgT a b T) : ∃ r ∈ T, r.1 = x.1 := by
  obtain ⟨r, hr, e⟩ := List.mem_filterMap.1 hx
  unfold rmgF at e
  obtain ⟨v, _, rfl⟩ := Option.map_eq_some_iff.1 e
  exact ⟨r, hr, rfl⟩
theorem rmg_srt (a b : List Pr) : ∀ T : List Row, (T.map (·.1)).Pairwise (· < ·) → Srt (rmgT a b T) := by
  intro T
  induction T with
  | nil => intro _; exact List.Pairwise.nil
  | cons t T ih =>
    intro h
    rw [List.map_cons, List.pairwise_cons] at h
    unfold rmgT
    rw [List.filterMap_cons]
    cases e : rmgF a b t with
    | none => exact ih h.2
    | some y =>
      refine List.pairwise_cons.2 ⟨fun z hz => ?_, ih h.2⟩
      obtain ⟨r, hr, e2⟩ := rmg_key (a := a) (b := b) hz
      unfold rmgF at e
      obtain ⟨v, _, rfl⟩ := Option.map_eq_some_iff.1 e
      rw [← e2]
      exact h.1 r.1 (List.mem_map.2 ⟨r, hr, rfl⟩)
theorem look_rmg (a b : List Pr) (p : Int) : ∀ T : List Row, look (rmgT a b T) p = if p ∈ T.map (·.1) then (look b p).or (look a p) else none := by
  intro T
  induction T with
  | nil => rfl
  | cons t T ih =>
    unfold rmgT at ih ⊢
    rw [List.filterMap_cons]
    by_cases hp : t.1 = p
    · rw [if_pos (by rw [List.map_cons, hp]; exact List.mem_cons_self)]
      cases e : (look b p).or (look a p) with
      | none =>
        have e2 : rmgF a b t = none := by unfold rmgF; rw [hp, e]; rfl
        rw [e2]
        dsimp only
        rw [ih, e]
        split <;> rfl
      | some v =>
        have e2 : rmgF a b t = some (t.1, v) := by unfold rmgF; rw [hp, e]; rfl
        rw [e2]
        dsimp only
        rw [← hp]
        exact look_same (t.1, v) _
    · have hm : (p ∈ (t :: T).map (·.1)) ↔ p ∈ T.map (·.1) := by
        rw [List.map_cons, List.mem_cons]
        exact ⟨fun h => h.resolve_left (fun e => hp e.symm), .inr⟩
      have fin : look (T.filterMap (rmgF a b)) p = if p ∈ (t :: T).map (·.1) then (look b p).or (look a p) else none := by
        rw [ih]
        by_cases h : p ∈ T.map (·.1)
        · rw [if_pos h, if_pos (hm.2 h)]
        · rw [if_neg h, if_neg (fun hh => h (hm.1 hh))]
      cases e : rmgF a b t with
      | none => exact fin
      | some y =>
        unfold rmgF at e
        obtain ⟨v, _, rfl⟩ := Option.map_eq_some_iff.1 e
        exact (look_other (x := (t.1, v)) hp).trans fin
theorem InT.out {l : List Pr} (h : InT l) {p : Int} (hp : p ∉ tabP.map (·.1)) : look l p = none := by
  rw [look_none]
  intro y hy e
  obtain ⟨r, hr, e2⟩ := h.2 y hy
  exact hp (List.mem_map.2 ⟨r, hr, e2.trans e⟩)
theorem rmg_merge {a b : List Pr} (ha : InT a) (hb : InT b) : rmgT a b tabP = mergeL a b := by
  refine look_ext (rmg_srt a b tabP tab_srt) (srt_merge ha.1 hb.1) fun p => ?_
  rw [look_rmg, lookL_merge ha hb]
  by_cases h : p ∈ tabP.map (·.1)
  · rw [if_pos h]
  · rw [if_neg h, ha.out h, hb.out h]; rfl
theorem rmg_take (a b : List Pr) (k : Nat) (h : k < tabP.length) : rmgT a b (tabP.take (k + 1)) = rmgT a b (tabP.take k) ++ (rmgF a b tabP[k]).toList := by
  unfold rmgT
  rw [List.take_succ_eq_append_getElem h, List.filterMap_append]
  congr 1
/-- The styles' properties. -/
def prsL (l : List St) (k : Nat) : List Pr := (l.getD k default).props
/-- The reference's effective properties. -/
def effR (l : List St) (xs : List Nat) : List Pr := xs.foldr (fun k acc => rmgT acc (prsL l k) tabP) []
theorem effP_in {l : List St} (h : ∀ k, InT (prsL l k)) (xs : List Nat) : InT (effP l xs) := by
  refine rev_ind (p := fun xs => InT (effP l xs)) InT.nil ?_ xs
  intro q k ih
  rw [effP_snoc]
  exact (h k).merge ih
theorem effP_look {l : List St} (h : ∀ k, InT (prsL l k)) (p : Int) (xs : List Nat) : look (effP l xs) p = xs.findSome? fun k => look (prsL l k) p := by
  refine rev_ind (p := fun xs => look (effP l xs) p = xs.findSome? fun k => look (prsL l k) p) rfl ?_ xs
  intro q k ih
  rw [effP_snoc, show (l.getD k default).props = prsL l k from rfl, lookL_merge (h k) (effP_in h q), ih, List.findSome?_append]
  congr 1
  simp [prsL]
theorem effR_cons (l : List St) (k : Nat) (xs : List Nat) : effR l (k :: xs) = rmgT (effR l xs) (prsL l k) tabP := rfl
theorem effR_in {l : List St} (h : ∀ k, InT (prsL l k)) (xs : List Nat) : InT (effR l xs) := by
  induction xs with
  | nil => exact InT.nil
  | cons k xs ih => rw [effR_cons, rmg_merge ih (h k)]; exact ih.merge (h k)
theorem effR_look {l : List St} (h : ∀ k, InT (prsL l k)) (p : Int) (xs : List Nat) : look (effR l xs) p = xs.findSome? fun k => look (prsL l k) p := by
  induction xs with
  | nil => rfl
  | cons k xs ih =>
    rw [effR_cons, rmg_merge (effR_in h xs) (h k), lookL_merge (effR_in h xs) (h k), ih, List.findSome?_cons]
    cases look (prsL l k) p <;> rfl
theorem eff_eq {l : List St} (h : ∀ k, InT (prsL l k)) (xs : List Nat) : effR l xs = effP l xs :=
  look_ext (effR_in h xs).1 (effP_in h xs).1 fun p => by rw [effR_look h, effP_look h]
/-- What is checked is sorted and in the table. -/
theorem chk_all {x : Int} {l : List Pr} (hx : 1 ≤ x ∧ x ≤ 10) (h : chkP x l = 0) : ∀ k, k < l.length → errK x l k = 0 := by
  intro k hk
  by_cases h0 : ∀ j, j < k → errK x l j = 0
  · by_cases h1 : errK x l k = 0
    · exact h1
    · exact absurd (chk_at hx hk h0 _ rfl h1) (by rw [h]; exact fun e => h1 e.symm)
  · exfalso
    have key : ∀ n, n ≤ k → ∀ j, j < n → errK x l j = 0 := by
      intro n
      induction n with
      | zero => intro _ j hj; omega
      | succ n ih =>
        intro hn j hj
        by_cases hj2 : j < n
        · exact ih (by omega) j hj2
        · have e : j = n := by omega
          subst e
          by_cases h1 : errK x l j = 0
          · exact h1
          · exact absurd (chk_at hx (by omega) (ih (by omega)) _ rfl h1) (by rw [h]; exact fun e => h1 e.symm)
    exact h0 (key k (Nat.le_refl _))
theorem errK_fit {x : Int} {l : List Pr} {k : Nat} (hk : k < l.length) (h : errK x l k = 0) : fitsB x l[k].1 = true := by
  cases hf : fitsB x l[k].1 with
  | true => rfl
  | false =>
    have := errK_4 (x := x) (l := l) (k := k) (y := l[k]) (by rw [List.getD_eq_getElem?_getD, List.getElem?_eq_getElem hk]; rfl) hf
    omega
theorem errK_lt {x : Int} {l : List Pr} {k : Nat} (hk : k + 1 < l.length) (h : errK x l (k + 1) = 0) : l[k].1 < l[k + 1].1 := by
  have hy : l.getD (k + 1) (0, 0) = l[k + 1] := by rw [List.getD_eq_getElem?_getD, List.getElem?_eq_getElem hk]; rfl
  have hz : l.getD k (0, 0) = l[k] := by rw [List.getD_eq_getElem?_getD, List.getElem?_eq_getElem (by omega)]; rfl
  have hf := errK_fit hk h
  rcases Int.lt_trichotomy l[k].1 l[k + 1].1 with h1 | h1 | h1
  · exact h1
  · have := errK_7 hy hz hf h1.symm; omega
  · have := errK_6 hy hz hf h1; omega
theorem chk_in {x : Int} {l : List Pr} (hx : 1 ≤ x ∧ x ≤ 10) (h : chkP x l = 0) : InT l := by
  have ha := chk_all hx h
  refine ⟨?_, fun y hy => ?_⟩
  · have key : ∀ d i (hi : i < l.length) (hj : i + (d + 1) < l.length), l[i].1 < l[i + (d + 1)].1 := by
      intro d
      induction d with
      | zero => intro i hi hj; exact errK_lt hj (ha _ hj)
      | succ d ih =>
        intro i hi hj
        have h1 := ih i hi (by omega)
        have h2 := errK_lt (k := i + (d + 1)) (l := l) (x := x) (by omega) (ha _ (by omega))
        have e : i + (d + 1) + 1 = i + (d + 1 + 1) := by omega
        simp only [e] at h2
        omega
    refine List.pairwise_iff_getElem.2 fun i j hi hj hij => ?_
    obtain ⟨d, rfl⟩ : ∃ d, j = i + (d + 1) := ⟨j - i - 1, by omega⟩
    exact key d i hi hj
  · obtain ⟨k, hk, rfl⟩ := List.mem_iff_getElem.1 hy
    have hf := errK_fit hk (ha k hk)
    unfold fitsB at hf
    cases hr : rowOf l[k].1 with
    | none => rw [hr] at hf; cases hf
    | some r =>
      unfold rowOf at hr
      have h1 := List.mem_of_find?_eq_some hr
      have h2 := List.find?_some hr
      exact ⟨r, h1, by simpa using h2⟩
theorem fld_ck {l : List St} {k : Nat} (hk : k < l.length) (h : fldK l k = 0) : ckP l[k].kind l[k].props = 0 := by
  rw [fldK_at l k hk] at h
  unfold fldX at h
  by_cases h1 : l[k].id < 1 ∨ 1073741824 < l[k].id
  · rw [if_pos h1] at h; omega
  rw [if_neg h1] at h
  by_cases h2 : l[k].id = lastI l k
  · rw [if_pos h2] at h; omega
  rw [if_neg h2] at h
  by_cases h3 : l[k].id < lastI l k
  · rw [if_pos h3] at h; omega
  rw [if_neg h3] at h
  by_cases h4 : l[k].kind ≠ 1 ∧ l[k].kind ≠ 2
  · rw [if_pos h4] at h; omega
  rw [if_neg h4] at h
  by_cases h5 : nmB l[k].name = false
  · rw [if_pos h5] at h; omega
  rw [if_neg h5] at h
  by_cases h6 : seenT l k l[k].kind l[k].name = true
  · rw [if_pos h6] at h; omega
  rw [if_neg h6] at h
  exact h
theorem ck_in {kd : Int} {ps : List Pr} (h : ckP kd ps = 0) : InT ps := by
  unfold ckP at h
  by_cases h1 : stP ps = true
  · rw [if_pos h1] at h; omega
  rw [if_neg h1] at h
  by_cases h2 : (kd == 2) = true
  · rw [if_pos h2] at h; exact chk_in (by omega) h
  · rw [if_neg h2] at h; exact chk_in (by omega) h
theorem Good.inT {l : List St} (h : Good l) (k : Nat) : InT (prsL l k) := by
  unfold prsL
  by_cases hk : k < l.length
  · rw [List.getD_eq_getElem?_getD, List.getElem?_eq_getElem hk]
    exact ck_in (fld_ck hk (h.fld k hk))
  · rw [List.getD_eq_getElem?_getD, List.getElem?_eq_none (by omega)]
    exact InT.nil
theorem Good.bnd {l : List St} (h : Good l) (i : Int) : Bnd l (plc l i) (l.length + 1) := fun pre hc => ⟨by have := (effP_in h.inT pre).len; omega, h.bound hc⟩
end Go.Proofs.Ytbkpokipibgdfaa
