/- Layer 8, plainly: the list in which a style has another base. -/
import Derived.Test.YtbkpokipibgdfaaUI
namespace Go.Proofs.Ytbkpokipibgdfaa
open Go.Lib
set_option linter.unusedVariables false

/-- The style with its new base. -/
noncomputable def rbF (l : List St) (i base : Int) (x : St) : St := ⟨x.id, x.kind, x.name, base, x.next, keyT (ovG (effI l base) (effI l i)) tabP⟩
noncomputable def rbL (l : List St) (i : Int) (k : Nat) (base : Int) : List St := l.set k (rbF l i base (l.getD k default))
/-- What must hold for another base. -/
structure Rb (l : List St) (i : Int) (k : Nat) (base : Int) : Prop where
  good : Good l
  lt : k < l.length
  at' : plc l i = some k
  ok : base = 0 ∨ hasB l ((l.getD k default).kind) base = true
  free : k ∉ chn l base
section
variable {l : List St} {i base : Int} {k : Nat}
theorem getD_at (hk : k < l.length) : l.getD k default = l[k] := by rw [List.getD_eq_getElem?_getD, List.getElem?_eq_getElem hk]; rfl
theorem rb_len : (rbL l i k base).length = l.length := by unfold rbL; rw [List.length_set]
theorem rb_get (hk : k < l.length) {q : Nat} (hq : q < (rbL l i k base).length) (hql : q < l.length) : (rbL l i k base)[q] = if q = k then rbF l i base l[q] else l[q] := by
  have h1 : (rbL l i k base)[q]? = some (if q = k then rbF l i base l[q] else l[q]) := by
    unfold rbL
    by_cases e : q = k
    · subst e
      rw [if_pos rfl, List.getElem?_set_self hk, getD_at hk]
    · rw [if_neg e, List.getElem?_set_ne (fun e' => e e'.symm), List.getElem?_eq_getElem hql]
  rw [List.getElem?_eq_getElem hq] at h1
  exact Option.some.inj h1
theorem rb_id (hk : k < l.length) {q : Nat} (hq : q < (rbL l i k base).length) (hql : q < l.length) : (rbL l i k base)[q].id = l[q].id ∧ (rbL l i k base)[q].kind = l[q].kind ∧ (rbL l i k base)[q].name = l[q].name ∧ (rbL l i k base)[q].next = l[q].next := by
  rw [rb_get hk hq hql]
  split <;> exact ⟨rfl, rfl, rfl, rfl⟩
theorem plc_ids {l m : List St} (h : l.map (·.id) = m.map (·.id)) (b : Int) : plc l b = plc m b := by
  unfold plc
  have e : ∀ l : List St, l.findIdx? (isId b) = (l.map (·.id)).findIdx? (fun z => z == b) := by
    intro l
    rw [List.findIdx?_map]
    rfl
  rw [e, e, h]
theorem rb_ids (hk : k < l.length) : (rbL l i k base).map (·.id) = l.map (·.id) := by
  apply List.ext_getElem (by simp [rb_len])
  intro q h1 h2
  have hq : q < (rbL l i k base).length := by simpa using h1
  have hql : q < l.length := by simpa using h2
  simp only [List.getElem_map]
  exact (rb_id hk hq hql).1
theorem rb_plc (hk : k < l.length) (b : Int) : plc (rbL l i k base) b = plc l b := plc_ids (rb_ids hk) b
theorem rb_has (hk : k < l.length) (kd b : Int) : hasB (rbL l i k base) kd b = hasB l kd b := by
  cases hp : plc l b with
  | none => rw [hasB_none hp, hasB_none ((rb_plc hk b).trans hp)]
  | some q =>
    obtain ⟨hq, _⟩ := plc_lt hp
    rw [hasB_some hp hq, hasB_some ((rb_plc hk b).trans hp) (by rw [rb_len]; exact hq), (rb_id hk (by rw [rb_len]; exact hq) hq).2.1]
theorem look_mem {l : List Pr} {p v : Int} (h : look l p = some v) : (p, v) ∈ l := by
  induction l with
  | nil => cases h
  | cons x l ih =>
    by_cases hx : x.1 = p
    · rw [← hx, look_same] at h
      cases h
      rw [← hx]
      simp
    · rw [look_other hx] at h
      exact List.mem_cons_of_mem _ (ih h)
/-- What the properties of a style of a kind are like. -/
def OkK (kd p v : Int) : Prop := fitsB (if (kd == 2) = true then 1 else 2) p = true ∧ valOf p v = 0 ∧ isSt (p, v) = false
theorem ck_iff {kd : Int} {ps : List Pr} (hs : Srt ps) : ckP kd ps = 0 ↔ ∀ y ∈ ps, OkK kd y.1 y.2 := by
  unfold ckP OkK
  constructor
  · intro h y hy
    by_cases h1 : stP ps = true
    · rw [if_pos h1] at h; omega
    rw [if_neg h1] at h
    have hst : isSt y = false := by
      cases hh : isSt y with
      | false => rfl
      | true => exact absurd (List.any_eq_true.2 ⟨y, hy, hh⟩) h1
    by_cases h2 : (kd == 2) = true
    · rw [if_pos h2] at h ⊢
      obtain ⟨a, b⟩ := chk_val (by omega) h y hy
      exact ⟨a, b, hst⟩
    · rw [if_neg h2] at h ⊢
      obtain ⟨a, b⟩ := chk_val (by omega) h y hy
      exact ⟨a, b, hst⟩
  · intro h
    have h1 : stP ps = false := by
      unfold stP
      rw [List.any_eq_false]
      intro y hy e
      have := (h y hy).2.2
      have e' : isSt (y.1, y.2) = true := e
      rw [this] at e'
      cases e'
    rw [if_neg (by simp [h1])]
    by_cases h2 : (kd == 2) = true
    · rw [if_pos h2]
      refine chk_of (by omega) hs fun y hy => ?_
      have := h y hy
      rw [if_pos h2] at this
      exact ⟨this.1, this.2.1⟩
    · rw [if_neg h2]
      refine chk_of (by omega) hs fun y hy => ?_
      have := h y hy
      rw [if_neg h2] at this
      exact ⟨this.1, this.2.1⟩
theorem eff_okK (h : Good l) {kd b : Int} (hb : b = 0 ∨ hasB l kd b = true) {p v : Int} (hv : look (effI l b) p = some v) : OkK kd p v := by
  rcases hb with rfl | hb
  · rw [effI_none h.zero] at hv; cases hv
  obtain ⟨h1, h2⟩ := chn_spec h b
  unfold effI at hv
  rw [effP_look h.inT] at hv
  obtain ⟨x, hx, e⟩ := List.exists_of_findSome?_eq_some hv
  have hkd := h.kinds hb _ h1 x hx
  have hxl := h1.lt x hx
  rw [getD_at hxl] at hkd
  rw [prsL_at hxl] at e
  have hck := fld_ck hxl (h.fld x hxl)
  rw [hkd] at hck
  have hs := (h.inT x).1
  rw [prsL_at hxl] at hs
  exact (ck_iff hs).1 hck _ (look_mem e)
theorem dflt_ok : ∀ r ∈ tabP, valOf r.1 r.2.2.2.2.2 = 0 := by decide +kernel
theorem okK_dflt {kd p v : Int} (h : OkK kd p v) : OkK kd p (rowZ p).2.2.2.2.2 := by
  obtain ⟨h1, h2, h3⟩ := h
  refine ⟨h1, ?_, h3⟩
  unfold fitsB at h1
  cases hr : rowOf p with
  | none => rw [hr] at h1; cases h1
  | some r =>
    have hr' := hr
    unfold rowOf at hr'
    have a1 := List.mem_of_find?_eq_some hr'
    have a2 : r.1 = p := by simpa using List.find?_some hr'
    rw [← a2, rowZ_row a1]
    exact dflt_ok r a1
theorem Rb.ck (h : Rb l i k base) (hk : k < l.length) : ckP l[k].kind (keyT (ovG (effI l base) (effI l i)) tabP) = 0 := by
  have hG := h.good
  have hi : hasB l l[k].kind i = true := by rw [hasB_some h.at' hk]; simp
  have hb := h.ok
  rw [getD_at hk] at hb
  rw [ck_iff (key_in _).1]
  intro y hy
  have hl := mem_look (key_in (ovG (effI l base) (effI l i))).1 hy
  rw [look_key] at hl
  by_cases hT : y.1 ∈ tabP.map (·.1)
  case neg => rw [if_neg hT] at hl; cases hl
  rw [if_pos hT] at hl
  unfold ovG at hl
  cases h1 : look (effI l i) y.1 with
  | some v =>
    cases h2 : look (effI l base) y.1 with
    | some w =>
      rw [h1, h2] at hl
      dsimp only at hl
      by_cases e : v ≠ w
      · rw [if_pos e] at hl; cases hl; exact eff_okK hG (.inr hi) h1
      · rw [if_neg e] at hl; cases hl
    | none => rw [h1, h2] at hl; cases hl; exact eff_okK hG (.inr hi) h1
  | none =>
    cases h2 : look (effI l base) y.1 with
    | some w =>
      rw [h1, h2] at hl
      dsimp only at hl
      by_cases e : w ≠ (rowZ y.1).2.2.2.2.2
      · rw [if_pos e] at hl
        injection hl with hl
        rw [← hl]
        exact okK_dflt (eff_okK hG hb h2)
      · rw [if_neg e] at hl; cases hl
    | none => rw [h1, h2] at hl; cases hl
theorem Rb.fld (h : Rb l i k base) : ∀ q, q < (rbL l i k base).length → fldK (rbL l i k base) q = 0 := by
  intro q hq
  have hk := h.lt
  have hql : q < l.length := by rw [← rb_len (i := i) (k := k) (base := base)]; exact hq
  obtain ⟨e1, e2, e3, e4⟩ := rb_id (i := i) (base := base) hk hq hql
  rw [fldK_at _ q hq, fld_parts, e1, e2, e3]
  have h0 := h.good.fld q hql
  rw [fldK_at l q hql, fld_parts] at h0
  obtain ⟨a1, a2, a3, a4, a5, a6⟩ := h0
  refine ⟨a1, ?_, a3, a4, ?_, ?_⟩
  · cases q with
    | zero => show (0 : Int) < _; omega
    | succ q =>
      have hq' : q < (rbL l i k base).length := by omega
      rw [lastI_succ _ q hq', (rb_id hk hq' (by omega)).1]
      exact h.good.up (by omega) hql (Nat.lt_succ_self q)
  · unfold seenT
    rw [List.any_eq_false]
    intro y hy
    obtain ⟨p, hpq, rfl⟩ := List.mem_iff_getElem.1 hy
    rw [List.length_take] at hpq
    have hp' : p < (rbL l i k base).length := by omega
    obtain ⟨_, b2, b3, _⟩ := rb_id (i := i) (base := base) hk hp' (by omega)
    rw [List.getElem_take, b2, b3]
    intro hd
    exact seen_all h.good (by omega) hql (show p < q by omega) (of_decide_eq_true hd)
  · rw [rb_get hk hq hql]
    by_cases e : q = k
    · subst e
      rw [if_pos rfl]
      exact h.ck hk
    · rw [if_neg e]; exact a6
theorem Rb.lnk (h : Rb l i k base) : ∀ q (hq : q < (rbL l i k base).length), lnkB (rbL l i k base) (rbL l i k base)[q] = false := by
  intro q hq
  have hk := h.lt
  have hql : q < l.length := by rw [← rb_len (i := i) (k := k) (base := base)]; exact hq
  have hl := h.good.lnk q hql
  unfold lnkB at hl ⊢
  rw [rb_has hk, rb_has hk]
  rw [rb_get hk hq hql]
  by_cases e : q = k
  · subst e
    rw [if_pos rfl]
    rw [Bool.or_eq_false_iff] at hl ⊢
    refine ⟨?_, hl.2⟩
    show (base != 0 && !hasB l l[q].kind base) = false
    have hb := h.ok
    rw [getD_at hk] at hb
    rcases hb with hb | hb
    · rw [hb]; rfl
    · rw [hb]; simp
  · rw [if_neg e]; exact hl
theorem Rb.stp (h : Rb l i k base) {q : Nat} (hq : q < l.length) : stp (rbL l i k base) q = if q = k then plc l base else plc l l[q].base := by
  rw [stp_at (by rw [rb_len]; exact hq), rb_plc h.lt, rb_get h.lt (by rw [rb_len]; exact hq) hq]
  by_cases e : q = k
  · rw [if_pos e, if_pos e]; rfl
  · rw [if_neg e, if_neg e]
theorem Rb.ends_free (h : Rb l i k base) : ∀ n b, k ∉ chn l b → (chn l b).length ≤ n → Ends (rbL l i k base) (plc l b) := by
  intro n
  induction n with
  | zero =>
    intro b _ hn
    cases hl : plc l b with
    | none => exact Ends.none _
    | some p => rw [chn_cons h.good (plc_lt hl).1 hl] at hn; simp at hn
  | succ n ih =>
    intro b hf hn
    cases hl : plc l b with
    | none => exact Ends.none _
    | some q =>
      obtain ⟨hq, _⟩ := plc_lt hl
      rw [chn_cons h.good hq hl] at hf hn
      rw [List.mem_cons] at hf
      have hqk : q ≠ k := fun e => hf (.inl e.symm)
      rw [Ends.step, h.stp hq, if_neg hqk]
      exact ih _ (fun hh => hf (.inr hh)) (by rw [List.length_cons] at hn; omega)
theorem Rb.ends_all (h : Rb l i k base) : ∀ n b, (chn l b).length ≤ n → Ends (rbL l i k base) (plc l b) := by
  have hk : Ends (rbL l i k base) (some k) := by
    rw [Ends.step, h.stp h.lt, if_pos rfl]
    exact h.ends_free _ base h.free (Nat.le_refl _)
  intro n
  induction n with
  | zero =>
    intro b hn
    cases hl : plc l b with
    | none => exact Ends.none _
    | some p => rw [chn_cons h.good (plc_lt hl).1 hl] at hn; simp at hn
  | succ n ih =>
    intro b hn
    cases hl : plc l b with
    | none => exact Ends.none _
    | some q =>
      obtain ⟨hq, _⟩ := plc_lt hl
      by_cases hqk : q = k
      · rw [hqk]; exact hk
      · rw [Ends.step, h.stp hq, if_neg hqk]
        rw [chn_cons h.good hq hl, List.length_cons] at hn
        exact ih _ (by omega)
theorem Rb.res (h : Rb l i k base) : Good (rbL l i k base) := by
  refine ⟨h.fld, h.lnk, fun q hq => ?_, by rw [rb_len]; exact h.good.len⟩
  have hql : q < l.length := by rw [← rb_len (i := i) (k := k) (base := base)]; exact hq
  have := h.ends_all _ l[q].id (Nat.le_refl _)
  rw [h.good.uni q hql] at this
  exact this
theorem Rb.eff_free (h : Rb l i k base) (p : Int) : ∀ n b, k ∉ chn l b → (chn l b).length ≤ n → look (effI (rbL l i k base) b) p = look (effI l b) p := by
  intro n
  induction n with
  | zero =>
    intro b _ hn
    cases hl : plc l b with
    | none => rw [effI_none hl, effI_none ((rb_plc h.lt b).trans hl)]
    | some q => rw [chn_cons h.good (plc_lt hl).1 hl] at hn; simp at hn
  | succ n ih =>
    intro b hf hn
    cases hl : plc l b with
    | none => rw [effI_none hl, effI_none ((rb_plc h.lt b).trans hl)]
    | some q =>
      obtain ⟨hq, _⟩ := plc_lt hl
      rw [chn_cons h.good hq hl] at hf hn
      rw [List.mem_cons] at hf
      have hqk : q ≠ k := fun e => hf (.inl e.symm)
      have hq' : q < (rbL l i k base).length := by rw [rb_len]; exact hq
      rw [effI_look h.res hq' ((rb_plc h.lt b).trans hl), effI_look h.good hq hl, rb_get h.lt hq' hq, if_neg hqk, ih _ (fun hh => hf (.inr hh)) (by rw [List.length_cons] at hn; omega)]
/-- The value of a key stays, and what was set is set. -/
def SameV (a b : List Pr) (p : Int) : Prop := (look a p).getD (rowZ p).2.2.2.2.2 = (look b p).getD (rowZ p).2.2.2.2.2 ∧ ((look a p).isSome = true → (look b p).isSome = true)
theorem Rb.eff_k (h : Rb l i k base) {p : Int} (hT : p ∈ tabP.map (·.1)) : ∀ b, plc l b = some k → SameV (effI l b) (effI (rbL l i k base) b) p := by
  intro b hl
  have hq := h.lt
  have hq' : k < (rbL l i k base).length := by rw [rb_len]; exact hq
  have e1 : effI l b = effI l i := by
    unfold effI
    rw [chn_cons h.good hq hl, chn_cons h.good hq h.at']
  have e2 : look (effI (rbL l i k base) b) p = (ovG (effI l base) (effI l i) p).or (look (effI l base) p) := by
    rw [effI_look h.res hq' ((rb_plc h.lt b).trans hl), rb_get h.lt hq' hq, if_pos rfl]
    show (look (keyT (ovG (effI l base) (effI l i)) tabP) p).or (look (effI (rbL l i k base) base) p) = _
    rw [look_key, if_pos hT, h.eff_free p _ base h.free (Nat.le_refl _)]
  unfold SameV
  rw [e1, e2]
  unfold ovG
  cases h1 : look (effI l i) p with
  | some v =>
    cases h2 : look (effI l base) p with
    | some w =>
      dsimp only
      by_cases e : v = w
      · rw [if_neg (by simp [e])]; exact ⟨by simp [e], fun _ => rfl⟩
      · rw [if_pos e]; exact ⟨rfl, fun _ => rfl⟩
    | none => exact ⟨rfl, fun _ => rfl⟩
  | none =>
    cases h2 : look (effI l base) p with
    | some w =>
      dsimp only
      by_cases e : w = (rowZ p).2.2.2.2.2
      · rw [if_neg (by simp [e])]; exact ⟨by simp [e], fun _ => rfl⟩
      · rw [if_pos e]; exact ⟨rfl, fun _ => rfl⟩
    | none => exact ⟨rfl, fun hh => by cases hh⟩
theorem Rb.eff_all (h : Rb l i k base) {p : Int} (hT : p ∈ tabP.map (·.1)) : ∀ n b, (chn l b).length ≤ n → SameV (effI l b) (effI (rbL l i k base) b) p := by
  intro n
  induction n with
  | zero =>
    intro b hn
    cases hl : plc l b with
    | none => rw [effI_none hl, effI_none ((rb_plc h.lt b).trans hl)]; exact ⟨rfl, fun hh => hh⟩
    | some q => rw [chn_cons h.good (plc_lt hl).1 hl] at hn; simp at hn
  | succ n ih =>
    intro b hn
    cases hl : plc l b with
    | none => rw [effI_none hl, effI_none ((rb_plc h.lt b).trans hl)]; exact ⟨rfl, fun hh => hh⟩
    | some q =>
      obtain ⟨hq, _⟩ := plc_lt hl
      by_cases hqk : q = k
      · rw [hqk] at hl; exact h.eff_k hT b hl
      · have hq' : q < (rbL l i k base).length := by rw [rb_len]; exact hq
        rw [chn_cons h.good hq hl, List.length_cons] at hn
        have := ih l[q].base (by omega)
        unfold SameV at this ⊢
        rw [effI_look h.res hq' ((rb_plc h.lt b).trans hl), effI_look h.good hq hl, rb_get h.lt hq' hq, if_neg hqk]
        cases look l[q].props p with
        | some v => exact ⟨rfl, fun _ => rfl⟩
        | none => exact this
end
end Go.Proofs.Ytbkpokipibgdfaa
