/- Layer 8, plainly: effective properties as functions; groups. -/
import Derived.Test.YtbkpokipibgdfaaTR
import Derived.Test.YtbkpokipibgdfaaNL
namespace Go.Proofs.Ytbkpokipibgdfaa
open Go.Lib
set_option linter.unusedVariables false

/-- The chain of a style. -/
noncomputable def chn (l : List St) (i : Int) : List Nat := @dite _ (∃ xs, ChP l (plc l i) xs ∧ nxt l (plc l i) xs = none) (Classical.propDecidable _) (fun h => h.choose) (fun _ => [])
theorem chn_eq {l : List St} {i : Int} {xs : List Nat} (h1 : ChP l (plc l i) xs) (h2 : nxt l (plc l i) xs = none) : chn l i = xs := by
  have h : ∃ xs, ChP l (plc l i) xs ∧ nxt l (plc l i) xs = none := ⟨xs, h1, h2⟩
  unfold chn
  rw [dif_pos h]
  exact ch_uniq h.choose_spec.1 h.choose_spec.2 h1 h2
noncomputable def effI (l : List St) (i : Int) : List Pr := effP l (chn l i)
theorem effI_in {l : List St} (h : Good l) (i : Int) : InT (effI l i) := effP_in h.inT _
/-- Whether a key is of a group. -/
def inG (gr p : Int) : Bool := !((rowZ p).2.2.1 != gr)
theorem keepP_in {l : List Pr} (h : InT l) (gr : Int) : InT (keepP gr l) := ⟨h.1.filter _, fun x hx => h.2 x (List.mem_filter.1 hx).1⟩
theorem look_filter (f : Int → Bool) (p : Int) : ∀ l : List Pr, look (l.filter fun y => f y.1) p = if f p = true then look l p else none := by
  intro l
  induction l with
  | nil => simp [look]
  | cons x l ih =>
    by_cases hf : f x.1 = true
    · rw [List.filter_cons_of_pos (p := fun y : Pr => f y.1) hf]
      by_cases hx : x.1 = p
      · subst hx; rw [look_same, look_same, if_pos hf]
      · rw [look_other hx, look_other hx, ih]
    · rw [List.filter_cons_of_neg (p := fun y : Pr => f y.1) hf, ih]
      by_cases hx : x.1 = p
      · subst hx; rw [if_neg hf, if_neg hf]
      · rw [look_other hx]
theorem look_keep (gr : Int) (l : List Pr) (p : Int) : look (keepP gr l) p = if inG gr p = true then look l p else none := look_filter (inG gr) p l
/-- All keys are of a group. -/
def AllG (gr : Int) (l : List Pr) : Prop := ∀ x ∈ l, inG gr x.1 = true
theorem AllG.look {gr : Int} {l : List Pr} (h : AllG gr l) {p : Int} (hp : inG gr p = false) : look l p = none := by
  rw [look_none]
  intro y hy e
  have := h y hy
  rw [e, hp] at this
  cases this
theorem row_gr : ∀ r ∈ tabP, hasG 1 r.2.2.1 = true → r.2.2.1 = 1 := by decide +kernel
theorem chk_gr {l : List Pr} (h : chkP 1 l = 0) : AllG 1 l := by
  intro x hx
  obtain ⟨k, hk, rfl⟩ := List.mem_iff_getElem.1 hx
  have hf := errK_fit hk (chk_all (by omega) h k hk)
  unfold fitsB at hf
  unfold inG rowZ
  cases hr : rowOf l[k].1 with
  | none => rw [hr] at hf; cases hf
  | some r =>
    rw [hr] at hf
    have h1 := List.mem_of_find?_eq_some hr
    rw [Option.getD_some, row_gr r h1 hf]
    rfl
theorem zero_rows : (rowZ 20).2.2.2.2.2 = 0 ∧ (rowZ 1).2.2.2.2.2 = 0 := by decide +kernel
theorem getV_no {l : List Pr} {p : Int} (h : getB l p = false) : getV l p = 0 := by
  rw [look_getB] at h
  rw [look_getV]
  cases hl : look l p with
  | none => rfl
  | some v => rw [hl] at h; cases h
theorem idOf_one (o : List Pr) : idOf 1 o = getV o 20 := by
  have e : idOf 1 o = valP o 20 := rfl
  rw [e]
  unfold valP
  by_cases h : getB o 20 = true
  · rw [if_pos h]
  · rw [if_neg h, zero_rows.1, getV_no (by simpa using h)]
theorem idOf_two (o : List Pr) : idOf 2 o = getV o 1 := by
  have e : idOf 2 o = valP o 1 := rfl
  rw [e]
  unfold valP
  by_cases h : getB o 1 = true
  · rw [if_pos h]
  · rw [if_neg h, zero_rows.2, getV_no (by simpa using h)]
theorem getV_i64 {l : List Pr} (h : ∀ y ∈ l, I64 y.1 ∧ I64 y.2) (p : Int) : I64 (getV l p) := by
  rw [look_getV]
  cases hl : look l p with
  | none => unfold I64; decide
  | some v =>
    have : ∃ y ∈ l, y.2 = v := by
      induction l with
      | nil => cases hl
      | cons x l ih =>
        by_cases hx : x.1 = p
        · subst hx
          rw [look_same] at hl
          cases hl
          exact ⟨x, by simp, rfl⟩
        · rw [look_other hx] at hl
          obtain ⟨y, hy, e⟩ := ih (fun y hy => h y (List.mem_cons_of_mem _ hy)) hl
          exact ⟨y, List.mem_cons_of_mem _ hy, e⟩
    obtain ⟨y, hy, rfl⟩ := this
    exact (h y hy).2
/-- The styles of a chain are of one kind. -/
theorem Good.kinds {l : List St} (h : Good l) {kd i : Int} (hb : hasB l kd i = true) (pre : List Nat) : ChP l (plc l i) pre → ∀ x ∈ pre, (l.getD x default).kind = kd := by
  refine rev_ind (p := fun pre => ChP l (plc l i) pre → ∀ x ∈ pre, (l.getD x default).kind = kd) (fun _ x hx => by cases hx) ?_ pre
  intro q k ih hc x hx
  obtain ⟨h1, h2⟩ := hc.init
  rcases List.mem_append.1 hx with hx | hx
  · exact ih h1 x hx
  · rw [List.mem_singleton] at hx
    subst hx
    rcases List.eq_nil_or_concat q with rfl | ⟨q', y, rfl⟩
    · rw [nxt_nil] at h2
      unfold hasB at hb
      rw [h2] at hb
      simpa using hb
    · rw [List.concat_eq_append] at h1 h2 ih
      have hy := ih h1 y (by simp)
      rw [nxt_snoc] at h2
      unfold stp at h2
      have hyl := h1.lt y (by simp)
      have hl := h.lnk y hyl
      rw [List.getD_eq_getElem?_getD, List.getElem?_eq_getElem hyl, Option.getD_some] at h2 hy
      have hne : l[y].base ≠ 0 := by
        intro e
        rw [e, h.zero] at h2
        cases h2
      unfold lnkB at hl
      have hn : (l[y].base != 0) = true := by simpa using hne
      rw [hn] at hl
      cases hh : hasB l l[y].kind l[y].base with
      | false => rw [hh] at hl; simp at hl
      | true =>
        unfold hasB at hh
        rw [h2] at hh
        rw [← hy]
        simpa using hh
theorem hasB_zero {l : List St} (h : Good l) (kd : Int) : hasB l kd 0 = false := hasB_none h.zero
theorem Good.grp {l : List St} (h : Good l) {i : Int} (hb : i = 0 ∨ hasB l 2 i = true) {xs : List Nat} (hc : ChP l (plc l i) xs) : ∀ p, inG 1 p = false → look (effP l xs) p = none := by
  intro p hp
  rw [effP_look h.inT, List.findSome?_eq_none_iff]
  intro k hk
  rcases hb with rfl | hb
  · rw [h.zero] at hc
    cases xs with
    | nil => cases hk
    | cons a t =>
      have h1 := hc [] a t rfl
      rw [nxt_nil] at h1
      cases h1
  · have hkd := h.kinds hb xs hc k hk
    have hkl := hc.lt k hk
    have hck := fld_ck hkl (h.fld k hkl)
    rw [List.getD_eq_getElem?_getD, List.getElem?_eq_getElem hkl, Option.getD_some] at hkd
    unfold prsL
    rw [List.getD_eq_getElem?_getD, List.getElem?_eq_getElem hkl, Option.getD_some]
    unfold ckP at hck
    rw [hkd] at hck
    by_cases h1 : stP l[k].props = true
    · rw [if_pos h1] at hck; omega
    rw [if_neg h1, if_pos (by decide)] at hck
    exact (chk_gr hck).look hp
/-- The two ways of making the effective properties of a run. -/
theorem text_eq {l : List St} (h : Good l) {ol : List Pr} (ho : chkP 1 ol = 0) {i : Int} (hb : i = 0 ∨ hasB l 2 i = true) {xs ys : List Nat} (hc : ChP l (plc l i) ys) :
    keepP 1 (mergeL (effP l xs) (mergeL (effP l ys) ol)) = mergeL (mergeL (keepP 1 (effP l xs)) (effP l ys)) ol := by
  have hO := chk_in (by omega) ho
  have hX := effP_in h.inT xs
  have hY := effP_in h.inT ys
  have hYO := hY.merge hO
  have hK := keepP_in hX 1
  refine look_ext (keepP_in (hX.merge hYO) 1).1 ((hK.merge hY).merge hO).1 fun p => ?_
  rw [look_keep, lookL_merge hX hYO, lookL_merge hY hO, lookL_merge (hK.merge hY) hO, lookL_merge hK hY, look_keep]
  cases hg : inG 1 p with
  | true =>
    rw [if_pos rfl, if_pos rfl]
    cases look ol p <;> rfl
  | false =>
    rw [if_neg (by simp), if_neg (by simp), (chk_gr ho).look hg, h.grp hb hc p hg]
    rfl
end Go.Proofs.Ytbkpokipibgdfaa
