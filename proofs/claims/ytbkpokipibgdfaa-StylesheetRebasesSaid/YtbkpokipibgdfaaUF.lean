/- Layer 8, plainly: what is left behind a removal. -/
import Derived.Test.YtbkpokipibgdfaaUD
import Derived.Test.YtbkpokipibgdfaaTX
namespace Go.Proofs.Ytbkpokipibgdfaa
open Go.Lib
set_option linter.unusedVariables false

theorem nxt_cons (l : List St) (o : Option Nat) (k : Nat) (q : List Nat) : nxt l o (k :: q) = nxt l (stp l k) q := by
  unfold nxt
  cases q with
  | nil => rfl
  | cons a q => rw [List.getLast?_cons_cons]; cases h : (a :: q).getLast? with
    | none => simp at h
    | some y => rfl
theorem chp_cons {l : List St} {k : Nat} {ys : List Nat} (h : ChP l (stp l k) ys) : ChP l (some k) (k :: ys) := by
  intro q k' t e
  cases q with
  | nil => rw [List.nil_append] at e; injection e with e1 e2; rw [nxt_nil, e1]
  | cons a q =>
    rw [List.cons_append] at e
    injection e with e1 e2
    rw [← e1, nxt_cons]
    exact h q k' t e2
theorem stp_at {l : List St} {k : Nat} (hk : k < l.length) : stp l k = plc l l[k].base := by
  unfold stp; rw [List.getD_eq_getElem?_getD, List.getElem?_eq_getElem hk]; rfl
theorem chn_cons {l : List St} (h : Good l) {b : Int} {k : Nat} (hk : k < l.length) (hp : plc l b = some k) : chn l b = k :: chn l l[k].base := by
  obtain ⟨h1, h2⟩ := chn_spec h l[k].base
  rw [← stp_at hk] at h1 h2
  refine chn_eq ?_ ?_
  · rw [hp]; exact chp_cons h1
  · rw [hp, nxt_cons]; exact h2
theorem chn_none {l : List St} {b : Int} (hp : plc l b = none) : chn l b = [] := chn_eq (ChP.nil _ _) (by rw [nxt_nil]; exact hp)
theorem prsL_at {l : List St} {k : Nat} (hk : k < l.length) : prsL l k = l[k].props := by
  unfold prsL; rw [List.getD_eq_getElem?_getD, List.getElem?_eq_getElem hk]; rfl
theorem effI_look {l : List St} (h : Good l) {b : Int} {k : Nat} (hk : k < l.length) (hp : plc l b = some k) (p : Int) : look (effI l b) p = (look l[k].props p).or (look (effI l l[k].base) p) := by
  unfold effI
  rw [effP_look h.inT, effP_look h.inT, chn_cons h hk hp, List.findSome?_cons, prsL_at hk]
  cases look l[k].props p <;> rfl
theorem effI_none {l : List St} {b : Int} (hp : plc l b = none) : effI l b = [] := by unfold effI; rw [chn_none hp]; rfl
/-- Where a style of the rest stood. -/
def ix (k q : Nat) : Nat := if q < k then q else q + 1
section
variable {l : List St} {i : Int} {k : Nat}
theorem remL_len (hk : k < l.length) : (remL l i k).length = l.length - 1 := by
  unfold remL
  rw [List.length_map, List.length_append, List.length_take, List.length_drop]
  omega
theorem remL_get (hk : k < l.length) {q : Nat} (hq : q < (remL l i k).length) : ∃ h : ix k q < l.length, (remL l i k)[q] = remF i l[k] l[ix k q] := by
  have hl := remL_len (i := i) hk
  have hix : ix k q < l.length := by unfold ix; split <;> omega
  refine ⟨hix, ?_⟩
  have e1 : l.getD k default = l[k] := by rw [List.getD_eq_getElem?_getD, List.getElem?_eq_getElem hk]; rfl
  have h1 : (remL l i k)[q]? = some (remF i l[k] l[ix k q]) := by
    unfold remL
    rw [List.getElem?_map, e1]
    have h2 : (l.take k ++ l.drop (k + 1))[q]? = some l[ix k q] := by
      rw [← List.getElem?_eq_getElem hix]
      unfold ix
      by_cases h : q < k
      · rw [if_pos h, List.getElem?_append_left (by rw [List.length_take]; omega), List.getElem?_take, if_pos h]
      · rw [if_neg h, List.getElem?_append_right (by rw [List.length_take]; omega), List.getElem?_drop, List.length_take]
        congr 1
        omega
    rw [h2]
    rfl
  rw [List.getElem?_eq_getElem hq] at h1
  exact Option.some.inj h1
theorem ixk_ne (k q : Nat) : ix k q ≠ k := by unfold ix; split <;> omega
theorem ix_lt {k p q : Nat} (h : p < q) : ix k p < ix k q := by unfold ix; split <;> split <;> omega
theorem ix_on (hk : k < l.length) {p : Nat} (hp : p < l.length) (hpk : p ≠ k) : ∃ q, q < (remL l i k).length ∧ ix k q = p := by
  rw [remL_len hk]
  by_cases h : p < k
  · exact ⟨p, by omega, by unfold ix; rw [if_pos h]⟩
  · exact ⟨p - 1, by omega, by unfold ix; rw [if_neg (by omega)]; omega⟩
theorem ck_merge {kd : Int} {a b : List Pr} (ha : ckP kd a = 0) (hb : ckP kd b = 0) : ckP kd (mergeL a b) = 0 := by
  have iA := ck_in ha
  have iB := ck_in hb
  unfold ckP at ha hb ⊢
  have hsa : stP a = false := by
    cases h : stP a with
    | false => rfl
    | true => rw [if_pos h] at ha; omega
  have hsb : stP b = false := by
    cases h : stP b with
    | false => rfl
    | true => rw [if_pos h] at hb; omega
  rw [if_neg (by simp [hsa])] at ha
  rw [if_neg (by simp [hsb])] at hb
  have hsm : stP (mergeL a b) = false := by
    unfold stP at hsa hsb ⊢
    rw [List.any_eq_false] at hsa hsb ⊢
    intro y hy
    rcases merge_mem iA iB hy with h | h
    · exact hsa y h
    · exact hsb y h
  rw [if_neg (by simp [hsm])]
  by_cases h2 : (kd == 2) = true
  · rw [if_pos h2] at ha hb ⊢
    refine chk_of (by omega) (iA.merge iB).1 fun y hy => ?_
    rcases merge_mem iA iB hy with h | h
    · exact chk_val (by omega) ha y h
    · exact chk_val (by omega) hb y h
  · rw [if_neg h2] at ha hb ⊢
    refine chk_of (by omega) (iA.merge iB).1 fun y hy => ?_
    rcases merge_mem iA iB hy with h | h
    · exact chk_val (by omega) ha y h
    · exact chk_val (by omega) hb y h
/-- What no error of the fields says. -/
theorem fld_parts {x : St} {last : Int} {seen : Bool} : fldX x last seen = 0 ↔ (1 ≤ x.id ∧ x.id ≤ 1073741824) ∧ last < x.id ∧ (x.kind = 1 ∨ x.kind = 2) ∧ nmB x.name = true ∧ seen = false ∧ ckP x.kind x.props = 0 := by
  unfold fldX
  by_cases h1 : x.id < 1 ∨ 1073741824 < x.id
  · rw [if_pos h1]; constructor
    · intro h; omega
    · intro h; omega
  rw [if_neg h1]
  by_cases h2 : x.id = last
  · rw [if_pos h2]; constructor
    · intro h; omega
    · intro h; omega
  rw [if_neg h2]
  by_cases h3 : x.id < last
  · rw [if_pos h3]; constructor
    · intro h; omega
    · intro h; omega
  rw [if_neg h3]
  by_cases h4 : x.kind ≠ 1 ∧ x.kind ≠ 2
  · rw [if_pos h4]; constructor
    · intro h; omega
    · intro h; omega
  rw [if_neg h4]
  by_cases h5 : nmB x.name = false
  · rw [if_pos h5]; constructor
    · intro h; omega
    · intro h; rw [h.2.2.2.1] at h5; cases h5
  rw [if_neg h5]
  by_cases h6 : seen = true
  · rw [if_pos h6]; constructor
    · intro h; omega
    · intro h; rw [h.2.2.2.2.1] at h6; cases h6
  rw [if_neg h6]
  constructor
  · intro h
    exact ⟨by omega, by omega, by omega, by simpa using h5, by simpa using h6, h⟩
  · intro h; exact h.2.2.2.2.2
theorem Good.self_base (h : Good l) (hk : k < l.length) (hp : plc l i = some k) : l[k].base ≠ i := by
  intro e
  have he := h.ends k hk
  have h1 : ChP l (some k) [k] := by
    have := chp_cons (l := l) (k := k) (ys := []) (ChP.nil _ _)
    exact this
  refine not_ends h1 (x := k) ?_ (by simp) he
  rw [nxt_cons, nxt_nil, stp_at hk, e, hp]
theorem Good.base_kind (h : Good l) {p : Nat} (hp : p < l.length) (hb : l[p].base ≠ 0) : hasB l l[p].kind l[p].base = true := by
  have hl := h.lnk p hp
  unfold lnkB at hl
  have hn : (l[p].base != 0) = true := by simpa using hb
  rw [hn] at hl
  cases hh : hasB l l[p].kind l[p].base with
  | true => rfl
  | false => rw [hh] at hl; simp at hl
theorem seen_all (h : Good l) {p q : Nat} (hp : p < l.length) (hq : q < l.length) (hpq : p < q) : ¬ (l[p].kind = l[q].kind ∧ l[p].name = l[q].name) := by
  have h0 := h.fld q hq
  rw [fldK_at l q hq, fld_parts] at h0
  have hs := h0.2.2.2.2.1
  unfold seenT at hs
  rw [List.any_eq_false] at hs
  intro e
  refine hs l[p] ?_ (by simpa using e)
  rw [List.mem_iff_getElem]
  exact ⟨p, by rw [List.length_take]; omega, by rw [List.getElem_take]⟩
theorem Good.up (h : Good l) {p q : Nat} (hp : p < l.length) (hq : q < l.length) (hpq : p < q) : l[p].id < l[q].id := by
  obtain ⟨d, rfl⟩ : ∃ d, q = p + d + 1 := ⟨q - p - 1, by omega⟩
  exact ids_up (chk_none (fldK l) l.length h.fld) d p hq
theorem rem_fld (h : Good l) (hk : k < l.length) (hp : plc l i = some k) : ∀ q, q < (remL l i k).length → fldK (remL l i k) q = 0 := by
  intro q hq
  obtain ⟨hix, e⟩ := remL_get (i := i) hk hq
  rw [fldK_at _ q hq, fld_parts, e]
  have h0 := h.fld _ hix
  rw [fldK_at l _ hix, fld_parts] at h0
  obtain ⟨a1, a2, a3, a4, a5, a6⟩ := h0
  refine ⟨a1, ?_, a3, a4, ?_, ?_⟩
  · show lastI (remL l i k) q < l[ix k q].id
    cases q with
    | zero => show (0 : Int) < _; omega
    | succ q =>
      have hq' : q < (remL l i k).length := by omega
      rw [lastI_succ _ q hq']
      obtain ⟨hix', e'⟩ := remL_get (i := i) hk hq'
      rw [e']
      exact h.up hix' hix (ix_lt (Nat.lt_succ_self q))
  · show seenT (remL l i k) q l[ix k q].kind l[ix k q].name = false
    unfold seenT
    rw [List.any_eq_false]
    intro y hy
    obtain ⟨p, hpq, rfl⟩ := List.mem_iff_getElem.1 hy
    rw [List.length_take] at hpq
    have hp' : p < (remL l i k).length := by omega
    obtain ⟨hix', e'⟩ := remL_get (i := i) hk hp'
    rw [List.getElem_take, e']
    have := seen_all h hix' hix (ix_lt (show p < q by omega))
    intro hd
    exact this (of_decide_eq_true hd)
  · show ckP l[ix k q].kind (if l[ix k q].base = i then mergeL l[k].props l[ix k q].props else l[ix k q].props) = 0
    by_cases hb : l[ix k q].base = i
    · rw [if_pos hb]
      refine ck_merge ?_ a6
      have h0 : i ≠ 0 := by rintro rfl; rw [h.zero] at hp; cases hp
      have hh := h.base_kind hix (by rw [hb]; exact h0)
      rw [hb, hasB_some hp hk] at hh
      have hk2 : l[k].kind = l[ix k q].kind := by simpa using hh
      rw [← hk2]
      exact fld_ck hk (h.fld k hk)
    · rw [if_neg hb]; exact a6
theorem rem_uni (h : Good l) (hk : k < l.length) (hp : plc l i = some k) : Uni (remL l i k) := uni_of (chk_none _ _ (rem_fld h hk hp))
/-- Where a style is found in the rest. -/
theorem rem_plc (h : Good l) (hk : k < l.length) (hp : plc l i = some k) {b : Int} (hb : b ≠ i) : (plc (remL l i k) b).map (ix k) = plc l b := by
  cases hl : plc l b with
  | none =>
    cases hm : plc (remL l i k) b with
    | none => rfl
    | some q =>
      obtain ⟨hq, e⟩ := plc_lt hm
      obtain ⟨hix, e'⟩ := remL_get (i := i) hk hq
      rw [e'] at e
      have e2 : l[ix k q].id = b := e
      have := h.uni _ hix
      rw [e2, hl] at this
      cases this
  | some p =>
    obtain ⟨hpl, e⟩ := plc_lt hl
    have hpk : p ≠ k := by
      rintro rfl
      obtain ⟨_, e2⟩ := plc_lt hp
      exact hb (e.symm.trans e2)
    obtain ⟨q, hq, hqp⟩ := ix_on (i := i) hk hpl hpk
    obtain ⟨hix, e'⟩ := remL_get (i := i) hk hq
    have hu := rem_uni h hk hp q hq
    rw [e'] at hu
    have e3 : (remF i l[k] l[ix k q]).id = b := by show l[ix k q].id = b; simp only [hqp]; exact e
    rw [e3] at hu
    rw [hu, Option.map_some, hqp]
theorem rem_has (h : Good l) (hk : k < l.length) (hp : plc l i = some k) {kd b : Int} (hb : b ≠ i) (hh : hasB l kd b = true) : hasB (remL l i k) kd b = true := by
  have hr := rem_plc h hk hp hb
  cases hl : plc l b with
  | none => rw [hasB_none hl] at hh; cases hh
  | some p =>
    obtain ⟨hpl, e⟩ := plc_lt hl
    rw [hasB_some hl hpl] at hh
    rw [hl] at hr
    cases hm : plc (remL l i k) b with
    | none => rw [hm] at hr; cases hr
    | some q =>
      rw [hm] at hr
      have hqp : ix k q = p := by simpa using hr
      obtain ⟨hq, _⟩ := plc_lt hm
      obtain ⟨hix, e'⟩ := remL_get (i := i) hk hq
      rw [hasB_some hm hq, e']
      show (l[ix k q].kind == kd) = true
      simp only [hqp]
      exact hh
theorem rem_lnk (h : Good l) (hk : k < l.length) (hp : plc l i = some k) : ∀ q (hq : q < (remL l i k).length), lnkB (remL l i k) (remL l i k)[q] = false := by
  intro q hq
  obtain ⟨hix, e⟩ := remL_get (i := i) hk hq
  have h0 : i ≠ 0 := by rintro rfl; rw [h.zero] at hp; cases hp
  have hsb := h.self_base hk hp
  rw [e]
  unfold lnkB
  have hl := h.lnk _ hix
  unfold lnkB at hl
  rw [Bool.or_eq_false_iff] at hl ⊢
  constructor
  · show ((if l[ix k q].base = i then l[k].base else l[ix k q].base) != 0 && !hasB (remL l i k) l[ix k q].kind (if l[ix k q].base = i then l[k].base else l[ix k q].base)) = false
    by_cases hb : l[ix k q].base = i
    · rw [if_pos hb]
      by_cases hz : l[k].base = 0
      · rw [hz]; rfl
      · have h1 := h.base_kind hk hz
        have h2 := h.base_kind hix (by rw [hb]; exact h0)
        rw [hb, hasB_some hp hk] at h2
        have hk2 : l[k].kind = l[ix k q].kind := by simpa using h2
        rw [rem_has h hk hp hsb (by rw [← hk2]; exact h1)]
        simp
    · rw [if_neg hb]
      by_cases hz : l[ix k q].base = 0
      · rw [hz]; rfl
      · rw [rem_has h hk hp hb (h.base_kind hix hz)]
        simp
  · show ((if l[ix k q].next = i then 0 else l[ix k q].next) != 0 && (l[ix k q].kind == 2 || !hasB (remL l i k) 1 (if l[ix k q].next = i then 0 else l[ix k q].next))) = false
    by_cases hn : l[ix k q].next = i
    · rw [if_pos hn]; rfl
    · rw [if_neg hn]
      by_cases hz : l[ix k q].next = 0
      · rw [hz]; rfl
      · have hz' : (l[ix k q].next != 0) = true := by simpa using hz
        have h2 := hl.2
        rw [hz', Bool.true_and, Bool.or_eq_false_iff] at h2
        have h3 : hasB l 1 l[ix k q].next = true := by simpa using h2.2
        rw [rem_has h hk hp hn h3, h2.1]
        simp
theorem rem_ends (h : Good l) (hk : k < l.length) (hp : plc l i = some k) : ∀ n b, b ≠ i → (chn l b).length ≤ n → Ends (remL l i k) (plc (remL l i k) b) := by
  intro n
  induction n with
  | zero =>
    intro b hb hn
    have hl : plc l b = none := by
      cases hl : plc l b with
      | none => rfl
      | some p => rw [chn_cons h (plc_lt hl).1 hl] at hn; simp at hn
    have hr := rem_plc h hk hp hb
    rw [hl] at hr
    cases hm : plc (remL l i k) b with
    | none => exact Ends.none _
    | some q => rw [hm] at hr; cases hr
  | succ n ih =>
    intro b hb hn
    have hr := rem_plc h hk hp hb
    cases hm : plc (remL l i k) b with
    | none => exact Ends.none _
    | some q =>
      rw [hm] at hr
      have hl : plc l b = some (ix k q) := by rw [← hr]; rfl
      obtain ⟨hq, _⟩ := plc_lt hm
      obtain ⟨hix, e⟩ := remL_get (i := i) hk hq
      rw [Ends.step, stp_at hq, e]
      rw [chn_cons h hix hl, List.length_cons] at hn
      show Ends (remL l i k) (plc (remL l i k) (if l[ix k q].base = i then l[k].base else l[ix k q].base))
      by_cases hbi : l[ix k q].base = i
      · rw [if_pos hbi]
        refine ih _ (h.self_base hk hp) ?_
        rw [hbi, chn_cons h hk hp, List.length_cons] at hn
        omega
      · rw [if_neg hbi]
        exact ih _ hbi (by omega)
theorem rem_good (h : Good l) (hk : k < l.length) (hp : plc l i = some k) : Good (remL l i k) := by
  refine ⟨rem_fld h hk hp, rem_lnk h hk hp, fun q hq => ?_, by rw [remL_len hk]; have := h.len; omega⟩
  obtain ⟨hix, e⟩ := remL_get (i := i) hk hq
  have hid : (remL l i k)[q].id ≠ i := by
    rw [e]
    intro e2
    have := h.uni _ hix
    have e3 : l[ix k q].id = i := e2
    rw [e3, hp] at this
    exact ixk_ne k q (Option.some.inj this).symm
  have := rem_ends h hk hp _ _ hid (Nat.le_refl _)
  rw [rem_uni h hk hp q hq] at this
  exact this
theorem chkA_good {l : List St} (h : Good l) : chkA l = 0 := by
  have hf : fldP l = 0 := chk_none (fldK l) l.length h.fld
  have hl : lnkP l = 0 := lnk_no h.lnk
  rw [chkA_end h.len hf hl, endB_yes h.ends]
  rfl
theorem rem_eff (h : Good l) (hk : k < l.length) (hp : plc l i = some k) (p : Int) : ∀ n b, b ≠ i → (chn l b).length ≤ n → look (effI (remL l i k) b) p = look (effI l b) p := by
  have hG := rem_good h hk hp
  intro n
  induction n with
  | zero =>
    intro b hb hn
    have hl : plc l b = none := by
      cases hl : plc l b with
      | none => rfl
      | some p => rw [chn_cons h (plc_lt hl).1 hl] at hn; simp at hn
    have hr := rem_plc h hk hp hb
    rw [hl] at hr
    cases hm : plc (remL l i k) b with
    | none => rw [effI_none hl, effI_none hm]
    | some q => rw [hm] at hr; cases hr
  | succ n ih =>
    intro b hb hn
    have hr := rem_plc h hk hp hb
    cases hm : plc (remL l i k) b with
    | none =>
      rw [hm] at hr
      rw [effI_none hm, effI_none hr.symm]
    | some q =>
      rw [hm] at hr
      have hl : plc l b = some (ix k q) := by rw [← hr]; rfl
      obtain ⟨hq, _⟩ := plc_lt hm
      obtain ⟨hix, e⟩ := remL_get (i := i) hk hq
      rw [effI_look hG hq hm, effI_look h hix hl]
      rw [chn_cons h hix hl, List.length_cons] at hn
      rw [e]
      show (look (if l[ix k q].base = i then mergeL l[k].props l[ix k q].props else l[ix k q].props) p).or (look (effI (remL l i k) (if l[ix k q].base = i then l[k].base else l[ix k q].base)) p) = _
      by_cases hbi : l[ix k q].base = i
      · rw [if_pos hbi, if_pos hbi]
        rw [hbi, chn_cons h hk hp, List.length_cons] at hn
        rw [ih _ (h.self_base hk hp) (by omega), hbi, effI_look h hk hp]
        have i1 := h.inT k
        have i2 := h.inT (ix k q)
        rw [prsL_at hk] at i1
        rw [prsL_at hix] at i2
        rw [lookL_merge i1 i2]
        cases look l[ix k q].props p <;> cases look l[k].props p <;> rfl
      · rw [if_neg hbi, if_neg hbi, ih _ hbi (by omega)]
theorem rem_effI (h : Good l) (hk : k < l.length) (hp : plc l i = some k) {b : Int} (hb : b ≠ i) : effI (remL l i k) b = effI l b :=
  look_ext (effI_in (rem_good h hk hp) b).1 (effI_in h b).1 fun p => rem_eff h hk hp p _ b hb (Nat.le_refl _)
end
end Go.Proofs.Ytbkpokipibgdfaa
