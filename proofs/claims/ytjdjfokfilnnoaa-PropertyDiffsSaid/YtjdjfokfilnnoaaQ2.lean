/- Layer 7, plainly: putting and dropping a key; changes, applied. -/
import Derived.Test.YtjdjfokfilnnoaaJB
namespace Go.Proofs.Ytjdjfokfilnnoaa

theorem getB_false {l : List Pr} {p : Int} (h : getB l p = false) : ∀ x ∈ l, x.1 ≠ p := by
  intro x hx he
  unfold getB at h
  rw [List.any_eq_false] at h
  exact h x hx (by simpa using he)
theorem clear_absent {l : List Pr} {p : Int} (h : getB l p = false) : clearP l p = l := by
  unfold clearP
  rw [List.filter_eq_self]
  intro x hx
  simpa using getB_false h x hx
theorem clear_at {l : List Pr} (hs : SortP l) {p : Int} {i : Nat} (hi : i < l.length) (he : l[i].1 = p) : clearP l p = l.take i ++ l.drop (i + 1) := by
  have e : l = l.take i ++ l[i] :: l.drop (i + 1) := by rw [List.getElem_cons_drop, List.take_append_drop]
  have h1 : (l.take i).filter (fun x => x.1 != p) = l.take i := by
    rw [List.filter_eq_self]
    intro x hx
    obtain ⟨j, hj, rfl⟩ := List.mem_iff_getElem.1 hx
    simp only [List.length_take] at hj
    rw [List.getElem_take]
    have := hs j i (by omega) hi (by omega)
    have : l[j].1 ≠ p := by omega
    simpa using this
  have h2 : (l.drop (i + 1)).filter (fun x => x.1 != p) = l.drop (i + 1) := by
    rw [List.filter_eq_self]
    intro x hx
    obtain ⟨j, hj, rfl⟩ := List.mem_iff_getElem.1 hx
    simp only [List.length_drop] at hj
    rw [List.getElem_drop]
    have := hs i (i + 1 + j) hi (by omega) (by omega)
    have : (l[i + 1 + j]'(by omega)).1 ≠ p := by omega
    simpa using this
  unfold clearP
  conv => lhs; rw [e]
  rw [List.filter_append, h1, List.filter_cons_of_neg (by simp [he]), h2]
theorem set_absent {l : List Pr} {p : Int} {i : Nat} (v : Int) (hb : getB l p = false) (hp : PartP l p i) : setP l p v = l.take i ++ (p, v) :: l.drop i := by
  refine setP_split v (r := l) (clear_absent hb).symm hp.1 (fun j h hj => hp.2.1 j h hj) (fun h hlt => ?_)
  have := hp.2.2 i h (Nat.le_refl _)
  omega
theorem set_at {l : List Pr} (hs : SortP l) {p : Int} {i : Nat} (v : Int) (hi : i < l.length) (he : l[i].1 = p) : setP l p v = l.take i ++ (p, v) :: l.drop (i + 1) := by
  have hc := clear_at hs hi he
  have hl : (l.take i).length = i := by rw [List.length_take]; omega
  have hr : (l.take i ++ l.drop (i + 1)).length = l.length - 1 := by rw [List.length_append, hl, List.length_drop]; omega
  have e := setP_split (l := l) (r := l.take i ++ l.drop (i + 1)) (p := p) (k := i) v hc.symm (by rw [hr]; omega) (fun j h hj => by
    rw [List.getElem_append_left (by omega), List.getElem_take]
    have := hs j i (by omega) hi hj
    omega) (fun h => by
    rw [hr] at h
    rw [List.getElem_append_right (by omega), List.getElem_drop]
    have := hs i (i + 1 + (i - (l.take i).length)) hi (by omega) (by omega)
    omega)
  rw [e, List.take_left' hl, List.drop_left' hl]
/-- Whether a list has what a change replaces. -/
def fitsC (l : List Pr) (c : Ch) : Bool := (getB l c.1 == c.2.2.2.1) && (!(getB l c.1) || (getV l c.1 == c.2.1))
/-- One change, made. -/
def stepC (l : List Pr) (c : Ch) : List Pr := if c.2.2.2.2 then setP l c.1 c.2.2.1 else clearP l c.1
/-- All changes, made one after another, or none where one does not fit. -/
def applyP (l : List Pr) : List Ch → Option (List Pr)
  | [] => some l
  | c :: cs => if fitsC l c then applyP (stepC l c) cs else none
theorem srt_step {l : List Pr} (h : Srt l) (c : Ch) : Srt (stepC l c) := by
  unfold stepC
  split
  · exact srt_set h _ _
  · exact srt_clear h _
theorem step_len (l : List Pr) (c : Ch) : (stepC l c).length ≤ l.length + 1 := by
  unfold stepC
  split
  · exact set_len _ _ _
  · have := clear_len l c.1; omega
theorem applyP_snoc (l : List Pr) (cs : List Ch) (c : Ch) : applyP l (cs ++ [c]) = (applyP l cs).bind (fun x => if fitsC x c then some (stepC x c) else none) := by
  induction cs generalizing l with
  | nil => simp [applyP]
  | cons d cs ih =>
    rw [List.cons_append, applyP, applyP]
    split
    · exact ih _
    · rfl
theorem look_step {l : List Pr} (h : Srt l) (c : Ch) (q : Int) : look (stepC l c) q = if q = c.1 then (if c.2.2.2.2 then some c.2.2.1 else none) else look l q := by
  unfold stepC
  split
  · rw [look_set h]
  · rw [look_clear]
theorem fits_chg {x a b : List Pr} {p : Int} (h : look x p = look a p) : fitsC x (chg a b p) = true := by
  unfold fitsC chg
  dsimp only
  rw [look_getB, look_getV, h]
  cases look a p <;> simp
/-- Changes from a to b at different keys lead from a to b there. -/
theorem apply_ok {a b : List Pr} (cs : List Ch) : ∀ {x : List Pr}, Srt x → (∀ c ∈ cs, c = chg a b c.1) → cs.Pairwise (fun c d => c.1 ≠ d.1) → (∀ c ∈ cs, look x c.1 = look a c.1) →
    ∃ y, applyP x cs = some y ∧ Srt y ∧ ∀ p, look y p = if p ∈ cs.map (·.1) then look b p else look x p := by
  induction cs with
  | nil => intro x hx _ _ _; exact ⟨x, rfl, hx, fun p => by simp⟩
  | cons c cs ih =>
    intro x hx hc hp hl
    have h1 := hc c (by simp)
    have hf : fitsC x c = true := by rw [h1]; exact fits_chg (hl c (by simp))
    obtain ⟨y, e1, e2, e3⟩ := ih (srt_step hx c) (fun d hd => hc d (List.mem_cons_of_mem _ hd)) (List.pairwise_cons.1 hp).2 (fun d hd => by
      have hne := (List.pairwise_cons.1 hp).1 d hd
      rw [look_step hx, if_neg (fun e => hne e.symm)]
      exact hl d (List.mem_cons_of_mem _ hd))
    refine ⟨y, by rw [applyP, if_pos hf]; exact e1, e2, fun p => ?_⟩
    rw [e3 p, look_step hx]
    by_cases hpc : p = c.1
    · subst hpc
      have hbv : look b c.1 = if c.2.2.2.2 then some c.2.2.1 else none := by
        rw [h1]
        unfold chg
        dsimp only
        cases look b c.1 <;> simp
      by_cases hm : c.1 ∈ cs.map (·.1)
      · rw [if_pos hm, if_pos (show c.1 ∈ (c :: cs).map (·.1) from by rw [List.map_cons]; exact List.mem_cons_self)]
      · rw [if_neg hm, if_pos rfl]
        rw [if_pos (show c.1 ∈ (c :: cs).map (·.1) from by rw [List.map_cons]; exact List.mem_cons_self), hbv]
    · rw [if_neg hpc]
      by_cases hm : p ∈ cs.map (·.1)
      · rw [if_pos hm, if_pos (by simp only [List.map_cons, List.mem_cons]; exact .inr hm)]
      · rw [if_neg hm, if_neg (by simp only [List.map_cons, List.mem_cons]; exact fun h => h.elim hpc hm)]
/-- Diff and Inverse, plainly. -/
def difB (c : Ch) : Bool := (c.2.2.2.1 != c.2.2.2.2) || (c.2.1 != c.2.2.1)
def diffP (a b : List Pr) : List Ch := (pairs a b).filter difB
def swapC (c : Ch) : Ch := (c.1, c.2.2.1, c.2.1, c.2.2.2.2, c.2.2.2.1)
def inverseP (cs : List Ch) : List Ch := cs.reverse.map swapC
theorem difB_chg {a b : List Pr} {p : Int} : difB (chg a b p) = false ↔ look a p = look b p := by
  unfold difB chg
  dsimp only
  cases look a p <;> cases look b p <;> simp
theorem diff_mem {a b : List Pr} (ha : Srt a) (hb : Srt b) : ∀ c ∈ diffP a b, c = chg a b c.1 := fun c hc => pairs_mem a b ha hb c (List.mem_filter.1 hc).1
theorem diff_sorted {a b : List Pr} (ha : Srt a) (hb : Srt b) : (diffP a b).Pairwise (fun x y => x.1 < y.1) := (pairs_sorted a b ha hb).filter _
theorem diff_keys {a b : List Pr} (ha : Srt a) (hb : Srt b) (p : Int) : p ∈ (diffP a b).map (·.1) ↔ look a p ≠ look b p := by
  constructor
  · intro h
    obtain ⟨c, hc, rfl⟩ := List.mem_map.1 h
    have h1 := diff_mem ha hb c hc
    have h2 := (List.mem_filter.1 hc).2
    intro he
    have := difB_chg.2 he
    rw [← h1] at this
    rw [this] at h2; cases h2
  · intro h
    have hd : difB (chg a b p) = true := by
      cases hh : difB (chg a b p) with
      | true => rfl
      | false => exact absurd (difB_chg.1 hh) h
    have hm : chg a b p ∈ pairs a b := pairs_has a b ha hb p (by
      cases h1 : look a p with
      | some v => left; rfl
      | none =>
        cases h2 : look b p with
        | some v => right; rfl
        | none => rw [h1, h2] at h; exact absurd rfl h)
    exact List.mem_map.2 ⟨chg a b p, List.mem_filter.2 ⟨hm, hd⟩, rfl⟩
theorem apply_diff {a b : List Pr} (ha : Srt a) (hb : Srt b) : applyP a (diffP a b) = some b := by
  obtain ⟨y, e1, e2, e3⟩ := apply_ok (a := a) (b := b) (diffP a b) ha (diff_mem ha hb) ((diff_sorted ha hb).imp fun h => by omega) (fun _ _ => rfl)
  rw [e1, look_ext e2 hb fun p => by
    rw [e3]
    by_cases h : p ∈ (diffP a b).map (·.1)
    · rw [if_pos h]
    · rw [if_neg h]
      exact Classical.byContradiction fun hne => h ((diff_keys ha hb p).2 hne)]
theorem swap_chg {a b : List Pr} {p : Int} : swapC (chg a b p) = chg b a p := rfl
theorem inv_keys (cs : List Ch) (p : Int) : p ∈ (inverseP cs).map (·.1) ↔ p ∈ cs.map (·.1) := by
  unfold inverseP
  rw [List.map_map]
  simp [swapC]
theorem apply_inverse {a b : List Pr} (ha : Srt a) (hb : Srt b) : applyP b (inverseP (diffP a b)) = some a := by
  obtain ⟨y, e1, e2, e3⟩ := apply_ok (a := b) (b := a) (inverseP (diffP a b)) hb (by
    intro c hc
    unfold inverseP at hc
    obtain ⟨d, hd, rfl⟩ := List.mem_map.1 hc
    have := diff_mem ha hb d (List.mem_reverse.1 hd)
    show swapC d = chg b a d.1
    conv => lhs; rw [this]
    exact swap_chg) (by
    unfold inverseP
    rw [List.pairwise_map, List.pairwise_reverse]
    exact (diff_sorted ha hb).imp fun h => by show _ ≠ _; dsimp only [swapC]; omega) (fun _ _ => rfl)
  rw [e1, look_ext e2 ha fun p => by
    rw [e3]
    by_cases h : p ∈ (inverseP (diffP a b)).map (·.1)
    · rw [if_pos h]
    · rw [if_neg h]
      exact Classical.byContradiction fun hne => h ((inv_keys _ _).2 ((diff_keys ha hb p).2 (fun e => hne e.symm)))]
theorem diff_len (a b : List Pr) : (diffP a b).length ≤ a.length + b.length := Nat.le_trans (List.length_filter_le _ _) (pairs_len a b)
end Go.Proofs.Ytjdjfokfilnnoaa
