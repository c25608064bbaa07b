/- Layer 23, plainly: sorted lists of properties as functions from keys to values (layer 7's). -/
import Derived.WalkKit
namespace Go.Proofs.Ytjhppkjngifibaa
set_option linter.unusedVariables false

abbrev Pr := Int × Int
def SortP (l : List Pr) : Prop := ∀ i j (hi : i < l.length) (hj : j < l.length), i < j → l[i].1 < l[j].1
theorem SortP.le {l : List Pr} (h : SortP l) (i j : Nat) (hi : i < l.length) (hj : j < l.length) (hij : i ≤ j) : l[i].1 ≤ l[j].1 := by
  rcases Nat.lt_or_eq_of_le hij with h1 | h1
  · exact Int.le_of_lt (h i j hi hj h1)
  · subst h1; exact Int.le_refl _
def PartP (l : List Pr) (p : Int) (i : Nat) : Prop := i ≤ l.length ∧ (∀ k (h : k < l.length), k < i → l[k].1 < p) ∧ (∀ k (h : k < l.length), i ≤ k → p ≤ l[k].1)
/-- Whether a list has a key, and its value. -/
def getB (l : List Pr) (p : Int) : Bool := l.any (·.1 == p)
def getV (l : List Pr) (p : Int) : Int := ((l.find? (·.1 == p)).map (·.2)).getD 0
theorem get_at {l : List Pr} {p : Int} {k : Nat} (hk : k < l.length) (he : l[k].1 = p) (hn : ∀ j (h : j < l.length), j < k → l[j].1 ≠ p) : getB l p = true ∧ getV l p = l[k].2 := by
  constructor
  · unfold getB
    rw [List.any_eq_true]
    exact ⟨l[k], List.getElem_mem hk, by simpa using he⟩
  · unfold getV
    have : l.find? (·.1 == p) = some l[k] := by
      rw [List.find?_eq_some_iff_getElem]
      refine ⟨by simpa using he, k, hk, rfl, fun j hj => ?_⟩
      have := hn j (by omega) hj
      simpa using this
    rw [this]; rfl
theorem get_none {l : List Pr} {p : Int} (hn : ∀ j (h : j < l.length), l[j].1 ≠ p) : getB l p = false ∧ getV l p = 0 := by
  have h0 : ∀ x ∈ l, x.1 ≠ p := by
    intro x hx
    obtain ⟨j, hj, rfl⟩ := List.mem_iff_getElem.1 hx
    exact hn j hj
  constructor
  · unfold getB
    rw [List.any_eq_false]
    intro x hx; simpa using h0 x hx
  · unfold getV
    have : l.find? (·.1 == p) = none := by
      rw [List.find?_eq_none]
      intro x hx; simpa using h0 x hx
    rw [this]; rfl
theorem getB_mem {l : List Pr} {p : Int} (h : getB l p = true) : ∃ k, ∃ hk : k < l.length, l[k].1 = p := by
  unfold getB at h
  rw [List.any_eq_true] at h
  obtain ⟨x, hx, he⟩ := h
  obtain ⟨k, hk, rfl⟩ := List.mem_iff_getElem.1 hx
  exact ⟨k, hk, by simpa using he⟩
abbrev Srt (l : List Pr) : Prop := l.Pairwise (fun x y => x.1 < y.1)
theorem srt_iff {l : List Pr} : SortP l ↔ Srt l := by
  unfold Srt; rw [List.pairwise_iff_getElem]; exact ⟨fun h i j hi hj => h i j hi hj, fun h i j hi hj => h i j hi hj⟩
/-- The value of a key. -/
def look : List Pr → Int → Option Int
  | [], _ => none
  | x :: l, p => if x.1 = p then some x.2 else look l p
theorem look_nil (p : Int) : look [] p = none := rfl
theorem look_same (x : Pr) (l : List Pr) : look (x :: l) x.1 = some x.2 := by simp [look]
theorem look_other {x : Pr} {l : List Pr} {p : Int} (h : x.1 ≠ p) : look (x :: l) p = look l p := by simp [look, h]
theorem look_low {l : List Pr} {p : Int} (h : ∀ y ∈ l, p < y.1) : look l p = none := by
  induction l with
  | nil => rfl
  | cons x l ih =>
    have h1 := h x (by simp)
    rw [look_other (by omega)]
    exact ih fun y hy => h y (List.mem_cons_of_mem _ hy)
theorem look_high {l : List Pr} {p : Int} (h : ∀ y ∈ l, y.1 < p) : look l p = none := by
  induction l with
  | nil => rfl
  | cons x l ih =>
    have h1 := h x (by simp)
    rw [look_other (by omega)]
    exact ih fun y hy => h y (List.mem_cons_of_mem _ hy)
theorem look_none {l : List Pr} {p : Int} : look l p = none ↔ ∀ y ∈ l, y.1 ≠ p := by
  induction l with
  | nil => simp [look]
  | cons x l ih =>
    by_cases h : x.1 = p
    · subst h; simp [look]
    · rw [look_other h, ih]; simp [h]
theorem look_append (l l' : List Pr) (p : Int) : look (l ++ l') p = (look l p).or (look l' p) := by
  induction l with
  | nil => simp [look]
  | cons x l ih =>
    by_cases h : x.1 = p
    · subst h; rw [List.cons_append, look_same, look_same]; rfl
    · rw [List.cons_append, look_other h, look_other h, ih]
theorem srt_head {x : Pr} {l : List Pr} (h : Srt (x :: l)) : ∀ y ∈ l, x.1 < y.1 := (List.pairwise_cons.1 h).1
theorem srt_tail {x : Pr} {l : List Pr} (h : Srt (x :: l)) : Srt l := (List.pairwise_cons.1 h).2
theorem look_ext {l l' : List Pr} (h : Srt l) (h' : Srt l') (he : ∀ p, look l p = look l' p) : l = l' := by
  induction l generalizing l' with
  | nil =>
    cases l' with
    | nil => rfl
    | cons y t => have := he y.1; rw [look_nil, look_same] at this; cases this
  | cons x l ih =>
    cases l' with
    | nil => have := he x.1; rw [look_nil, look_same] at this; cases this
    | cons y t =>
      have e1 := he x.1
      have e2 := he y.1
      rw [look_same] at e1 e2
      have hxy : x.1 = y.1 := by
        rcases Int.lt_trichotomy x.1 y.1 with h1 | h1 | h1
        · rw [look_low (l := y :: t) fun z hz => by
            rcases List.mem_cons.1 hz with rfl | hz
            · exact h1
            · have := srt_head h' z hz; omega] at e1
          cases e1
        · exact h1
        · rw [look_low (l := x :: l) fun z hz => by
            rcases List.mem_cons.1 hz with rfl | hz
            · exact h1
            · have := srt_head h z hz; omega] at e2
          cases e2
      rw [hxy, look_same] at e1
      have hx : x = y := Prod.ext hxy (Option.some.inj e1)
      subst hx
      rw [ih (srt_tail h) (srt_tail h') fun p => by
        by_cases hp : x.1 = p
        · subst hp; rw [look_low (srt_head h), look_low (srt_head h')]
        · have := he p; rw [look_other hp, look_other hp] at this; exact this]
theorem look_getB (l : List Pr) (p : Int) : getB l p = (look l p).isSome := by
  induction l with
  | nil => rfl
  | cons x l ih =>
    unfold getB at ih ⊢
    rw [List.any_cons, ih]
    by_cases h : x.1 = p
    · subst h; rw [look_same]; simp
    · rw [look_other h]; simp [h]
theorem look_getV (l : List Pr) (p : Int) : getV l p = (look l p).getD 0 := by
  induction l with
  | nil => rfl
  | cons x l ih =>
    unfold getV at ih ⊢
    by_cases h : x.1 = p
    · subst h; rw [look_same, List.find?_cons_of_pos (by simp)]; rfl
    · rw [look_other h, List.find?_cons_of_neg (by simpa using h), ih]

/-- The reference's Clear and Set. -/
def clearP (l : List Pr) (p : Int) : List Pr := l.filter (fun x => x.1 != p)
def setP (l : List Pr) (p v : Int) : List Pr := (clearP l p).takeWhile (fun x => decide (x.1 < p)) ++ (p, v) :: (clearP l p).dropWhile (fun x => decide (x.1 < p))
theorem srt_clear {l : List Pr} (h : Srt l) (p : Int) : Srt (clearP l p) := h.filter _
theorem look_clear (l : List Pr) (p q : Int) : look (clearP l p) q = if q = p then none else look l q := by
  unfold clearP
  induction l with
  | nil => simp [look]
  | cons x l ih =>
    by_cases h : x.1 = p
    · rw [List.filter_cons_of_neg (by simp [h]), ih]
      by_cases hq : q = p
      · rw [if_pos hq, if_pos hq]
      · rw [if_neg hq, if_neg hq, look_other (by omega)]
    · rw [List.filter_cons_of_pos (by simpa using h)]
      by_cases hx : x.1 = q
      · subst hx; rw [look_same, look_same, if_neg h]
      · rw [look_other hx, look_other hx, ih]
theorem clear_ne {l : List Pr} {p : Int} : ∀ x ∈ clearP l p, x.1 ≠ p := by
  intro x hx
  have := (List.mem_filter.1 hx).2
  simpa using this
theorem drop_above {l : List Pr} (h : Srt l) {p : Int} (hn : ∀ x ∈ l, x.1 ≠ p) : ∀ x ∈ l.dropWhile (fun x => decide (x.1 < p)), p < x.1 := by
  induction l with
  | nil => simp
  | cons y l ih =>
    intro x hx
    by_cases hy : y.1 < p
    · rw [List.dropWhile_cons_of_pos (by simpa using hy)] at hx
      exact ih (srt_tail h) (fun z hz => hn z (List.mem_cons_of_mem _ hz)) x hx
    · rw [List.dropWhile_cons_of_neg (by simpa using hy)] at hx
      have h1 := hn y (by simp)
      rcases List.mem_cons.1 hx with rfl | hx
      · omega
      · have := srt_head h x hx; omega
theorem take_below {l : List Pr} {p : Int} : ∀ x ∈ l.takeWhile (fun x => decide (x.1 < p)), x.1 < p := by
  induction l with
  | nil => simp
  | cons y l ih =>
    intro x hx
    by_cases hy : y.1 < p
    · rw [List.takeWhile_cons_of_pos (by simpa using hy)] at hx
      rcases List.mem_cons.1 hx with rfl | hx
      · exact hy
      · exact ih x hx
    · rw [List.takeWhile_cons_of_neg (by simpa using hy)] at hx
      cases hx
theorem srt_set {l : List Pr} (h : Srt l) (p v : Int) : Srt (setP l p v) := by
  have hs := srt_clear h p
  unfold setP Srt
  rw [List.pairwise_append]
  refine ⟨hs.sublist (List.takeWhile_sublist _), List.pairwise_cons.2 ⟨fun x hx => drop_above hs clear_ne x hx, hs.sublist (List.dropWhile_sublist _)⟩, ?_⟩
  intro x hx y hy
  have h1 := take_below x hx
  rcases List.mem_cons.1 hy with rfl | hy
  · exact h1
  · have := drop_above hs clear_ne y hy; omega
theorem look_set {l : List Pr} (h : Srt l) (p v q : Int) : look (setP l p v) q = if q = p then some v else look l q := by
  have hs := srt_clear h p
  unfold setP
  rw [look_append]
  by_cases hq : q = p
  · subst hq
    rw [if_pos rfl, look_high take_below, look_same (q, v)]; rfl
  · rw [if_neg hq, look_other (by dsimp only; omega), ← look_append, List.takeWhile_append_dropWhile, look_clear, if_neg hq]
theorem set_len (l : List Pr) (p v : Int) : (setP l p v).length ≤ l.length + 1 := by
  have h2 : (clearP l p).length ≤ l.length := List.length_filter_le _ _
  unfold setP
  generalize clearP l p = r at h2 ⊢
  have h1 := congrArg List.length (List.takeWhile_append_dropWhile (p := fun x : Pr => decide (x.1 < p)) (l := r))
  rw [List.length_append] at h1 ⊢
  exact (show (r.takeWhile (fun x : Pr => decide (x.1 < p))).length + ((r.dropWhile (fun x : Pr => decide (x.1 < p))).length + 1) ≤ l.length + 1 from by omega)
theorem getB_false {l : List Pr} {p : Int} (h : getB l p = false) : ∀ x ∈ l, x.1 ≠ p := by
  intro x hx he
  unfold getB at h
  rw [List.any_eq_false] at h
  exact h x hx (by simpa using he)
theorem clear_absent {l : List Pr} {p : Int} (h : getB l p = false) : clearP l p = l := by
  unfold clearP
  rw [List.filter_eq_self]
  intro x hx
  simpa using getB_false h x hx
theorem clear_at {l : List Pr} (hs : SortP l) {p : Int} {i : Nat} (hi : i < l.length) (he : l[i].1 = p) : clearP l p = l.take i ++ l.drop (i + 1) := by
  have e : l = l.take i ++ l[i] :: l.drop (i + 1) := by rw [List.getElem_cons_drop, List.take_append_drop]
  have h1 : (l.take i).filter (fun x => x.1 != p) = l.take i := by
    rw [List.filter_eq_self]
    intro x hx
    obtain ⟨j, hj, rfl⟩ := List.mem_iff_getElem.1 hx
    simp only [List.length_take] at hj
    rw [List.getElem_take]
    have := hs j i (by omega) hi (by omega)
    have : l[j].1 ≠ p := by omega
    simpa using this
  have h2 : (l.drop (i + 1)).filter (fun x => x.1 != p) = l.drop (i + 1) := by
    rw [List.filter_eq_self]
    intro x hx
    obtain ⟨j, hj, rfl⟩ := List.mem_iff_getElem.1 hx
    simp only [List.length_drop] at hj
    rw [List.getElem_drop]
    have := hs i (i + 1 + j) hi (by omega) (by omega)
    have : (l[i + 1 + j]'(by omega)).1 ≠ p := by omega
    simpa using this
  unfold clearP
  conv => lhs; rw [e]
  rw [List.filter_append, h1, List.filter_cons_of_neg (by simp [he]), h2]
theorem set_split {r : List Pr} {p : Int} {k : Nat} (hk : k ≤ r.length) (h1 : ∀ j (h : j < r.length), j < k → r[j].1 < p) (h2 : ∀ h : k < r.length, ¬ r[k].1 < p) :
    r.takeWhile (fun x : Pr => decide (x.1 < p)) = r.take k ∧ r.dropWhile (fun x : Pr => decide (x.1 < p)) = r.drop k := by
  induction r generalizing k with
  | nil => simp
  | cons x r ih =>
    cases k with
    | zero =>
      have h3 := h2 (by simp)
      simp only [List.getElem_cons_zero] at h3
      rw [List.takeWhile_cons_of_neg (by simpa using h3), List.dropWhile_cons_of_neg (by simpa using h3)]
      exact ⟨rfl, rfl⟩
    | succ k =>
      have h3 := h1 0 (by simp) (by omega)
      simp only [List.getElem_cons_zero] at h3
      rw [List.takeWhile_cons_of_pos (by simpa using h3), List.dropWhile_cons_of_pos (by simpa using h3)]
      obtain ⟨e1, e2⟩ := ih (k := k) (by simpa using hk) (fun j h hj => by have := h1 (j + 1) (by simpa using h) (by omega); simpa using this) (fun h => by have := h2 (by simpa using h); simpa using this)
      rw [e1, e2]; exact ⟨rfl, rfl⟩
theorem setP_split {l r : List Pr} {p : Int} (v : Int) {k : Nat} (hr : r = clearP l p) (hk : k ≤ r.length) (h1 : ∀ j (h : j < r.length), j < k → r[j].1 < p) (h2 : ∀ h : k < r.length, ¬ r[k].1 < p) : setP l p v = r.take k ++ (p, v) :: r.drop k := by
  obtain ⟨e1, e2⟩ := set_split hk h1 h2
  unfold setP
  rw [← hr, e1, e2]
theorem set_absent {l : List Pr} {p : Int} {i : Nat} (v : Int) (hb : getB l p = false) (hp : PartP l p i) : setP l p v = l.take i ++ (p, v) :: l.drop i := by
  refine setP_split v (r := l) (clear_absent hb).symm hp.1 (fun j h hj => hp.2.1 j h hj) (fun h hlt => ?_)
  have := hp.2.2 i h (Nat.le_refl _)
  omega
theorem set_at {l : List Pr} (hs : SortP l) {p : Int} {i : Nat} (v : Int) (hi : i < l.length) (he : l[i].1 = p) : setP l p v = l.take i ++ (p, v) :: l.drop (i + 1) := by
  have hc := clear_at hs hi he
  have hl : (l.take i).length = i := by rw [List.length_take]; omega
  have hr : (l.take i ++ l.drop (i + 1)).length = l.length - 1 := by rw [List.length_append, hl, List.length_drop]; omega
  have e := setP_split (l := l) (r := l.take i ++ l.drop (i + 1)) (p := p) (k := i) v hc.symm (by rw [hr]; omega) (fun j h hj => by
    rw [List.getElem_append_left (by omega), List.getElem_take]
    have := hs j i (by omega) hi hj
    omega) (fun h => by
    rw [hr] at h
    rw [List.getElem_append_right (by omega), List.getElem_drop]
    have := hs i (i + 1 + (i - (l.take i).length)) hi (by omega) (by omega)
    omega)
  rw [e, List.take_left' hl, List.drop_left' hl]
theorem clear_len (l : List Pr) (p : Int) : (clearP l p).length ≤ l.length := List.length_filter_le _ _
end Go.Proofs.Ytjhppkjngifibaa
