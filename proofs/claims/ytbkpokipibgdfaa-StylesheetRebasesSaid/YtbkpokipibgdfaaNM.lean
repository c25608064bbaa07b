/- Layer 8: the texts Q1 TA TC TE TB. -/
import Derived.Test.YtbkpokipibgdfaaNE
import Derived.Test.YtbkpokipibgdfaaNG
import Derived.Deep.RegionHeld3
import Derived.StillTailTactics
import Derived.Deep.RegionLaw
import Derived.Deep.QuietTactic
import Derived.Deep.RegionWith
import Derived.Test.YtbkpokipibgdfaaNL
import Derived.WalkKit
import Derived.ProofKit
import Derived.OpenShut
import Derived.ChangeOld
import Derived.Below
import Derived.Lib.SmallJoins

/- Layer 8, plainly: sorted lists as functions from keys to values. -/
namespace Go.Proofs.Ytbkpokipibgdfaa

abbrev Srt (l : List Pr) : Prop := l.Pairwise (fun x y => x.1 < y.1)
theorem srt_iff {l : List Pr} : SortP l ↔ Srt l := by
  unfold Srt; rw [List.pairwise_iff_getElem]; exact ⟨fun h i j hi hj => h i j hi hj, fun h i j hi hj => h i j hi hj⟩
/-- The value of a key. -/
def look : List Pr → Int → Option Int
  | [], _ => none
  | x :: l, p => if x.1 = p then some x.2 else look l p
theorem look_nil (p : Int) : look [] p = none := rfl
theorem look_same (x : Pr) (l : List Pr) : look (x :: l) x.1 = some x.2 := by simp [look]
theorem look_other {x : Pr} {l : List Pr} {p : Int} (h : x.1 ≠ p) : look (x :: l) p = look l p := by simp [look, h]
theorem look_low {l : List Pr} {p : Int} (h : ∀ y ∈ l, p < y.1) : look l p = none := by
  induction l with
  | nil => rfl
  | cons x l ih =>
    have h1 := h x (by simp)
    rw [look_other (by omega)]
    exact ih fun y hy => h y (List.mem_cons_of_mem _ hy)
theorem look_high {l : List Pr} {p : Int} (h : ∀ y ∈ l, y.1 < p) : look l p = none := by
  induction l with
  | nil => rfl
  | cons x l ih =>
    have h1 := h x (by simp)
    rw [look_other (by omega)]
    exact ih fun y hy => h y (List.mem_cons_of_mem _ hy)
theorem look_none {l : List Pr} {p : Int} : look l p = none ↔ ∀ y ∈ l, y.1 ≠ p := by
  induction l with
  | nil => simp [look]
  | cons x l ih =>
    by_cases h : x.1 = p
    · subst h; simp [look]
    · rw [look_other h, ih]; simp [h]
theorem look_append (l l' : List Pr) (p : Int) : look (l ++ l') p = (look l p).or (look l' p) := by
  induction l with
  | nil => simp [look]
  | cons x l ih =>
    by_cases h : x.1 = p
    · subst h; rw [List.cons_append, look_same, look_same]; rfl
    · rw [List.cons_append, look_other h, look_other h, ih]
theorem srt_head {x : Pr} {l : List Pr} (h : Srt (x :: l)) : ∀ y ∈ l, x.1 < y.1 := (List.pairwise_cons.1 h).1
theorem srt_tail {x : Pr} {l : List Pr} (h : Srt (x :: l)) : Srt l := (List.pairwise_cons.1 h).2
theorem look_ext {l l' : List Pr} (h : Srt l) (h' : Srt l') (he : ∀ p, look l p = look l' p) : l = l' := by
  induction l generalizing l' with
  | nil =>
    cases l' with
    | nil => rfl
    | cons y t => have := he y.1; rw [look_nil, look_same] at this; cases this
  | cons x l ih =>
    cases l' with
    | nil => have := he x.1; rw [look_nil, look_same] at this; cases this
    | cons y t =>
      have e1 := he x.1
      have e2 := he y.1
      rw [look_same] at e1 e2
      have hxy : x.1 = y.1 := by
        rcases Int.lt_trichotomy x.1 y.1 with h1 | h1 | h1
        · rw [look_low (l := y :: t) fun z hz => by
            rcases List.mem_cons.1 hz with rfl | hz
            · exact h1
            · have := srt_head h' z hz; omega] at e1
          cases e1
        · exact h1
        · rw [look_low (l := x :: l) fun z hz => by
            rcases List.mem_cons.1 hz with rfl | hz
            · exact h1
            · have := srt_head h z hz; omega] at e2
          cases e2
      rw [hxy, look_same] at e1
      have hx : x = y := Prod.ext hxy (Option.some.inj e1)
      subst hx
      rw [ih (srt_tail h) (srt_tail h') fun p => by
        by_cases hp : x.1 = p
        · subst hp; rw [look_low (srt_head h), look_low (srt_head h')]
        · have := he p; rw [look_other hp, look_other hp] at this; exact this]
theorem look_getB (l : List Pr) (p : Int) : getB l p = (look l p).isSome := by
  induction l with
  | nil => rfl
  | cons x l ih =>
    unfold getB at ih ⊢
    rw [List.any_cons, ih]
    by_cases h : x.1 = p
    · subst h; rw [look_same]; simp
    · rw [look_other h]; simp [h]
theorem look_getV (l : List Pr) (p : Int) : getV l p = (look l p).getD 0 := by
  induction l with
  | nil => rfl
  | cons x l ih =>
    unfold getV at ih ⊢
    by_cases h : x.1 = p
    · subst h; rw [look_same, List.find?_cons_of_pos (by simp)]; rfl
    · rw [look_other h, List.find?_cons_of_neg (by simpa using h), ih]

/-- What is said of a key in two lists. -/
def chg (a b : List Pr) (p : Int) : Ch := (p, (look a p).getD 0, (look b p).getD 0, (look a p).isSome, (look b p).isSome)
theorem pairs_ind {P : List Pr → List Pr → Prop} (h0 : P [] []) (hl : ∀ x a, P a [] → P (x :: a) []) (hr : ∀ y b, P [] b → P [] (y :: b))
    (hb : ∀ x y a b, y.1 = x.1 → P a b → P (x :: a) (y :: b)) (h1 : ∀ x y a b, x.1 < y.1 → P a (y :: b) → P (x :: a) (y :: b)) (h2 : ∀ x y a b, y.1 < x.1 → P (x :: a) b → P (x :: a) (y :: b)) : ∀ a b, P a b := by
  intro a
  induction a with
  | nil =>
    intro b
    induction b with
    | nil => exact h0
    | cons y b ih => exact hr y b ih
  | cons x a iha =>
    intro b
    induction b with
    | nil => exact hl x a (iha [])
    | cons y b ihb =>
      rcases Int.lt_trichotomy x.1 y.1 with h | h | h
      · exact h1 x y a b h (iha _)
      · exact hb x y a b h.symm (iha b)
      · exact h2 x y a b h ihb
theorem pairs_key (a b : List Pr) : ∀ z ∈ pairs a b, (∃ x ∈ a, x.1 = z.1) ∨ (∃ y ∈ b, y.1 = z.1) := by
  refine pairs_ind (P := fun a b => ∀ z ∈ pairs a b, (∃ x ∈ a, x.1 = z.1) ∨ (∃ y ∈ b, y.1 = z.1)) ?_ ?_ ?_ ?_ ?_ ?_ a b
  · intro z hz; rw [pairs_nil] at hz; cases hz
  · intro x a ih z hz
    rw [pairs_left] at hz
    rcases List.mem_cons.1 hz with rfl | hz
    · exact .inl ⟨x, by simp, rfl⟩
    · rcases ih z hz with ⟨u, hu, e⟩ | ⟨u, hu, e⟩
      · exact .inl ⟨u, List.mem_cons_of_mem _ hu, e⟩
      · cases hu
  · intro y b ih z hz
    rw [pairs_right] at hz
    rcases List.mem_cons.1 hz with rfl | hz
    · exact .inr ⟨y, by simp, rfl⟩
    · rcases ih z hz with ⟨u, hu, e⟩ | ⟨u, hu, e⟩
      · cases hu
      · exact .inr ⟨u, List.mem_cons_of_mem _ hu, e⟩
  · intro x y a b h ih z hz
    rw [pairs_both _ _ _ _ h] at hz
    rcases List.mem_cons.1 hz with rfl | hz
    · exact .inl ⟨x, by simp, rfl⟩
    · rcases ih z hz with ⟨u, hu, e⟩ | ⟨u, hu, e⟩
      · exact .inl ⟨u, List.mem_cons_of_mem _ hu, e⟩
      · exact .inr ⟨u, List.mem_cons_of_mem _ hu, e⟩
  · intro x y a b h ih z hz
    rw [pairs_lt _ _ _ _ h] at hz
    rcases List.mem_cons.1 hz with rfl | hz
    · exact .inl ⟨x, by simp, rfl⟩
    · rcases ih z hz with ⟨u, hu, e⟩ | ⟨u, hu, e⟩
      · exact .inl ⟨u, List.mem_cons_of_mem _ hu, e⟩
      · exact .inr ⟨u, hu, e⟩
  · intro x y a b h ih z hz
    rw [pairs_gt _ _ _ _ h] at hz
    rcases List.mem_cons.1 hz with rfl | hz
    · exact .inr ⟨y, by simp, rfl⟩
    · rcases ih z hz with ⟨u, hu, e⟩ | ⟨u, hu, e⟩
      · exact .inl ⟨u, hu, e⟩
      · exact .inr ⟨u, List.mem_cons_of_mem _ hu, e⟩
theorem pairs_above {a b : List Pr} {p : Int} (ha : ∀ x ∈ a, p < x.1) (hb : ∀ y ∈ b, p < y.1) : ∀ z ∈ pairs a b, p < z.1 := by
  intro z hz
  rcases pairs_key a b z hz with ⟨u, hu, e⟩ | ⟨u, hu, e⟩
  · rw [← e]; exact ha u hu
  · rw [← e]; exact hb u hu
theorem above_cons {y : Pr} {b : List Pr} {p : Int} (h : Srt (y :: b)) (hp : p < y.1) : ∀ z ∈ y :: b, p < z.1 := by
  intro z hz
  rcases List.mem_cons.1 hz with rfl | hz
  · exact hp
  · have := srt_head h z hz; omega
theorem pairs_sorted (a b : List Pr) : Srt a → Srt b → (pairs a b).Pairwise (fun x y => x.1 < y.1) := by
  refine pairs_ind (P := fun a b => Srt a → Srt b → (pairs a b).Pairwise (fun x y => x.1 < y.1)) ?_ ?_ ?_ ?_ ?_ ?_ a b
  · intro _ _; rw [pairs_nil]; exact List.Pairwise.nil
  · intro x a ih ha hb
    rw [pairs_left]
    exact List.pairwise_cons.2 ⟨pairs_above (srt_head ha) (by simp), ih (srt_tail ha) hb⟩
  · intro y b ih ha hb
    rw [pairs_right]
    exact List.pairwise_cons.2 ⟨pairs_above (by simp) (srt_head hb), ih ha (srt_tail hb)⟩
  · intro x y a b h ih ha hb
    rw [pairs_both _ _ _ _ h]
    exact List.pairwise_cons.2 ⟨pairs_above (srt_head ha) (fun z hz => by have := srt_head hb z hz; dsimp only; omega), ih (srt_tail ha) (srt_tail hb)⟩
  · intro x y a b h ih ha hb
    rw [pairs_lt _ _ _ _ h]
    exact List.pairwise_cons.2 ⟨pairs_above (srt_head ha) (above_cons hb h), ih (srt_tail ha) hb⟩
  · intro x y a b h ih ha hb
    rw [pairs_gt _ _ _ _ h]
    exact List.pairwise_cons.2 ⟨pairs_above (above_cons ha h) (srt_head hb), ih ha (srt_tail hb)⟩
theorem chg_other {x : Pr} {a b : List Pr} {p : Int} (h : x.1 ≠ p) : chg (x :: a) b p = chg a b p := by unfold chg; rw [look_other h]
theorem chg_other' {y : Pr} {a b : List Pr} {p : Int} (h : y.1 ≠ p) : chg a (y :: b) p = chg a b p := by unfold chg; rw [look_other h]
theorem pairs_mem (a b : List Pr) : Srt a → Srt b → ∀ z ∈ pairs a b, z = chg a b z.1 := by
  refine pairs_ind (P := fun a b => Srt a → Srt b → ∀ z ∈ pairs a b, z = chg a b z.1) ?_ ?_ ?_ ?_ ?_ ?_ a b
  · intro _ _ z hz; rw [pairs_nil] at hz; cases hz
  · intro x a ih ha hb z hz
    rw [pairs_left] at hz
    rcases List.mem_cons.1 hz with rfl | hz
    · simp [chg, look]
    · have := pairs_above (srt_head ha) (by simp) z hz
      rw [chg_other (by omega)]; exact ih (srt_tail ha) hb z hz
  · intro y b ih ha hb z hz
    rw [pairs_right] at hz
    rcases List.mem_cons.1 hz with rfl | hz
    · simp [chg, look]
    · have := pairs_above (by simp) (srt_head hb) z hz
      rw [chg_other' (by omega)]; exact ih ha (srt_tail hb) z hz
  · intro x y a b h ih ha hb z hz
    rw [pairs_both _ _ _ _ h] at hz
    rcases List.mem_cons.1 hz with rfl | hz
    · simp [chg, look, h]
    · have := pairs_above (p := x.1) (srt_head ha) (fun z hz => by have := srt_head hb z hz; omega) z hz
      rw [chg_other (by omega), chg_other' (by omega)]; exact ih (srt_tail ha) (srt_tail hb) z hz
  · intro x y a b h ih ha hb z hz
    rw [pairs_lt _ _ _ _ h] at hz
    rcases List.mem_cons.1 hz with rfl | hz
    · have := look_low (above_cons hb h)
      simp only [chg, look_same, this]; rfl
    · have := pairs_above (srt_head ha) (above_cons hb h) z hz
      rw [chg_other (by omega)]; exact ih (srt_tail ha) hb z hz
  · intro x y a b h ih ha hb z hz
    rw [pairs_gt _ _ _ _ h] at hz
    rcases List.mem_cons.1 hz with rfl | hz
    · have := look_low (above_cons ha h)
      simp only [chg, look_same, this]; rfl
    · have := pairs_above (above_cons ha h) (srt_head hb) z hz
      rw [chg_other' (by omega)]; exact ih ha (srt_tail hb) z hz
theorem pairs_has (a b : List Pr) : Srt a → Srt b → ∀ p, (look a p).isSome = true ∨ (look b p).isSome = true → chg a b p ∈ pairs a b := by
  refine pairs_ind (P := fun a b => Srt a → Srt b → ∀ p, (look a p).isSome = true ∨ (look b p).isSome = true → chg a b p ∈ pairs a b) ?_ ?_ ?_ ?_ ?_ ?_ a b
  · intro _ _ p h; simp [look] at h
  · intro x a ih ha hb p h
    rw [pairs_left]
    by_cases hp : x.1 = p
    · subst hp; rw [List.mem_cons]; left; simp [chg, look]
    · rw [look_other hp] at h; rw [chg_other hp]; exact List.mem_cons_of_mem _ (ih (srt_tail ha) hb p h)
  · intro y b ih ha hb p h
    rw [pairs_right]
    by_cases hp : y.1 = p
    · subst hp; rw [List.mem_cons]; left; simp [chg, look]
    · rw [look_other hp] at h; rw [chg_other' hp]; exact List.mem_cons_of_mem _ (ih ha (srt_tail hb) p h)
  · intro x y a b e ih ha hb p h
    rw [pairs_both _ _ _ _ e]
    by_cases hp : x.1 = p
    · subst hp; rw [List.mem_cons]; left; simp [chg, look, e]
    · rw [look_other hp, look_other (by omega)] at h; rw [chg_other hp, chg_other' (by omega)]; exact List.mem_cons_of_mem _ (ih (srt_tail ha) (srt_tail hb) p h)
  · intro x y a b e ih ha hb p h
    rw [pairs_lt _ _ _ _ e]
    by_cases hp : x.1 = p
    · subst hp; rw [List.mem_cons]; left
      have := look_low (above_cons hb e)
      simp only [chg, look_same, this]; rfl
    · rw [look_other hp] at h; rw [chg_other hp]; exact List.mem_cons_of_mem _ (ih (srt_tail ha) hb p h)
  · intro x y a b e ih ha hb p h
    rw [pairs_gt _ _ _ _ e]
    by_cases hp : y.1 = p
    · subst hp; rw [List.mem_cons]; left
      have := look_low (above_cons ha e)
      simp only [chg, look_same, this]; rfl
    · rw [look_other (l := b) hp] at h; rw [chg_other' hp]; exact List.mem_cons_of_mem _ (ih ha (srt_tail hb) p h)
/-- Merge, plainly. -/
def mergeP (a b : List Pr) : List Pr := (pairs a b).map mrg
theorem srt_merge {a b : List Pr} (ha : Srt a) (hb : Srt b) : Srt (mergeP a b) := by
  unfold mergeP Srt
  rw [List.pairwise_map]
  exact (pairs_sorted a b ha hb).imp fun h => h
theorem mem_look {l : List Pr} (h : Srt l) {x : Pr} (hx : x ∈ l) : look l x.1 = some x.2 := by
  induction l with
  | nil => cases hx
  | cons y l ih =>
    rcases List.mem_cons.1 hx with rfl | hx
    · exact look_same _ _
    · have := srt_head h x hx
      rw [look_other (by omega)]; exact ih (srt_tail h) hx
theorem look_merge {a b : List Pr} (ha : Srt a) (hb : Srt b) (p : Int) : look (mergeP a b) p = (look b p).or (look a p) := by
  have hs := srt_merge ha hb
  by_cases h : (look a p).isSome = true ∨ (look b p).isSome = true
  · have hm := pairs_has a b ha hb p h
    have hm2 : mrg (chg a b p) ∈ mergeP a b := List.mem_map.2 ⟨_, hm, rfl⟩
    have e := mem_look hs hm2
    have e1 : (mrg (chg a b p)).1 = p := rfl
    rw [e1] at e
    rw [e]
    unfold mrg chg
    dsimp only
    cases hb' : look b p with
    | some v => simp
    | none =>
      cases ha' : look a p with
      | some v => simp
      | none => simp [ha', hb'] at h
  · have ha' : look a p = none := by
      cases h' : look a p with
      | none => rfl
      | some v => exact absurd (.inl (by simp [h'])) h
    have hb' : look b p = none := by
      cases h' : look b p with
      | none => rfl
      | some v => exact absurd (.inr (by simp [h'])) h
    rw [ha', hb']
    refine look_none.2 fun y hy hyp => ?_
    unfold mergeP at hy
    obtain ⟨z, hz, rfl⟩ := List.mem_map.1 hy
    rcases pairs_key a b z hz with ⟨u, hu, e⟩ | ⟨u, hu, e⟩
    · exact look_none.1 ha' u hu (e.trans hyp)
    · exact look_none.1 hb' u hu (e.trans hyp)
theorem merge_assoc {a b c : List Pr} (ha : Srt a) (hb : Srt b) (hc : Srt c) : mergeP (mergeP a b) c = mergeP a (mergeP b c) :=
  look_ext (srt_merge (srt_merge ha hb) hc) (srt_merge ha (srt_merge hb hc)) fun p => by
    rw [look_merge (srt_merge ha hb) hc, look_merge ha hb, look_merge ha (srt_merge hb hc), look_merge hb hc, Option.or_assoc]
theorem merge_self {a : List Pr} (ha : Srt a) : mergeP a a = a :=
  look_ext (srt_merge ha ha) ha fun p => by rw [look_merge ha ha, Option.or_self]
/-- The reference's Clear and Set. -/
def clearP (l : List Pr) (p : Int) : List Pr := l.filter (fun x => x.1 != p)
def setP (l : List Pr) (p v : Int) : List Pr := (clearP l p).takeWhile (fun x => decide (x.1 < p)) ++ (p, v) :: (clearP l p).dropWhile (fun x => decide (x.1 < p))
theorem srt_clear {l : List Pr} (h : Srt l) (p : Int) : Srt (clearP l p) := h.filter _
theorem look_clear (l : List Pr) (p q : Int) : look (clearP l p) q = if q = p then none else look l q := by
  unfold clearP
  induction l with
  | nil => simp [look]
  | cons x l ih =>
    by_cases h : x.1 = p
    · rw [List.filter_cons_of_neg (by simp [h]), ih]
      by_cases hq : q = p
      · rw [if_pos hq, if_pos hq]
      · rw [if_neg hq, if_neg hq, look_other (by omega)]
    · rw [List.filter_cons_of_pos (by simpa using h)]
      by_cases hx : x.1 = q
      · subst hx; rw [look_same, look_same, if_neg h]
      · rw [look_other hx, look_other hx, ih]
theorem clear_ne {l : List Pr} {p : Int} : ∀ x ∈ clearP l p, x.1 ≠ p := by
  intro x hx
  have := (List.mem_filter.1 hx).2
  simpa using this
theorem drop_above {l : List Pr} (h : Srt l) {p : Int} (hn : ∀ x ∈ l, x.1 ≠ p) : ∀ x ∈ l.dropWhile (fun x => decide (x.1 < p)), p < x.1 := by
  induction l with
  | nil => simp
  | cons y l ih =>
    intro x hx
    by_cases hy : y.1 < p
    · rw [List.dropWhile_cons_of_pos (by simpa using hy)] at hx
      exact ih (srt_tail h) (fun z hz => hn z (List.mem_cons_of_mem _ hz)) x hx
    · rw [List.dropWhile_cons_of_neg (by simpa using hy)] at hx
      have h1 := hn y (by simp)
      rcases List.mem_cons.1 hx with rfl | hx
      · omega
      · have := srt_head h x hx; omega
theorem take_below {l : List Pr} {p : Int} : ∀ x ∈ l.takeWhile (fun x => decide (x.1 < p)), x.1 < p := by
  induction l with
  | nil => simp
  | cons y l ih =>
    intro x hx
    by_cases hy : y.1 < p
    · rw [List.takeWhile_cons_of_pos (by simpa using hy)] at hx
      rcases List.mem_cons.1 hx with rfl | hx
      · exact hy
      · exact ih x hx
    · rw [List.takeWhile_cons_of_neg (by simpa using hy)] at hx
      cases hx
theorem srt_set {l : List Pr} (h : Srt l) (p v : Int) : Srt (setP l p v) := by
  have hs := srt_clear h p
  unfold setP Srt
  rw [List.pairwise_append]
  refine ⟨hs.sublist (List.takeWhile_sublist _), List.pairwise_cons.2 ⟨fun x hx => drop_above hs clear_ne x hx, hs.sublist (List.dropWhile_sublist _)⟩, ?_⟩
  intro x hx y hy
  have h1 := take_below x hx
  rcases List.mem_cons.1 hy with rfl | hy
  · exact h1
  · have := drop_above hs clear_ne y hy; omega
theorem look_set {l : List Pr} (h : Srt l) (p v q : Int) : look (setP l p v) q = if q = p then some v else look l q := by
  have hs := srt_clear h p
  unfold setP
  rw [look_append]
  by_cases hq : q = p
  · subst hq
    rw [if_pos rfl, look_high take_below, look_same (q, v)]; rfl
  · rw [if_neg hq, look_other (by dsimp only; omega), ← look_append, List.takeWhile_append_dropWhile, look_clear, if_neg hq]
/-- The reference's Merge. -/
def rmergeP (a b : List Pr) : List Pr := b.foldl (fun o x => setP o x.1 x.2) a
theorem srt_rmerge {a b : List Pr} (ha : Srt a) : Srt (rmergeP a b) := by
  unfold rmergeP
  induction b generalizing a with
  | nil => exact ha
  | cons y b ih => exact ih (srt_set ha _ _)
theorem look_rmerge {a b : List Pr} (ha : Srt a) (hb : Srt b) (p : Int) : look (rmergeP a b) p = (look b p).or (look a p) := by
  unfold rmergeP
  induction b generalizing a with
  | nil => simp [look]
  | cons y b ih =>
    rw [List.foldl_cons, ih (srt_set ha _ _) (srt_tail hb), look_set ha]
    by_cases hp : p = y.1
    · subst hp; rw [if_pos rfl, look_same, look_low (srt_head hb)]; rfl
    · rw [if_neg hp, look_other (by omega)]
theorem rmerge_eq {a b : List Pr} (ha : Srt a) (hb : Srt b) : rmergeP a b = mergeP a b :=
  look_ext (srt_rmerge ha) (srt_merge ha hb) fun p => by rw [look_rmerge ha hb, look_merge ha hb]
theorem set_len (l : List Pr) (p v : Int) : (setP l p v).length ≤ l.length + 1 := by
  have h2 : (clearP l p).length ≤ l.length := List.length_filter_le _ _
  unfold setP
  generalize clearP l p = r at h2 ⊢
  have h1 := congrArg List.length (List.takeWhile_append_dropWhile (p := fun x : Pr => decide (x.1 < p)) (l := r))
  rw [List.length_append] at h1 ⊢
  exact (show (r.takeWhile (fun x : Pr => decide (x.1 < p))).length + ((r.dropWhile (fun x : Pr => decide (x.1 < p))).length + 1) ≤ l.length + 1 from by omega)
theorem merge_len (a b : List Pr) : (mergeP a b).length ≤ a.length + b.length := by
  unfold mergeP; rw [List.length_map]; exact pairs_len a b
end Go.Proofs.Ytbkpokipibgdfaa

/- Layer 8: Small (14). -/
namespace Go.Proofs.Ytbkpokipibgdfaa
open Go.RowKit Go.Lib
set_option linter.unusedVariables false

/-- A list that is small: few styles, few properties, short names. -/
def Sml (l : List St) : Prop := l.length ≤ 24 ∧ ∀ k (h : k < l.length), l[k].props.length ≤ 50 ∧ l[k].name.size ≤ 100
def SmR (l : List St) (e : Ending) : Prop := ∃ b : Bool, e = .returned (.bool b) ∧ (b = true → Sml l)

set_option maxRecDepth 100000 in
set_option maxHeartbeats 8000000 in
theorem small_any (l : List St) (A : Option Addr) (n c : Nat) (hn : l.length = n) (hc : n ≤ c ∧ c ≤ maxLen) (w : World) (hA : LsAt w A l) :
    Calls Try.prog 14 #[.slice A n c] w fun e w' => SmR l e ∧ Below w.heap.size w w' := by
  have hc1 := hc.1
  have hc2 := hc.2
  unfold maxLen at hc2
  have HN := Lib.hid hn
  have HA := Lib.hid hA
  have hb0 := Below.refl w.heap.size w
  clear hn hA hc
  by_cases h24 : n ≤ 24
  · have q0 : ¬ (24 : Int) < (n : Int) := by omega
    go_enter Try.func14, Try.ntmps14
    go_wp2_with fail
    go_loopw [3] (fun s3 wr => ∃ i : Nat, i ≤ n ∧ s3 = .int .i64 (i : Nat) ∧ Hid (∀ k (h : k < l.length), k < i → l[k].props.length ≤ 50 ∧ l[k].name.size ≤ 100) ∧ Hid (Below w.heap.size w wr)) (fun s3 _ => n - (intOf s3).toNat)
    case atStart => exact ⟨0, Nat.zero_le _, rfl, Lib.hid fun j h h' => absurd h' (Nat.not_lt_zero _), Lib.hid hb0⟩
    case round =>
      clear hb0
      obtain ⟨i, hi, rfl, HG, HBK⟩ := hrel
      by_cases hlt : i < n
      · have p0 : (0 : Int) ≤ (i : Int) := by omega
        have p1 : (i : Int) < (n : Int) := by omega
        have hil : i < l.length := by rw [HN.out]; exact hlt
        obtain ⟨g, o, rfl, hg, hcl⟩ := HA.out.pos (by omega)
        obtain ⟨B, cc, _, _, c2, _, _, c5, hx1, hx2, _⟩ := hcl i hil
        have z2 := (HBK.out.cell (p := ⟨g, o + i * 6 + 2, none⟩) hg).trans c2
        have z5 := (HBK.out.cell (p := ⟨g, o + i * 6 + 5, none⟩) hg).trans c5
        have HS := Lib.hid (fun (h1 : l[i].props.length ≤ 50) (h2 : l[i].name.size ≤ 100) k (hk : k < l.length) (hki : k < i + 1) => (if e : k = i then by subst e; exact ⟨h1, h2⟩ else HG.out k hk (by omega) : l[k].props.length ≤ 50 ∧ l[k].name.size ≤ 100))
        unfold maxLen at hx2
        clear hcl c2 c5 hg
        generalize l[i].props.length = m at z5 HS hx1
        generalize l[i].name = s at z2 HS
        by_cases h1 : m ≤ 50
        · have e1 : ¬ (50 : Int) < (m : Int) := by omega
          by_cases h2 : s.size ≤ 100
          · have e2 : ¬ (100 : Int) < (s.size : Int) := by omega
            have HS2 := Lib.hid (HS.out h1 h2)
            clear HS
            go_wp2
            go_roundw
            case rel => exact ⟨i + 1, by omega, by go_num, HS2, HBK⟩
            case measure => simp [intOf]; omega
          · have e2 : (100 : Int) < (s.size : Int) := by omega
            clear HS
            go_wp2
            go_ret
            exact ⟨⟨false, rfl, fun h => by cases h⟩, HBK.out⟩
        · have e1 : (50 : Int) < (m : Int) := by omega
          clear HS
          go_wp2
          go_ret
          exact ⟨⟨false, rfl, fun h => by cases h⟩, HBK.out⟩
      · obtain rfl : i = n := by omega
        have HS := Lib.hid (show Sml l from ⟨by rw [HN.out]; exact h24, fun k h => HG.out k h (by rw [← HN.out]; exact h)⟩)
        go_wp2
        go_ret
        exact ⟨⟨true, rfl, fun _ => HS.out⟩, HBK.out⟩
  · have q0 : (24 : Int) < (n : Int) := by omega
    go_enter Try.func14, Try.ntmps14
    go_wp2
    go_ret
    exact ⟨⟨false, rfl, fun h => by cases h⟩, hb0⟩
end Go.Proofs.Ytbkpokipibgdfaa

/- Layer 8: regions that only read, with calls that allocate. -/
namespace Go.Proofs.Ytbkpokipibgdfaa
open Go.RowKit Go.Lib
set_option linter.unusedVariables false

/-- A world below which W is as it was. -/
structure Bw (W : World) where
  w : World
  h : Below W.heap.size W w
instance bwInh (W : World) : Inhabited (Bw W) := ⟨⟨W, Below.refl _ _⟩⟩
theorem bw_of {W : World} {f : FuncId} {args : Array Value} {v : Value} (h : ∀ p : Bw W, Calls Try.prog f args p.w fun e w' => e = .returned v ∧ Below p.w.heap.size p.w w') (p : Bw W) :
    Calls Try.prog f args p.w fun e w'' => e = .returned v ∧ ∃ p' : Bw W, w'' = p'.w :=
  (h p).mono fun _ w'' ⟨he, hb⟩ => ⟨he, ⟨w'', p.h.trans (hb.mono p.h.size)⟩, rfl⟩
theorem wp_region_bw {id : Nat} {Q : Exit → Act → World → Prop} {a : Act} {W w : World} {l : List Oper} (hm : Try.prog.follows .mixedOrders = true) (hB : Region.lexB .any l.toArray = true) (hw : Below W.heap.size W w)
    (h : wpQuiet Try.prog l.toArray (fun w' => ∃ p : Bw W, w' = p.w) (fun a' => ∀ w', (∃ p : Bw W, w' = p.w) → Q .normal a' w') l a) : (Code.region id l.toArray true).wp Try.prog Q a w :=
  wp_region_quiet (C := fun w' => ∃ p : Bw W, w' = p.w) hm hB ⟨⟨w.drew, hw.drew⟩, rfl⟩ (by simpa using h)
end Go.Proofs.Ytbkpokipibgdfaa

/- Layer 8: a style by value as an argument. -/
namespace Go.Proofs.Ytbkpokipibgdfaa
open Go.RowKit Go.Lib Go.ChangeShapes Go.WideShapes Go.ChangeAt
set_option maxRecDepth 100000 in
theorem open_sty {H : Type} {enc : TypeId × Value → H} {w : World} {r : Reach} {b0 : Nat} {v : Value} {d : DataW H} {p : List MemPlace} (hv : Value.okWide Try.prog w r b0 28 v) (h : DataW.Trod enc Try.prog w 0 (fun _ => true) true 28 v d p) : ∃ (q : St) (B : Option Addr) (c : Nat), v = .agg #[.int .i64 q.id, .int .i64 q.kind, .string q.name, .int .i64 q.base, .int .i64 q.next, .slice B q.props.length c] ∧ StIn q := by
  obtain ⟨cs, rfl, hsz⟩ := okWide_struct Try.underlying28 hv
  obtain ⟨fuel, hf⟩ := h
  obtain ⟨q, B, c, hcs, _, _, _, hq⟩ := open_style (by rw [c28'] at hsz; simpa [Value.cells] using hsz) hf
  refine ⟨q, B, c, ?_, hq⟩
  have : cs.toList = [.int .i64 q.id, .int .i64 q.kind, .string q.name, .int .i64 q.base, .int .i64 q.next, .slice B q.props.length c] := by simpa [Value.cells] using hcs
  rw [← Array.toArray_toList (xs := cs), this]
end Go.Proofs.Ytbkpokipibgdfaa

/- Layer 8: the law of names (4). -/
namespace Go.Proofs.Ytbkpokipibgdfaa
open Go.RowKit Go.Lib
set_option linter.unusedVariables false

def TrueW (w : World) (e : Ending) (w' : World) : Prop := e = .returned (.bool true) ∧ Below w.heap.size w w'
set_option maxRecDepth 100000 in
set_option maxHeartbeats 8000000 in
theorem law_names (s : ByteArray) (hs : s.size ≤ maxLen) (w : World) : Calls Try.prog 4 #[.string s] w (TrueW w) := by
  unfold maxLen at hs
  have cK := Go.Lib.hid (fun w' => known_any w')
  obtain ⟨n, hn⟩ : ∃ n, s.size = n := ⟨_, rfl⟩
  rw [hn] at hs
  by_cases hz : n ≤ 100
  · have hm : min (n : Int) 100 = (n : Int) := by omega
    have hsz : (s.extract 0 n).size ≤ 1000000 := by rw [ByteArray.size_extract]; omega
    have cI := Go.Lib.hid (fun w' => isname_any (s.extract 0 n) hsz w')
    have cR := Go.Lib.hid (fun w' => risname_any (s.extract 0 n) hsz w')
    have p1 : (nmB (s.extract 0 n) == nmB (s.extract 0 n)) = true := by simp
    generalize nmB (s.extract 0 n) = N at cI cR p1
    clear hz hsz
    go_enter Try.func4, Try.ntmps4
    go_wp2_with fail
    (with_reducible refine (cK.out _).mono ?_)
    rintro e w1 ⟨rfl, k1⟩
    go_wp2_with fail
    (with_reducible refine (cI.out _).mono ?_)
    rintro e w2 ⟨rfl, rfl⟩
    go_wp2_with fail
    (with_reducible refine (cR.out _).mono ?_)
    rintro e w3 ⟨rfl, rfl⟩
    go_wp2
    go_ret
    exact ⟨by simp, k1⟩
  · have hm : min (n : Int) 100 = 100 := by omega
    have h40 : (100 : Int) ≤ (n : Int) := by omega
    have h41 : ¬ (n : Int) ≤ 100 := by omega
    have h42 : ¬ n ≤ 100 := by omega
    have hnm : (n : Int) ≤ 9223372036854775807 := by omega
    have hsz : (s.extract 0 100).size ≤ 1000000 := by rw [ByteArray.size_extract]; omega
    have cI := Go.Lib.hid (fun w' => isname_any (s.extract 0 100) hsz w')
    have cR := Go.Lib.hid (fun w' => risname_any (s.extract 0 100) hsz w')
    have p1 : (nmB (s.extract 0 100) == nmB (s.extract 0 100)) = true := by simp
    generalize nmB (s.extract 0 100) = N at cI cR p1
    clear hz hsz hs
    go_enter Try.func4, Try.ntmps4
    go_wp2_with fail
    (with_reducible refine (cK.out _).mono ?_)
    rintro e w1 ⟨rfl, k1⟩
    go_wp2_with fail
    (with_reducible refine (cI.out _).mono ?_)
    rintro e w2 ⟨rfl, rfl⟩
    go_wp2_with fail
    (with_reducible refine (cR.out _).mono ?_)
    rintro e w3 ⟨rfl, rfl⟩
    go_wp2
    go_ret
    exact ⟨by simp, k1⟩
end Go.Proofs.Ytbkpokipibgdfaa
