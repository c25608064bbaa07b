/- Layer 8, plainly: what a style has with another base. -/
import Derived.Test.YtbkpokipibgdfaaUH
import Derived.Test.YtbkpokipibgdfaaUF
namespace Go.Proofs.Ytbkpokipibgdfaa
open Go.Lib
set_option linter.unusedVariables false

/-- Lists of properties that are said key by key. -/
def keyF (G : Int → Option Int) (r : Row) : Option Pr := (G r.1).map fun v => (r.1, v)
def keyT (G : Int → Option Int) (T : List Row) : List Pr := T.filterMap (keyF G)
theorem key_key {G : Int → Option Int} {T : List Row} {x : Pr} (hx : x ∈ keyT G T) : ∃ r ∈ T, r.1 = x.1 := by
  obtain ⟨r, hr, e⟩ := List.mem_filterMap.1 hx
  unfold keyF at e
  obtain ⟨v, _, rfl⟩ := Option.map_eq_some_iff.1 e
  exact ⟨r, hr, rfl⟩
theorem key_srt (G : Int → Option Int) : ∀ T : List Row, (T.map (·.1)).Pairwise (· < ·) → Srt (keyT G T) := by
  intro T
  induction T with
  | nil => intro _; exact List.Pairwise.nil
  | cons t T ih =>
    intro h
    rw [List.map_cons, List.pairwise_cons] at h
    unfold keyT
    rw [List.filterMap_cons]
    cases e : keyF G t with
    | none => exact ih h.2
    | some y =>
      refine List.pairwise_cons.2 ⟨fun z hz => ?_, ih h.2⟩
      obtain ⟨r, hr, e2⟩ := key_key (G := G) hz
      unfold keyF at e
      obtain ⟨v, _, rfl⟩ := Option.map_eq_some_iff.1 e
      rw [← e2]
      exact h.1 r.1 (List.mem_map.2 ⟨r, hr, rfl⟩)
theorem look_key (G : Int → Option Int) (p : Int) : ∀ T : List Row, look (keyT G T) p = if p ∈ T.map (·.1) then G p else none := by
  intro T
  induction T with
  | nil => rfl
  | cons t T ih =>
    unfold keyT at ih ⊢
    rw [List.filterMap_cons]
    by_cases hp : t.1 = p
    · rw [if_pos (by rw [List.map_cons, hp]; exact List.mem_cons_self)]
      cases e : G p with
      | none =>
        have e2 : keyF G t = none := by unfold keyF; rw [hp, e]; rfl
        rw [e2]
        dsimp only
        rw [ih, e]
        split <;> rfl
      | some v =>
        have e2 : keyF G t = some (t.1, v) := by unfold keyF; rw [hp, e]; rfl
        rw [e2]
        dsimp only
        rw [← hp]
        exact look_same (t.1, v) _
    · have hm : (p ∈ (t :: T).map (·.1)) ↔ p ∈ T.map (·.1) := by
        rw [List.map_cons, List.mem_cons]
        exact ⟨fun h => h.resolve_left (fun e => hp e.symm), .inr⟩
      have fin : look (T.filterMap (keyF G)) p = if p ∈ (t :: T).map (·.1) then G p else none := by
        rw [ih]
        by_cases h : p ∈ T.map (·.1)
        · rw [if_pos h, if_pos (hm.2 h)]
        · rw [if_neg h, if_neg (fun hh => h (hm.1 hh))]
      cases e : keyF G t with
      | none => exact fin
      | some y =>
        unfold keyF at e
        obtain ⟨v, _, rfl⟩ := Option.map_eq_some_iff.1 e
        exact (look_other (x := (t.1, v)) hp).trans fin
theorem key_in (G : Int → Option Int) : InT (keyT G tabP) := ⟨key_srt G tabP tab_srt, fun x hx => key_key hx⟩
theorem key_take (G : Int → Option Int) (k : Nat) (h : k < tabP.length) : keyT G (tabP.take (k + 1)) = keyT G (tabP.take k) ++ (keyF G tabP[k]).toList := by
  unfold keyT
  rw [List.take_succ_eq_append_getElem h, List.filterMap_append]
  congr 1
/-- What must be set over an inherited list, so that a key has its value. -/
def ovG (a b : List Pr) (p : Int) : Option Int := match look b p, look a p with
  | some v, some w => if v ≠ w then some v else none
  | some v, none => some v
  | none, some w => if w ≠ (rowZ p).2.2.2.2.2 then some (rowZ p).2.2.2.2.2 else none
  | none, none => none
theorem ovC_key {c : Ch} {y : Pr} (h : ovC c = some y) : y.1 = c.1 := by
  unfold ovC at h
  by_cases h1 : c.2.2.2.2 = true
  · rw [if_pos h1] at h; cases h; rfl
  · rw [if_neg h1] at h
    by_cases h2 : (rowZ c.1).2.2.2.2.2 ≠ c.2.1
    · rw [if_pos h2] at h; cases h; rfl
    · rw [if_neg h2] at h; cases h
theorem ov_find (p : Int) : ∀ C : List Ch, C.Pairwise (fun x y => x.1 < y.1) → look (C.filterMap ovC) p = (C.find? (fun c => c.1 == p)).bind fun c => (ovC c).map (·.2) := by
  intro C
  induction C with
  | nil => intro _; rfl
  | cons c C ih =>
    intro h
    obtain ⟨h1, h2⟩ := List.pairwise_cons.1 h
    rw [List.filterMap_cons]
    by_cases hp : c.1 = p
    · rw [List.find?_cons_of_pos (by simpa using hp)]
      cases e : ovC c with
      | none =>
        rw [look_none.2]
        · simp [e]
        · intro y hy e2
          obtain ⟨c', hc', e3⟩ := List.mem_filterMap.1 hy
          have := h1 c' hc'
          rw [← ovC_key e3, e2, hp] at this
          omega
      | some y =>
        have hy := ovC_key e
        dsimp only
        rw [← hp, ← hy, look_same]
        simp [e]
    · rw [List.find?_cons_of_neg (by simpa using hp)]
      cases e : ovC c with
      | none => exact ih h2
      | some y =>
        have hy := ovC_key e
        dsimp only
        rw [look_other (by rw [hy]; exact hp)]
        exact ih h2
theorem ov_srt {C : List Ch} (h : C.Pairwise (fun x y => x.1 < y.1)) : Srt (C.filterMap ovC) := by
  induction C with
  | nil => exact List.Pairwise.nil
  | cons c C ih =>
    obtain ⟨h1, h2⟩ := List.pairwise_cons.1 h
    rw [List.filterMap_cons]
    cases e : ovC c with
    | none => exact ih h2
    | some y =>
      refine List.pairwise_cons.2 ⟨fun z hz => ?_, ih h2⟩
      obtain ⟨c', hc', e3⟩ := List.mem_filterMap.1 hz
      rw [ovC_key e, ovC_key e3]
      exact h1 c' hc'
theorem ov_eq {a b : List Pr} (ha : InT a) (hb : InT b) : ovL a b = keyT (ovG a b) tabP := by
  have hs := (pairs_sorted a b ha.1 hb.1).filter dif
  refine look_ext (ov_srt hs) (key_in _).1 fun p => ?_
  unfold ovL
  rw [ov_find p _ hs, look_key]
  have hmem : ∀ c ∈ (pairs a b).filter dif, c = chg a b c.1 := fun c hc => pairs_mem a b ha.1 hb.1 c (List.mem_filter.1 hc).1
  by_cases hT : p ∈ tabP.map (·.1)
  · rw [if_pos hT]
    cases hf : ((pairs a b).filter dif).find? (fun c => c.1 == p) with
    | some c =>
      have hc := List.mem_of_find?_eq_some hf
      have hk : c.1 = p := by simpa using List.find?_some hf
      have hcc := hmem c hc
      rw [hk] at hcc
      have hd := (List.mem_filter.1 hc).2
      have hkey := pairs_key a b c (List.mem_filter.1 hc).1
      subst hcc
      show (ovC (chg a b p)).map (·.2) = ovG a b p
      unfold chg ovC ovG
      unfold chg dif at hd
      dsimp only at hd ⊢
      cases hb' : look b p with
      | some v =>
        cases ha' : look a p with
        | some w =>
          rw [hb', ha'] at hd
          simp at hd
          simp
          intro e
          exact hd e.symm
        | none => simp
      | none =>
        cases ha' : look a p with
        | some w =>
          simp
          by_cases hw : (rowZ p).2.2.2.2.2 = w
          · simp [hw]
          · simp [hw]
            exact fun e => hw e.symm
        | none =>
          exfalso
          rw [look_none] at hb' ha'
          rcases hkey with ⟨y, hy, e⟩ | ⟨y, hy, e⟩
          · exact ha' y hy e
          · exact hb' y hy e
    | none =>
      rw [List.find?_eq_none] at hf
      have hno : ¬ chg a b p ∈ (pairs a b).filter dif := fun h => hf _ h (by simp [chg])
      show none = ovG a b p
      unfold ovG
      cases hb' : look b p with
      | some v =>
        have hp := pairs_has a b ha.1 hb.1 p (.inr (by rw [hb']; rfl))
        have hd : dif (chg a b p) = false := by
          cases h : dif (chg a b p) with
          | false => rfl
          | true => exact absurd (List.mem_filter.2 ⟨hp, h⟩) hno
        unfold chg dif at hd
        rw [hb'] at hd
        cases ha' : look a p with
        | some w =>
          rw [ha'] at hd
          simp at hd
          simp [hd]
        | none => rw [ha'] at hd; simp at hd
      | none =>
        cases ha' : look a p with
        | some w =>
          have hp := pairs_has a b ha.1 hb.1 p (.inl (by rw [ha']; rfl))
          have hd : dif (chg a b p) = false := by
            cases h : dif (chg a b p) with
            | false => rfl
            | true => exact absurd (List.mem_filter.2 ⟨hp, h⟩) hno
          unfold chg dif at hd
          rw [hb', ha'] at hd
          simp at hd
        | none => rfl
  · rw [if_neg hT]
    have : ((pairs a b).filter dif).find? (fun c => c.1 == p) = none := by
      rw [List.find?_eq_none]
      intro c hc e
      have hk : c.1 = p := by simpa using e
      rcases pairs_key a b c (List.mem_filter.1 hc).1 with ⟨y, hy, e2⟩ | ⟨y, hy, e2⟩
      · obtain ⟨r, hr, e3⟩ := ha.2 y hy
        exact hT (List.mem_map.2 ⟨r, hr, e3.trans (e2.trans hk)⟩)
      · obtain ⟨r, hr, e3⟩ := hb.2 y hy
        exact hT (List.mem_map.2 ⟨r, hr, e3.trans (e2.trans hk)⟩)
    rw [this]
    rfl
end Go.Proofs.Ytbkpokipibgdfaa
