/- The clusters of layer 2, plainly: pairs (from, to) of units; what the offsets say; locality. -/
import Derived.Test.YtigbmhddkcgjfaaDoorGb
namespace Go.Proofs.YtigbmhddkcgjfaaDoor
namespace Gc

def clGo (r : List Int) (j k : Nat) : List Int → List (Nat × Nat)
  | [] => if 0 < k then [(j, k)] else []
  | c :: cs => if 0 < k ∧ refB r c = true then (j, k) :: clGo (c :: r) k (k + 1) cs else clGo (c :: r) j (k + 1) cs
def cls (cs : List Int) : List (Nat × Nat) := clGo [] 0 0 cs
/-- The boundaries. -/
def bnd (cs : List Int) : List Nat := 0 :: (cls cs).map Prod.snd

theorem cls_nil : cls [] = [] := rfl
theorem cls_cons (c : Int) (cs : List Int) : cls (c :: cs) = clGo [c] 0 1 cs := rfl

theorem clGo_snd (cs : List Int) (r : List Int) (j k : Nat) (hk : 0 < k) : (clGo r j k cs).map (fun x => (x.2 : Int)) = inner r k cs ++ [((k + cs.length : Nat) : Int)] := by
  induction cs generalizing r j k with
  | nil => simp [clGo, hk, inner]
  | cons c cs ih =>
    have e : ((k + (c :: cs).length : Nat) : Int) = ((k + 1 + cs.length : Nat) : Int) := by simp; omega
    rw [e]
    unfold clGo inner
    by_cases h : refB r c = true
    · rw [if_pos ⟨hk, h⟩, if_pos h, List.map_cons, ih _ _ _ (by omega)]; rfl
    · rw [if_neg (fun x => h x.2), if_neg h, ih _ _ _ (by omega)]; rfl

theorem bnd_bounds (cs : List Int) : (bnd cs).map (fun n : Nat => (n : Int)) = bounds cs := by
  unfold bnd
  cases cs with
  | nil => rfl
  | cons c cs =>
    rw [List.map_cons, cls_cons, List.map_map]
    have := clGo_snd cs [c] 0 1 (by decide)
    rw [show ((fun n : Nat => (n : Int)) ∘ Prod.snd : Nat × Nat → Int) = fun x => (x.2 : Int) from rfl, this]
    unfold bounds
    rw [Nat.add_comm]; rfl

/-- The pairs follow one another. -/
theorem clGo_fst (cs : List Int) (r : List Int) (j k : Nat) : ∀ i (h : i < (clGo r j k cs).length), ((clGo r j k cs)[i]).1 = (j :: (clGo r j k cs).map Prod.snd)[i]'(by simp; omega) := by
  induction cs generalizing r j k with
  | nil =>
    intro i h
    unfold clGo at h ⊢
    split at h
    · rename_i hk
      simp only [hk, if_true] at h ⊢
      have : i = 0 := by simp at h; omega
      subst this; rfl
    · simp at h
  | cons c cs ih =>
    intro i h
    unfold clGo at h ⊢
    by_cases hc : 0 < k ∧ refB r c = true
    · simp only [hc, and_self, if_true] at h ⊢
      cases i with
      | zero => rfl
      | succ i =>
        simp only [List.getElem_cons_succ, List.map_cons]
        exact ih _ _ _ i (by simpa using h)
    · rw [if_neg hc] at h
      simp only [hc, if_false] at h ⊢
      exact ih _ _ _ i h

theorem cls_fst (cs : List Int) (i : Nat) (h : i < (cls cs).length) : ((cls cs)[i]).1 = (bnd cs)[i]'(by simp [bnd]; omega) := clGo_fst cs [] 0 0 i h
theorem cls_snd (cs : List Int) (i : Nat) (h : i < (cls cs).length) : ((cls cs)[i]).2 = (bnd cs)[i + 1]'(by simp [bnd]; omega) := by
  simp [bnd]

theorem clGo_ge (cs : List Int) (r : List Int) (j k : Nat) : ∀ x ∈ clGo r j k cs, k ≤ x.2 := by
  induction cs generalizing r j k with
  | nil => intro x hx; unfold clGo at hx; split at hx
           · simp at hx; subst hx; exact Nat.le_refl _
           · cases hx
  | cons c cs ih =>
    intro x hx
    unfold clGo at hx
    split at hx
    · rcases List.mem_cons.1 hx with rfl | hx
      · exact Nat.le_refl _
      · have := ih _ _ _ x hx; omega
    · have := ih _ _ _ x hx; omega
/-- Ascending, up to the end. -/
theorem clGo_up (cs : List Int) (r : List Int) (j k : Nat) (h : j < k) : (j :: (clGo r j k cs).map Prod.snd).Pairwise (· < ·) ∧ (clGo r j k cs ≠ []) ∧ (∀ x ∈ clGo r j k cs, k ≤ x.2 ∧ x.2 ≤ k + cs.length) ∧ ∃ a, (clGo r j k cs).getLast? = some (a, k + cs.length) := by
  induction cs generalizing r j k with
  | nil =>
    have e : clGo r j k [] = [(j, k)] := by unfold clGo; rw [if_pos (by omega)]
    rw [e]
    refine ⟨by simp [h], by simp, by simp, j, by simp⟩
  | cons c cs ih =>
    unfold clGo
    by_cases hc : 0 < k ∧ refB r c = true
    · rw [if_pos hc]
      obtain ⟨h1, h2, h3, a, h4⟩ := ih (c :: r) k (k + 1) (by omega)
      refine ⟨?_, by simp, ?_, a, ?_⟩
      · rw [List.map_cons, List.pairwise_cons]
        refine ⟨?_, h1⟩
        intro x hx
        rcases List.mem_cons.1 hx with rfl | hx
        · exact h
        · have := (List.pairwise_cons.1 h1).1 x hx
          omega
      · intro x hx
        rcases List.mem_cons.1 hx with rfl | hx
        · simp
        · have := h3 x hx; simp; omega
      · rw [List.getLast?_cons, h4]
        simp; omega
    · rw [if_neg hc]
      obtain ⟨h1, h2, h3, a, h4⟩ := ih (c :: r) j (k + 1) (by omega)
      refine ⟨h1, h2, ?_, a, ?_⟩
      · intro x hx
        have := h3 x hx; simp; omega
      · rw [h4]; simp; omega

theorem bnd_up (cs : List Int) : (bnd cs).Pairwise (· < ·) := by
  cases cs with
  | nil => simp [bnd, cls_nil]
  | cons c cs => exact (clGo_up cs [c] 0 1 (by decide)).1
theorem bnd_le (cs : List Int) : ∀ x ∈ bnd cs, x ≤ cs.length := by
  intro x hx
  unfold bnd at hx
  rcases List.mem_cons.1 hx with rfl | hx
  · exact Nat.zero_le _
  · cases cs with
    | nil => cases hx
    | cons c cs =>
      obtain ⟨y, hy, rfl⟩ := List.mem_map.1 hx
      have := (clGo_up cs [c] 0 1 (by decide)).2.2.1 y hy
      simp; omega
theorem bnd_last (cs : List Int) : (bnd cs).getLast? = some cs.length := by
  cases cs with
  | nil => rfl
  | cons c cs =>
    obtain ⟨a, h⟩ := (clGo_up cs [c] 0 1 (by decide)).2.2.2
    unfold bnd
    rw [List.getLast?_cons, List.getLast?_map, cls_cons, h]
    simp; omega
theorem bnd_len (cs : List Int) : (bnd cs).length = (cls cs).length + 1 := by simp [bnd]
theorem bnd_length_le (cs : List Int) : (cls cs).length ≤ cs.length := by
  have key : ∀ (cs : List Int) (r : List Int) (j k : Nat), (clGo r j k cs).length ≤ cs.length + 1 := by
    intro cs
    induction cs with
    | nil => intro r j k; unfold clGo; split <;> simp
    | cons c cs ih =>
      intro r j k
      unfold clGo
      split
      · have := ih (c :: r) k (k + 1); simp; omega
      · have := ih (c :: r) j (k + 1); simp; omega
  cases cs with
  | nil => simp [cls_nil]
  | cons c cs => have := key cs [c] 0 1; rw [cls_cons]; simp; omega
theorem cls_range (cs : List Int) (x : Nat × Nat) (hx : x ∈ cls cs) : x.1 < x.2 ∧ x.2 ≤ cs.length := by
  obtain ⟨i, hi, rfl⟩ := List.getElem_of_mem hx
  rw [cls_fst cs i hi, cls_snd cs i hi]
  refine ⟨?_, bnd_le cs _ (List.getElem_mem _)⟩
  exact List.pairwise_iff_getElem.1 (bnd_up cs) i (i + 1) _ _ (by omega)

/-! ### locality -/
theorem pic_app (a b : List Int) (hb : pic b = false) : pic (a ++ b) = pic a := by
  induction a with
  | nil => simpa [pic] using hb
  | cons x a ih => simp [pic, ih]
theorem pic_ext (a b : List Int) (f : Int) (h : f ≠ 4) : pic (a ++ f :: b) = pic (a ++ [f]) := by
  induction a with
  | nil => simp [pic, h]
  | cons x a ih => simp [pic, ih]
theorem joins_app (a b : List Int) (f : Int) (h : (f ≠ 4 ∧ f ≠ 5) ∨ pic b = false) : joins (a ++ f :: b) = joins (a ++ [f]) := by
  cases a with
  | nil =>
    simp only [List.nil_append, joins]
    rcases h with h | h
    · simp [h.2]
    · simp [h, pic]
  | cons x a =>
    simp only [List.cons_append, joins]
    rcases h with h | h
    · rw [pic_ext _ _ _ h.1]
    · rw [show a ++ f :: b = (a ++ [f]) ++ b by simp, pic_app _ _ h]
theorem regs_app (a b : List Int) (f : Int) (h : f ≠ 13 ∨ regs b % 2 = 0) : regs (a ++ f :: b) % 2 = regs (a ++ [f]) % 2 := by
  induction a with
  | nil =>
    simp only [List.nil_append, regs]
    rcases h with h | h
    · simp [h]
    · split <;> omega
  | cons x a ih =>
    simp only [List.cons_append, regs]
    split <;> omega

theorem control_pic (b : List Int) (h : control (b.headD 0) = true) : pic b = false ∧ regs b = 0 := by
  cases b with
  | nil => exact ⟨rfl, rfl⟩
  | cons x b =>
    simp [control] at h
    have h1 : x ≠ 14 := by omega
    have h2 : x ≠ 4 := by omega
    have h3 : x ≠ 13 := by omega
    exact ⟨by simp [pic, h1, h2], by simp [regs, h3]⟩

/-- What stands before a boundary doesn't matter behind it. -/
theorem refB_local (a b : List Int) (f c : Int) (h : b = [] ∨ refB b f = true) : refB (a ++ f :: b) c = refB (a ++ [f]) c := by
  rcases h with rfl | h
  · rfl
  have hj : joins (a ++ f :: b) = joins (a ++ [f]) := by
    refine joins_app a b f ?_
    by_cases hf : f = 4 ∨ f = 5
    · refine .inr ?_
      unfold refB at h
      dsimp only at h
      split at h
      · cases h
      · split at h
        · rename_i h1
          have h2 : control (b.headD 0) = true := by
            rcases hf with rfl | rfl
            · simpa [control] using h1
            · simpa [control] using h1
          exact (control_pic b h2).1
        · rename_i h1
          rw [if_pos] at h
          · cases h
          · rcases hf with rfl | rfl <;> simp
    · exact .inl (by omega)
  have hr : regs (a ++ f :: b) % 2 = regs (a ++ [f]) % 2 := by
    refine regs_app a b f ?_
    by_cases hf : f = 13
    · refine .inr ?_
      subst hf
      unfold refB at h
      dsimp only at h
      split at h
      · cases h
      · split at h
        · rename_i h1
          have h2 : control (b.headD 0) = true := by simpa [control] using h1
          rw [(control_pic b h2).2]
        · split at h
          · cases h
          · split at h
            · cases h
            · by_cases ho : regs b % 2 = 1
              · have := regs_head b ho
                rw [this] at h
                simp [ho] at h
              · omega
    · exact .inl hf
  have hh : (a ++ f :: b).headD 0 = (a ++ [f]).headD 0 := by cases a <;> rfl
  unfold refB
  rw [hj, hr, hh]

/-- Behind a boundary, the clusters are those of the rest, moved. -/
theorem clGo_rest (cs : List Int) (a b : List Int) (f : Int) (h : b = [] ∨ refB b f = true) (j k m : Nat) (hk : 0 < k) :
    clGo (a ++ f :: b) (j + m) (k + m) cs = (clGo (a ++ [f]) j k cs).map fun x => (x.1 + m, x.2 + m) := by
  induction cs generalizing a j k with
  | nil => simp only [clGo]; rw [if_pos (by omega), if_pos hk]; rfl
  | cons c cs ih =>
    unfold clGo
    rw [refB_local a b f c h]
    by_cases hc : refB (a ++ [f]) c = true
    · rw [if_pos ⟨by omega, hc⟩, if_pos ⟨hk, hc⟩, List.map_cons]
      have := ih (c :: a) k (k + 1) (by omega)
      rw [show k + 1 + m = k + m + 1 by omega] at this
      rw [List.cons_append, List.cons_append] at this
      rw [this]
    · rw [if_neg (fun x => hc x.2), if_neg (fun x => hc x.2)]
      have := ih (c :: a) j (k + 1) (by omega)
      rw [show k + 1 + m = k + m + 1 by omega] at this
      rw [List.cons_append, List.cons_append] at this
      exact this

/-- At the i-th cluster's beginning b, the clusters from there on are those of the classes from b on. -/
theorem clGo_drop (cs : List Int) (r : List Int) (j k : Nat) (hj : 0 < k) (i : Nat) (h : i + 1 < (clGo r j k cs).length) :
    (clGo r j k cs).drop (i + 1) = (cls (cs.drop (((clGo r j k cs)[i]).2 - k))).map fun x => (x.1 + ((clGo r j k cs)[i]).2, x.2 + ((clGo r j k cs)[i]).2) := by
  induction cs generalizing r j k i with
  | nil =>
    have e : clGo r j k [] = [(j, k)] := by unfold clGo; rw [if_pos hj]
    rw [e] at h; simp at h
  | cons c cs ih =>
    by_cases hc : refB r c = true
    · have e : clGo r j k (c :: cs) = (j, k) :: clGo (c :: r) k (k + 1) cs := by
        conv => lhs; unfold clGo
        rw [if_pos ⟨hj, hc⟩]
      rw [e] at h
      simp only [e]
      cases i with
      | zero =>
        simp only [Nat.zero_add, List.drop_one, List.tail_cons, List.getElem_cons_zero, Nat.sub_self, List.drop_zero]
        have := clGo_rest cs [] r c (.inr hc) 0 1 k (by decide)
        rw [List.nil_append, List.nil_append, Nat.zero_add, Nat.add_comm] at this
        rw [this, cls_cons]
      | succ i =>
        rw [List.drop_succ_cons]
        simp only [List.getElem_cons_succ]
        rw [ih (c :: r) k (k + 1) (by omega) i (by simpa using h)]
        have h3 := (clGo_up cs (c :: r) k (k + 1) (by omega)).2.2.1 _ (List.getElem_mem (l := clGo (c :: r) k (k + 1) cs) (n := i) (by simp at h; omega))
        have e2 : ((clGo (c :: r) k (k + 1) cs)[i]'(by simp at h; omega)).2 - k = (((clGo (c :: r) k (k + 1) cs)[i]'(by simp at h; omega)).2 - (k + 1)) + 1 := by omega
        rw [e2, List.drop_succ_cons]
    · have e : clGo r j k (c :: cs) = clGo (c :: r) j (k + 1) cs := by
        conv => lhs; unfold clGo
        rw [if_neg (fun x => hc x.2)]
      rw [e] at h
      simp only [e]
      rw [ih (c :: r) j (k + 1) (by omega) i h]
      have h3 := clGo_ge cs (c :: r) j (k + 1) _ (List.getElem_mem (l := clGo (c :: r) j (k + 1) cs) (n := i) (by omega))
      have e2 : ((clGo (c :: r) j (k + 1) cs)[i]'(by omega)).2 - k = (((clGo (c :: r) j (k + 1) cs)[i]'(by omega)).2 - (k + 1)) + 1 := by omega
      rw [e2, List.drop_succ_cons]
end Gc
end Go.Proofs.YtigbmhddkcgjfaaDoor
