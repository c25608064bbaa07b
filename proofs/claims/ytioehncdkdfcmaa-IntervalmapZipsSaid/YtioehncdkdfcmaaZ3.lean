/- Layer 5, plainly: what two maps' runs give side by side. -/
import Derived.Test.YtioehncdkdfcmaaZ1
namespace Go.Proofs.Ytioehncdkdfcmaa
namespace Im2

def zipP (r o : Rn) : Rq := (o.1, o.2.1, (r.2.2, o.2.2))
def zipR (RA RB : List Rn) : List Rq := RA.flatMap fun r => (Im.partsW r.1 r.2.1 RB).map (zipP r)
theorem zipR_cons (r : Rn) (RA RB : List Rn) : zipR (r :: RA) RB = (Im.partsW r.1 r.2.1 RB).map (zipP r) ++ zipR RA RB := rfl
theorem zipR_snoc (r : Rn) (RA RB : List Rn) : zipR (RA ++ [r]) RB = zipR RA RB ++ (Im.partsW r.1 r.2.1 RB).map (zipP r) := by simp [zipR]
theorem parts_pos (f t : Int) (R : List Rn) : ∀ p ∈ Im.parts f t R, p.1 < p.2.1 := by
  induction R with
  | nil => intro p hp; cases hp
  | cons r R ih =>
    intro p hp
    by_cases h : (Im.prt f t r).2.1 ≤ (Im.prt f t r).1
    · rw [Im.parts_stop h] at hp; cases hp
    · rw [Im.parts_go h] at hp
      rcases List.mem_cons.1 hp with rfl | hp
      · omega
      · exact ih p hp
theorem fits_ch {m e : Int} {L : List Rn} (h : Im.Fits m L e) (hp : ∀ p ∈ L, p.1 < p.2.1) : Im.Ch m L e := by
  induction L generalizing m with
  | nil => exact h
  | cons r L ih =>
    obtain ⟨m', h1, h2⟩ := h
    have hr := hp r (List.mem_cons_self ..)
    rcases h1 with ⟨h1, _⟩ | ⟨h1, h3, rfl⟩
    · omega
    · exact ⟨h1, by omega, ih h2 (fun p hq => hp p (List.mem_cons_of_mem _ hq))⟩
theorem df_tail {r : Rn} {R : List Rn} (h : Im.Df (r :: R)) : Im.Df R := by
  cases R with
  | nil => trivial
  | cons q R => exact h.2
theorem df_dropWhile (p : Rn → Bool) {R : List Rn} (h : Im.Df R) : Im.Df (R.dropWhile p) := by
  induction R with
  | nil => exact h
  | cons r R ih =>
    rw [List.dropWhile_cons]
    split
    · exact ih (df_tail h)
    · exact h
theorem parts_df (f t : Int) {R : List Rn} (h : Im.Df R) : Im.Df (Im.parts f t R) := by
  induction R with
  | nil => exact h
  | cons r R ih =>
    by_cases hs : (Im.prt f t r).2.1 ≤ (Im.prt f t r).1
    · rw [Im.parts_stop hs]; trivial
    · rw [Im.parts_go hs]
      have i := ih (df_tail h)
      cases R with
      | nil => exact trivial
      | cons q R =>
        by_cases hq : (Im.prt f t q).2.1 ≤ (Im.prt f t q).1
        · rw [Im.parts_stop hq]; trivial
        · rw [Im.parts_go hq] at i ⊢
          exact ⟨h.1, i⟩
theorem ch_map (r : Rn) {m e : Int} {L : List Rn} (h : Im.Ch m L e) : Ch m (L.map (zipP r)) e := by
  induction L generalizing m with
  | nil => exact h
  | cons q L ih => exact ⟨h.1, h.2.1, ih h.2.2⟩
theorem df_map (r : Rn) {L : List Rn} (h : Im.Df L) : Df (L.map (zipP r)) := by
  induction L with
  | nil => trivial
  | cons q L ih =>
    cases L with
    | nil => trivial
    | cons p L => exact ⟨fun e => h.1 (Prod.mk.inj e).2, ih h.2⟩
theorem vals_map (r : Rn) (L : List Rn) : vals (L.map (zipP r)) = (Im.vals L).map (Prod.mk r.2.2) := by
  induction L with
  | nil => rfl
  | cons q L ih => rw [List.map_cons, vals_cons, Im.vals_cons, ih, List.map_append, List.map_replicate]; rfl
theorem df_cat {A B : List Rq} (hA : Df A) (hB : Df B) (h : ∀ a ∈ A, ∀ b, B.head? = some b → a.2.2 ≠ b.2.2) : Df (A ++ B) := by
  induction A with
  | nil => exact hB
  | cons a A ih =>
    cases A with
    | nil =>
      cases B with
      | nil => trivial
      | cons b B => exact ⟨h a (List.mem_cons_self ..) b rfl, hB⟩
    | cons c A => exact ⟨hA.1, ih hA.2 (fun x hx => h x (List.mem_cons_of_mem _ hx))⟩
theorem zip_rep (v : Int) (n : Nat) (Y : List Int) (h : Y.length = n) : (List.replicate n v).zip Y = Y.map (Prod.mk v) := by
  induction Y generalizing n with
  | nil => subst h; rfl
  | cons y Y ih => subst h; rw [List.length_cons, List.replicate_succ, List.zip_cons_cons, ih _ rfl]; rfl
theorem zipR_ok {s e : Int} {RA RB : List Rn} (hA : Im.Ch s RA e) (dA : Im.Df RA) (hB : Im.Ch 0 RB e) (dB : Im.Df RB) (hs : 0 ≤ s) :
    Ch s (zipR RA RB) e ∧ Df (zipR RA RB) ∧ (∀ b, (zipR RA RB).head? = some b → ∃ r, RA.head? = some r ∧ b.2.2.1 = r.2.2) ∧ vals (zipR RA RB) = (Im.vals RA).zip ((Im.vals RB).drop s.toNat) := by
  induction RA generalizing s with
  | nil => exact ⟨hA, trivial, fun b hb => by simp [zipR] at hb, by simp [zipR, vals, Im.vals]⟩
  | cons r RA ih =>
    obtain ⟨h1, h2, h3⟩ := hA
    have hle := Im.ch_le h3
    obtain ⟨i1, i2, i3, i4⟩ := ih h3 (df_tail dA) (by omega)
    obtain ⟨p1, p2⟩ := Im.parts_ok (f := r.1) (t := r.2.1) hB (by omega) (by omega) hle
    have pc : Im.Ch r.1 (Im.partsW r.1 r.2.1 RB) r.2.1 := fits_ch p1 (parts_pos _ _ _)
    have pd : Im.Df (Im.partsW r.1 r.2.1 RB) := parts_df _ _ (df_dropWhile _ dB)
    rw [zipR_cons]
    refine ⟨ch_append.2 ⟨r.2.1, h1 ▸ ch_map r pc, i1⟩, df_cat (df_map r pd) i2 ?_, ?_, ?_⟩
    · intro a ha b hb e
      obtain ⟨q, hq, hv⟩ := i3 b hb
      obtain ⟨o, _, rfl⟩ := List.mem_map.1 ha
      cases RA with
      | nil => cases hq
      | cons q' RA =>
        cases hq
        refine dA.1 ?_
        rw [← hv, ← e]
        rfl
    · intro b hb
      refine ⟨r, rfl, ?_⟩
      cases hP : Im.partsW r.1 r.2.1 RB with
      | nil => rw [hP] at pc; have : r.1 = r.2.1 := pc; omega
      | cons o P => rw [hP] at hb; cases hb; rfl
    · have hlen := Im.ch_len hB
      rw [vals_append, vals_map, p2, i4, Im.vals_cons, Int.sub_zero, h1]
      have e1 : (Im.vals RB).drop s.toNat = ((Im.vals RB).drop s.toNat).take (r.2.1 - s).toNat ++ (Im.vals RB).drop r.2.1.toNat := by
        conv => lhs; rw [← List.take_append_drop (r.2.1 - s).toNat ((Im.vals RB).drop s.toNat)]
        rw [List.drop_drop]
        congr 2
        omega
      have e2 : (((Im.vals RB).drop s.toNat).take (r.2.1 - s).toNat).length = (r.2.1 - s).toNat := by
        rw [List.length_take, List.length_drop]; omega
      conv => rhs; rw [e1]
      rw [List.zip_append (by rw [List.length_replicate, e2]), zip_rep _ _ _ e2]
/-- The pairs of two maps are the reference's. -/
theorem zipR_runs (la lb : List Int) (h : la.length = lb.length) : zipR (Im.runs la) (Im.runs lb) = runs (la.zip lb) := by
  obtain ⟨a1, a2, a3⟩ := Im.runs_ok la
  obtain ⟨b1, b2, b3⟩ := Im.runs_ok lb
  rw [← h] at b1
  obtain ⟨z1, z2, _, z4⟩ := zipR_ok a1 a2 b1 b2 (Int.le_refl 0)
  rw [runs_unique z1 z2, z4, a3, b3]
  rfl
theorem zipR_len (RA RB : List Rn) : (zipR RA RB).length ≤ RA.length * RB.length := by
  induction RA with
  | nil => simp [zipR]
  | cons r RA ih =>
    rw [zipR_cons, List.length_append, List.length_map, List.length_cons, Nat.succ_mul]
    have h1 : (Im.partsW r.1 r.2.1 RB).length ≤ RB.length := by
      unfold Im.partsW
      have := Im.parts_len r.1 r.2.1 (RB.dropWhile fun x => decide (x.2.1 ≤ r.1))
      have h2 : (RB.dropWhile fun x => decide (x.2.1 ≤ r.1)).length ≤ RB.length := (List.dropWhile_sublist _).length_le
      omega
    omega
theorem runs_len (l : List (Int × Int)) : (runs l).length ≤ l.length := by
  obtain ⟨h1, _, h3⟩ := runs_ok l
  have key : ∀ (R : List Rq) (s e : Int), Ch s R e → R.length ≤ (vals R).length := by
    intro R
    induction R with
    | nil => intro _ _ _; exact Nat.le_refl _
    | cons r R ih =>
      intro s e h
      have := ih _ _ h.2.2
      have h1 := h.1
      have h2 := h.2.1
      rw [vals_cons, List.length_append, List.length_replicate, List.length_cons]
      omega
  have := key _ _ _ h1
  rw [h3] at this
  exact this
/-- What has been paired so far is not longer than all of it. -/
theorem zipR_pre (RA RA' RB : List Rn) : (zipR RA RB).length ≤ (zipR (RA ++ RA') RB).length := by
  simp only [zipR, List.flatMap_append, List.length_append]; omega
end Im2
end Go.Proofs.Ytioehncdkdfcmaa
