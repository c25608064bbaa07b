/- Layer 5, plainly: replace gives canonical runs of the values with the range replaced. -/
import Derived.Test.YtioehncdkdfcmaaIq
namespace Go.Proofs.Ytioehncdkdfcmaa
namespace Im

theorem df_append (X Y : List Rn) : Df (X ++ Y) ↔ Df X ∧ Df Y ∧ ∀ x y, X.getLast? = some x → Y.head? = some y → x.2.2 ≠ y.2.2 := by
  induction X with
  | nil => exact ⟨fun h => ⟨trivial, h, fun _ _ h => by simp at h⟩, fun h => h.2.1⟩
  | cons a X ih =>
    cases X with
    | nil =>
      cases Y with
      | nil => exact ⟨fun _ => ⟨trivial, trivial, fun _ _ _ h => by simp at h⟩, fun _ => trivial⟩
      | cons y Y =>
        constructor
        · rintro ⟨h1, h2⟩
          refine ⟨trivial, h2, fun x z hx hz => ?_⟩
          simp at hx hz
          subst hx hz
          exact h1
        · rintro ⟨_, h2, h3⟩
          exact ⟨h3 a y (by simp) (by simp), h2⟩
    | cons b X =>
      have e : (a :: b :: X).getLast? = (b :: X).getLast? := by simp [List.getLast?_cons_cons]
      rw [e]
      constructor
      · rintro ⟨h1, h2⟩
        obtain ⟨g1, g2, g3⟩ := ih.1 h2
        exact ⟨⟨h1, g1⟩, g2, g3⟩
      · rintro ⟨⟨h1, g1⟩, g2, g3⟩
        exact ⟨h1, ih.2 ⟨g1, g2, g3⟩⟩
theorem app_head {J : List Rn} {j r : Rn} (h : J.head? = some j) : ∃ j', (app J r).head? = some j' ∧ j'.2.2 = j.2.2 := by
  unfold app
  split
  · exact ⟨j, h, rfl⟩
  · rcases List.eq_nil_or_concat J with rfl | ⟨A, l, rfl⟩
    · simp at h
    · rw [List.concat_eq_append] at h ⊢
      rw [List.getLast?_concat, List.dropLast_concat]
      dsimp only
      split
      · cases A with
        | nil =>
          simp at h
          subst h
          exact ⟨_, rfl, rfl⟩
        | cons a A => exact ⟨j, by simpa using h, rfl⟩
      · refine ⟨j, ?_, rfl⟩
        rw [List.head?_append, h]; rfl
theorem fold_head (R : List Rn) {J : List Rn} {j : Rn} (h : J.head? = some j) : ∃ j', (R.foldl app J).head? = some j' ∧ j'.2.2 = j.2.2 := by
  induction R generalizing J j with
  | nil => exact ⟨j, h, rfl⟩
  | cons r R ih =>
    obtain ⟨j1, h1, h2⟩ := app_head (r := r) h
    obtain ⟨j2, h3, h4⟩ := ih h1
    exact ⟨j2, h3, h4.trans h2⟩
theorem app_last {J : List Rn} {r : Rn} (h : r.1 < r.2.1) : ∃ j, (app J r).getLast? = some j ∧ j.2.2 = r.2.2 := by
  unfold app
  rw [if_neg (by omega)]
  rcases List.eq_nil_or_concat J with rfl | ⟨A, l, rfl⟩
  · exact ⟨r, by simp, rfl⟩
  · rw [List.concat_eq_append]
    rw [List.getLast?_concat, List.dropLast_concat]
    dsimp only
    split
    · rename_i hv
      exact ⟨_, List.getLast?_concat .., hv⟩
    · exact ⟨r, List.getLast?_concat .., rfl⟩

/-- The runs behind replace: those ahead, those put together, those behind, moved. -/
def replaced (f t d : Int) (A O B N : List Rn) : List Rn := A ++ ((pieces f t d O N).foldl app [] ++ B.map (shift d))
theorem replace_ok {n f t d : Int} {A O B N : List Rn} (hC : Ch 0 (A ++ (O ++ B)) n) (hD : Df (A ++ (O ++ B))) (hf : 0 ≤ f) (hft : f ≤ t) (ht : t ≤ n)
    (hA : ∀ r ∈ A, r.2.1 < f) (hB : ∀ r ∈ B, t < r.1) (hN : Fits f N (t + d)) :
    Ch 0 (replaced f t d A O B N) (n + d) ∧ Df (replaced f t d A O B N) ∧ vals (replaced f t d A O B N) = (vals (A ++ (O ++ B))).take f.toNat ++ vals N ++ (vals (A ++ (O ++ B))).drop t.toNat := by
  obtain ⟨a, cA, hC2⟩ := ch_append.1 hC
  obtain ⟨b, cO, cB⟩ := ch_append.1 hC2
  obtain ⟨dA, dOB, dx⟩ := (df_append A (O ++ B)).1 hD
  obtain ⟨dO, dB, dy⟩ := (df_append O B).1 dOB
  have haA : A = [] ∧ a = 0 ∨ A ≠ [] ∧ a < f := by
    rcases List.eq_nil_or_concat A with rfl | ⟨A', l, rfl⟩
    · exact .inl ⟨rfl, (show (0 : Int) = a from cA).symm⟩
    · rw [List.concat_eq_append] at cA hA ⊢
      obtain ⟨k, _, hl⟩ := ch_append.1 cA
      have h3 : l.2.1 = a := hl.2.2
      have := hA l (by simp)
      exact .inr ⟨by simp, by omega⟩
  have hbB : B = [] ∧ b = n ∨ B ≠ [] ∧ t < b := by
    cases B with
    | nil => exact .inl ⟨rfl, cB⟩
    | cons r B =>
      have h1 := cB.1
      have := hB r (by simp)
      exact .inr ⟨by simp, by omega⟩
  have haf : a ≤ f := by rcases haA with ⟨_, h⟩ | ⟨_, h⟩ <;> omega
  have htb : t ≤ b := by rcases hbB with ⟨_, h⟩ | ⟨_, h⟩ <;> omega
  obtain ⟨j1, j2, j3⟩ := joined_ok cO haf hft htb hN
  have hhead : A ≠ [] → ∃ o O' j, O = o :: O' ∧ ((pieces f t d O N).foldl app []).head? = some j ∧ j.2.2 = o.2.2 := by
    intro hne
    have ha : a < f := by rcases haA with ⟨h, _⟩ | ⟨_, h⟩; exact absurd h hne; exact h
    cases O with
    | nil => have : a = b := cO; omega
    | cons o O' =>
      obtain ⟨g1, g2, _⟩ := cO
      have e : pieces f t d (o :: O') N = clipL f o :: (O'.map (clipL f) ++ N ++ (o :: O').map (clipR t d)) := rfl
      have hne2 : ¬ (clipL f o).2.1 ≤ (clipL f o).1 := by
        show ¬ min o.2.1 f ≤ o.1
        omega
      have e2 : app [] (clipL f o) = [clipL f o] := by unfold app; rw [if_neg hne2]; rfl
      obtain ⟨j, h1, h2⟩ := fold_head (O'.map (clipL f) ++ N ++ (o :: O').map (clipR t d)) (J := [clipL f o]) rfl
      refine ⟨o, O', j, rfl, ?_, h2⟩
      rw [e, List.foldl_cons, e2]
      exact h1
  have hlast : B ≠ [] → ∃ O' o j, O = O' ++ [o] ∧ ((pieces f t d O N).foldl app []).getLast? = some j ∧ j.2.2 = o.2.2 := by
    intro hne
    have hb : t < b := by rcases hbB with ⟨h, _⟩ | ⟨_, h⟩; exact absurd h hne; exact h
    rcases List.eq_nil_or_concat O with rfl | ⟨O', o, rfl⟩
    · have : a = b := cO; omega
    · rw [List.concat_eq_append] at cO ⊢
      obtain ⟨k, _, hl⟩ := ch_append.1 cO
      have h3 : o.2.1 = b := hl.2.2
      have h4 : k < o.2.1 := hl.2.1
      have h5 : o.1 = k := hl.1
      have e : pieces f t d (O' ++ [o]) N = ((O' ++ [o]).map (clipL f) ++ N ++ O'.map (clipR t d)) ++ [clipR t d o] := by
        unfold pieces
        simp [List.map_append]
      obtain ⟨j, h1, h2⟩ := app_last (J := ((O' ++ [o]).map (clipL f) ++ N ++ O'.map (clipR t d)).foldl app []) (r := clipR t d o) (by show max o.1 t + d < o.2.1 + d; omega)
      refine ⟨O', o, j, rfl, ?_, h2⟩
      rw [e, List.foldl_append]
      exact h1
  unfold replaced
  generalize (pieces f t d O N).foldl app [] = J at j1 j2 j3 hhead hlast ⊢
  refine ⟨ch_append.2 ⟨a, cA, ch_append.2 ⟨b + d, j1, ch_shift cB⟩⟩, (df_append _ _).2 ⟨dA, (df_append _ _).2 ⟨j2, df_shift d B dB, ?_⟩, ?_⟩, ?_⟩
  · intro x y hx hy
    cases B with
    | nil => simp at hy
    | cons r B =>
      obtain ⟨O', o, j, rfl, h1, h2⟩ := hlast (by simp)
      have e : x = j := by rw [hx] at h1; exact Option.some.inj h1
      have e2 : y.2.2 = r.2.2 := by simp at hy; rw [← hy]; rfl
      rw [e, e2, h2]
      exact dy o r (List.getLast?_concat ..) rfl
  · intro x y hx hy
    have hne : A ≠ [] := by rintro rfl; simp at hx
    obtain ⟨o, O', j, rfl, h1, h2⟩ := hhead hne
    have e : y = j := by
      rw [List.head?_append, h1] at hy
      exact (Option.some.inj hy).symm
    rw [e, h2]
    exact dx x o hx rfl
  · have lA := ch_len cA
    have lO := ch_len cO
    rw [vals_append, vals_append, vals_append, vals_append, vals_shift, j3]
    generalize vals A = u at lA
    generalize vals O = v at lO
    rw [List.take_append, List.take_append, List.drop_append, List.drop_append]
    have e1 : f.toNat - u.length = (f - a).toNat := by omega
    have e2 : t.toNat - u.length = (t - a).toNat := by omega
    have e3 : (f - a).toNat - v.length = 0 := by omega
    have e4 : (t - a).toNat - v.length = 0 := by omega
    rw [e1, e2, e3, e4, List.take_of_length_le (l := u) (by omega), List.drop_of_length_le (l := u) (by omega), List.take_zero, List.drop_zero, List.append_nil, List.nil_append]
    simp only [List.append_assoc]
end Im
end Go.Proofs.Ytioehncdkdfcmaa
