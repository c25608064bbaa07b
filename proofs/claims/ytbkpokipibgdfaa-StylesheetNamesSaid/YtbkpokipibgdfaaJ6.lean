/- Layer 7: lists of properties as values; ordered. -/
import Derived.Test.YtbkpokipibgdfaaJ4
import Derived.Test.YtbkpokipibgdfaaHd
import Derived.Deep.QuietTactic
import Derived.BigQuiet
import Derived.OwnWalk
import Derived.Maps.AppendAt
namespace Go.Proofs.Ytbkpokipibgdfaa
open Go.RowKit Go.Lib

/-- A value that reads as a list of properties. -/
def PVal (w : World) (v : Value) (l : List Pr) : Prop := ∃ A c, v = .slice A l.length c ∧ l.length ≤ c ∧ c ≤ maxLen ∧ PrAt w A l
theorem PVal.below {w w' : World} {v : Value} {l : List Pr} (h : PVal w v l) (hb : Below w.heap.size w w') : PVal w' v l := by
  obtain ⟨A, c, h1, h2, h3, h4⟩ := h
  exact ⟨A, c, h1, h2, h3, h4.below hb (Nat.le_refl _)⟩
theorem rowP_get (l : List Pr) : ∀ k (h : k < l.length), (rowP l)[k * 2]? = some (.int .i64 l[k].1) ∧ (rowP l)[k * 2 + 1]? = some (.int .i64 l[k].2) := by
  induction l with
  | nil => intro k h; simp at h
  | cons x l ih =>
    intro k h
    cases k with
    | zero => exact ⟨rfl, rfl⟩
    | succ k =>
      have e : rowP (x :: l) = .int .i64 x.1 :: .int .i64 x.2 :: rowP l := by simp [rowP]
      have e1 : (k + 1) * 2 = k * 2 + 1 + 1 := by omega
      rw [e, e1, List.getElem?_cons_succ, List.getElem?_cons_succ, List.getElem?_cons_succ, List.getElem?_cons_succ]
      exact ih k (by simpa using h)
theorem own_prat {w : World} {base g n cap : Nat} {l : List Pr} (h : w.ownsRow base 55 2 (.slice (some ⟨g, 0, none⟩) n cap) n (rowP l)) (hn : l.length = n) : PrAt w (some ⟨g, 0, none⟩) l := by
  subst hn
  refine .inr ⟨g, 0, rfl, (h.lt g rfl).2, fun k hk => ?_⟩
  have h1 := h.cellAt (k * 2) (by omega)
  have h2 := h.cellAt (k * 2 + 1) (by omega)
  obtain ⟨e1, e2⟩ := rowP_get l k hk
  rw [Nat.zero_add]
  exact ⟨h1.trans e1, h2.trans e2⟩
theorem PVal.own {w : World} {base n : Nat} {v : Value} {l : List Pr} (h : w.ownsRow base 55 2 v n (rowP l)) (hn : l.length = n) : PVal w v l := by
  have h2 := h
  rcases h.2 with ⟨hv, h0⟩ | ⟨g, cap, cur, hv, hb, hg, hc1, hc2, _⟩
  · subst hv
    have : l = [] := List.eq_nil_of_length_eq_zero (by omega)
    subst this
    exact ⟨none, 0, rfl, Nat.le_refl _, by decide, .inl rfl⟩
  · subst hv
    exact ⟨some ⟨g, 0, none⟩, cap, by rw [hn], by omega, hc2, own_prat h2 hn⟩
/-- What 'ordered' makes of a list, element by element. -/
def ordStep (o : List Pr) (x : Pr) : List Pr := if o.length < 60 then (match o.getLast? with | none => [x] | some y => if y.1 < x.1 then o ++ [x] else o) else o
def ordP (l : List Pr) : List Pr := l.foldl ordStep []
theorem ordP_snoc (l : List Pr) (k : Nat) (h : k < l.length) : ordP (l.take (k + 1)) = ordStep (ordP (l.take k)) l[k] := by
  unfold ordP
  rw [List.take_succ_eq_append_getElem h, List.foldl_append]; rfl
theorem ord_full (l o : List Pr) (h : 60 ≤ o.length) : l.foldl ordStep o = o := by
  induction l with
  | nil => rfl
  | cons x l ih => rw [List.foldl_cons, show ordStep o x = o by unfold ordStep; rw [if_neg (by omega)]]; exact ih
theorem ordP_full (l : List Pr) (k : Nat) (h : 60 ≤ (ordP (l.take k)).length) : ordP l = ordP (l.take k) := by
  have e : l.take k ++ l.drop k = l := List.take_append_drop k l
  have : ordP l = (l.drop k).foldl ordStep (ordP (l.take k)) := by
    conv => lhs; rw [← e]
    unfold ordP; rw [List.foldl_append]
  rw [this]; exact ord_full _ _ h
theorem ordStep_len (o : List Pr) (x : Pr) (h : o.length ≤ 60) : (ordStep o x).length ≤ 60 := by
  unfold ordStep
  split
  · split
    · simp
    · split
      · simp; omega
      · exact h
  · exact h
theorem ordP_len (l : List Pr) : (ordP l).length ≤ 60 := by
  have : ∀ (l o : List Pr), o.length ≤ 60 → (l.foldl ordStep o).length ≤ 60 := by
    intro l
    induction l with
    | nil => exact fun o h => h
    | cons x l ih => exact fun o h => ih _ (ordStep_len o x h)
  exact this l [] (by decide)
theorem sortP_nil : SortP [] := fun i j hi => by simp at hi
theorem sortP_one (x : Pr) : SortP [x] := fun i j hi hj hij => by simp at hi hj; omega
theorem sortP_snoc {o : List Pr} {x y : Pr} (h : SortP o) (hl : o.getLast? = some y) (hxy : y.1 < x.1) : SortP (o ++ [x]) := by
  intro i j hi hj hij
  simp only [List.length_append, List.length_cons, List.length_nil] at hi hj
  have hn : 0 < o.length := by
    cases o with
    | nil => simp at hl
    | cons => simp
  have hil : i < o.length := by omega
  rw [List.getElem_append_left hil]
  by_cases hjl : j < o.length
  · rw [List.getElem_append_left hjl]; exact h i j hil hjl hij
  · have : j = o.length := by omega
    subst this
    have e : (o ++ [x])[o.length]'(by simp) = x := by simp
    rw [e]
    have hy : y = o[o.length - 1]'(by omega) := by
      rw [List.getLast?_eq_getElem?, List.getElem?_eq_getElem (by omega)] at hl
      exact (Option.some.inj hl).symm
    have := h.le i (o.length - 1) hil (by omega) (by omega)
    rw [hy] at hxy
    omega
theorem ordStep_sort (o : List Pr) (x : Pr) (h : SortP o) : SortP (ordStep o x) := by
  unfold ordStep
  split
  · split
    · exact sortP_one x
    · rename_i y hl
      split
      · rename_i hxy; exact sortP_snoc h hl hxy
      · exact h
  · exact h
theorem ordP_sort (l : List Pr) : SortP (ordP l) := by
  have : ∀ (l o : List Pr), SortP o → SortP (l.foldl ordStep o) := by
    intro l
    induction l with
    | nil => exact fun o h => h
    | cons x l ih => exact fun o h => ih _ (ordStep_sort o x h)
  exact this l [] sortP_nil
theorem ordStep_mem (o : List Pr) (x y : Pr) (h : y ∈ ordStep o x) : y ∈ o ∨ y = x := by
  unfold ordStep at h
  split at h
  · split at h
    · exact .inr (by simpa using h)
    · split at h
      · simpa using h
      · exact .inl h
  · exact .inl h
theorem ordP_mem (l : List Pr) (y : Pr) (h : y ∈ ordP l) : y ∈ l := by
  have : ∀ (l o : List Pr), y ∈ l.foldl ordStep o → y ∈ o ∨ y ∈ l := by
    intro l
    induction l with
    | nil => exact fun o h => .inl h
    | cons x l ih =>
      intro o h
      rcases ih _ h with h1 | h1
      · rcases ordStep_mem o x y h1 with h2 | h2
        · exact .inl h2
        · exact .inr (by rw [h2]; simp)
      · exact .inr (List.mem_cons_of_mem _ h1)
  rcases this l [] h with h1 | h1
  · simp at h1
  · exact h1
theorem ordStep_nil (x : Pr) : ordStep [] x = [x] := rfl
theorem ordStep_yes (o : List Pr) (x : Pr) (n : Nat) (hn : o.length = n + 1) (h60 : n + 1 < 60) (h : (o[n]'(by omega)).1 < x.1) : ordStep o x = o ++ [x] := by
  unfold ordStep
  rw [if_pos (by omega)]
  have : o.getLast? = some (o[n]'(by omega)) := by rw [List.getLast?_eq_getElem?, show o.length - 1 = n by omega, List.getElem?_eq_getElem (by omega)]
  rw [this]; dsimp only; rw [if_pos h]
theorem ordStep_keep (o : List Pr) (x : Pr) (n : Nat) (hn : o.length = n + 1) (h60 : n + 1 < 60) (h : ¬ (o[n]'(by omega)).1 < x.1) : ordStep o x = o := by
  unfold ordStep
  rw [if_pos (by omega)]
  have : o.getLast? = some (o[n]'(by omega)) := by rw [List.getLast?_eq_getElem?, show o.length - 1 = n by omega, List.getElem?_eq_getElem (by omega)]
  rw [this]; dsimp only; rw [if_neg h]
/-- What hands back a list. -/
def PRet (l : List Pr) (w : World) (e : Ending) (w' : World) : Prop := ∃ v, e = .returned v ∧ PVal w' v l ∧ Below w.heap.size w w'
end Go.Proofs.Ytbkpokipibgdfaa
