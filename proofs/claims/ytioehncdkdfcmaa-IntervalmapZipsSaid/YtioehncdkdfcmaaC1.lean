/- Layer 5, plainly: what the two searches part; a map in memory by its two blocks. -/
import Derived.Test.YtioehncdkdfcmaaB6
import Derived.Test.YtioehncdkdfcmaaIu
import Derived.Test.YtioehncdkdfcmaaA9
namespace Go.Proofs.Ytioehncdkdfcmaa
open Go.RowKit Go.Lib Im

theorem ch_split {s e : Int} {R : List Rn} (h : Ch s R e) {k : Nat} (hk : k < R.length) : Ch s (R.take k) R[k].1 ∧ R[k].1 < R[k].2.1 ∧ Ch R[k].2.1 (R.drop (k + 1)) e := by
  have e0 : R = R.take k ++ R[k] :: R.drop (k + 1) := by rw [List.getElem_cons_drop, List.take_append_drop]
  rw [e0] at h
  obtain ⟨m, h1, h2, h3, h4⟩ := ch_append.1 h
  subst h2
  exact ⟨h1, h3, h4⟩
theorem ch_lt {s e : Int} {R : List Rn} (h : Ch s R e) {i j : Nat} (hi : i < R.length) (hj : j < R.length) (hij : i < j) : R[i].2.1 ≤ R[j].1 := by
  obtain ⟨_, _, h3⟩ := ch_split h hi
  have hk : j - (i + 1) < (R.drop (i + 1)).length := by rw [List.length_drop]; omega
  obtain ⟨h4, _, _⟩ := ch_split h3 hk
  have := ch_le h4
  rw [List.getElem_drop] at this
  have e : i + 1 + (j - (i + 1)) = j := by omega
  simp only [e] at this
  exact this
theorem ch_in {s e : Int} {R : List Rn} (h : Ch s R e) {k : Nat} (hk : k < R.length) : s ≤ R[k].1 ∧ R[k].1 < R[k].2.1 ∧ R[k].2.1 ≤ e := by
  obtain ⟨h1, h2, h3⟩ := ch_split h hk
  exact ⟨ch_le h1, h2, ch_le h3⟩
theorem ch_sortF {s e : Int} {R : List Rn} (h : Ch s R e) : SortF R := fun i j hi hj hij => by
  have := ch_lt h hi hj hij
  have := (ch_in h hi).2.1
  omega
theorem ch_sortT {s e : Int} {R : List Rn} (h : Ch s R e) : SortT R := fun i j hi hj hij => by
  have := ch_lt h hi hj hij
  have := (ch_in h hj).2.1
  omega
theorem ch_count {s e : Int} {R : List Rn} (h : Ch s R e) : (R.length : Int) ≤ e - s := by
  induction R generalizing s with
  | nil => have : s = e := h; simp; omega
  | cons r R ih =>
    obtain ⟨_, h2, h3⟩ := h
    have := ih h3
    simp only [List.length_cons, Int.natCast_add, Int.cast_ofNat_Int]
    omega
theorem ch_first {s e : Int} {R : List Rn} (h : Ch s R e) (hk : 0 < R.length) : R[0].1 = s := by
  cases R with
  | nil => exact absurd hk (Nat.lt_irrefl _)
  | cons r R => exact h.1
theorem ch_next {s e : Int} {R : List Rn} (h : Ch s R e) {k : Nat} (hk : k + 1 < R.length) : R[k + 1].1 = R[k].2.1 := by
  obtain ⟨_, _, h3⟩ := ch_split h (k := k) (by omega)
  have h0 : 0 < (R.drop (k + 1)).length := by rw [List.length_drop]; omega
  have := ch_first h3 h0
  rw [List.getElem_drop] at this
  simpa using this
theorem ch_end {s e : Int} {R : List Rn} (h : Ch s R e) {k : Nat} (hk : R.length = k + 1) : (R[k]'(by omega)).2.1 = e := by
  obtain ⟨_, _, h3⟩ := ch_split h (k := k) (by omega)
  rw [List.drop_eq_nil_of_le (by omega)] at h3
  exact h3
theorem app_len (J : List Rn) (r : Rn) : (app J r).length ≤ J.length + 1 := by
  unfold app
  split
  · omega
  · split
    · split
      · simp
      · simp
    · simp
/-- What the two searches part. -/
structure Parted (R : List Rn) (n f t : Int) (a b : Nat) : Prop where
  hab : a ≤ b
  hb : b ≤ R.length
  h0 : a = b → R.length = 0
  hA : ∀ r ∈ R.take a, r.2.1 < f
  hB : ∀ r ∈ R.drop b, t < r.1
  mid : ∃ x y, Ch x ((R.drop a).take (b - a)) y ∧ x ≤ f ∧ t ≤ y ∧ (b < R.length → t < y)
theorem cut3 (R : List Rn) {a b : Nat} (hab : a ≤ b) : R = R.take a ++ ((R.drop a).take (b - a) ++ R.drop b) := by
  conv => lhs; rw [← List.take_append_drop a R, ← List.take_append_drop (b - a) (R.drop a), List.drop_drop, show a + (b - a) = b by omega]
theorem parted {R : List Rn} {n f t : Int} {a b : Nat} (hC : Ch 0 R n) (h0 : 0 ≤ f) (hft : f ≤ t) (htn : t ≤ n) (hT : PartT R f a) (hF : PartF R (t + 1) b) : Parted R n f t a b := by
  obtain ⟨ha, ha1, ha2⟩ := hT
  obtain ⟨hb, hb1, hb2⟩ := hF
  have hab : a ≤ b := by
    rcases Nat.lt_or_ge b a with h | h
    · exfalso
      have h1 := ha1 b (by omega) h
      have h2 := hb2 b (by omega) (Nat.le_refl _)
      have h3 := (ch_in hC (k := b) (by omega)).2.1
      omega
    · exact h
  have hz : a = b → R.length = 0 := by
    intro e
    subst e
    rcases Nat.eq_zero_or_pos R.length with h | hp
    · exact h
    exfalso
    rcases Nat.lt_or_ge a R.length with h | h
    · have h2 := hb2 a h (Nat.le_refl _)
      rcases Nat.eq_zero_or_pos a with h3 | h3
      · subst h3
        have := ch_first hC hp
        omega
      · obtain ⟨k, rfl⟩ : ∃ k, a = k + 1 := ⟨a - 1, by omega⟩
        have := ch_next hC h
        have := ha1 k (by omega) (by omega)
        omega
    · obtain ⟨k, hk⟩ : ∃ k, R.length = k + 1 := ⟨R.length - 1, by omega⟩
      have := ch_end hC hk
      have := ha1 k (by omega) (by omega)
      omega
  have hA : ∀ r ∈ R.take a, r.2.1 < f := by
    intro r hr
    obtain ⟨k, hk, rfl⟩ := List.getElem_of_mem hr
    rw [List.getElem_take]
    have h := hk
    rw [List.length_take] at h
    exact ha1 k (by omega) (by omega)
  have hB : ∀ r ∈ R.drop b, t < r.1 := by
    intro r hr
    obtain ⟨k, hk, rfl⟩ := List.getElem_of_mem hr
    rw [List.getElem_drop]
    have h := hk
    rw [List.length_drop] at h
    have := hb2 (b + k) (by omega) (by omega)
    omega
  refine ⟨hab, hb, hz, hA, hB, ?_⟩
  have hC' := hC
  rw [cut3 R hab] at hC'
  obtain ⟨x, c1, c2⟩ := ch_append.1 hC'
  obtain ⟨y, c3, c4⟩ := ch_append.1 c2
  refine ⟨x, y, c3, ?_, ?_, ?_⟩
  · rcases List.eq_nil_or_concat (R.take a) with h | ⟨A', l, h⟩
    · rw [h] at c1
      have : (0 : Int) = x := c1
      omega
    · rw [List.concat_eq_append] at h
      rw [h] at c1
      obtain ⟨k, _, hl⟩ := ch_append.1 c1
      have h3 : l.2.1 = x := hl.2.2
      have := hA l (by rw [h]; simp)
      omega
  · cases hd : R.drop b with
    | nil =>
      rw [hd] at c4
      have : y = n := c4
      omega
    | cons r B =>
      rw [hd] at c4
      have h1 := c4.1
      have := hB r (by rw [hd]; simp)
      omega
  · intro hlt
    cases hd : R.drop b with
    | nil =>
      have := congrArg List.length hd
      rw [List.length_drop] at this
      simp at this
      omega
    | cons r B =>
      rw [hd] at c4
      have h1 := c4.1
      have := hB r (by rw [hd]; simp)
      omega
/-- Nothing is put together only where nothing is behind. -/
theorem joined_nil {R N : List Rn} {n f t d : Int} {a b : Nat} (h : Parted R n f t a b) (hft : f ≤ t) (hN : Fits f N (t + d)) (hJ : ((pieces f t d ((R.drop a).take (b - a)) N).foldl app []).length = 0) : b = R.length := by
  obtain ⟨x, y, c, h1, h2, h3⟩ := h.mid
  obtain ⟨j1, j2, j3⟩ := joined_ok c h1 hft h2 hN
  rw [List.eq_nil_of_length_eq_zero hJ] at j3
  rcases Nat.lt_or_ge b R.length with hb | hb
  · exfalso
    have hy := h3 hb
    have hl := ch_len c
    have := congrArg List.length j3
    simp only [vals_nil, List.length_nil, List.length_append, List.length_drop] at this
    omega
  · have := h.hb; omega
/-- A map in memory, by its block and its row. -/
def MpG (w : World) (b g : Nat) (R : List Rn) : Prop := ∃ A c, Boxed w b 84 (.slice A R.length c) ∧ w.ownsRow 0 34 3 (.slice A R.length c) R.length (rowR R) ∧ ∀ k, A = some ⟨k, 0, none⟩ → k = g
/-- All keep but the map's block and its row. -/
def Fr (b g : Nat) (w w' : World) : Prop := Below 0 w w' ∧ ∀ k, k < w.heap.size → k ≠ b → k ≠ g → w'.heap[k]? = w.heap[k]?
theorem Fr.below {b g base : Nat} {w w' : World} (h : Fr b g w w') (hb : base ≤ b) (hg : base ≤ g) (hs : base ≤ w.heap.size) : Below base w w' :=
  ⟨h.1.os, h.1.tape, h.1.output, h.1.size, fun k hk => h.2 k (by omega) (by omega) (by omega)⟩
theorem fr_below {b g : Nat} {w w' : World} (h : Below w.heap.size w w') : Fr b g w w' := ⟨h.mono (Nat.zero_le _), fun k hk _ _ => h.block k hk⟩
theorem own_rnat {w : World} {base n c : Nat} {A : Option Addr} {R : List Rn} (hown : w.ownsRow base 34 3 (.slice A n c) n (rowR R)) (hR : R.length = n) : RnAt w A R := by
  cases n with
  | zero => exact .inl (List.eq_nil_of_length_eq_zero hR)
  | succ k =>
    obtain ⟨g, cap, hv⟩ := ownsRow_succ hown
    injection hv with h1 _ _
    subst h1
    have hcl := hown.cells (g := g) rfl
    have hlt := (hown.lt g rfl).2
    refine .inr ⟨g, 0, rfl, hlt, fun q hq => ?_⟩
    obtain ⟨r0, r1, r2⟩ := rowR_get R q hq
    have c0 := hcl _ _ r0
    have c1 := hcl _ _ r1
    have c2 := hcl _ _ r2
    rw [Addr.add_lit] at c0 c1 c2
    simp only [← Nat.add_assoc] at c0 c1 c2
    exact ⟨c0, c1, c2⟩
end Go.Proofs.Ytioehncdkdfcmaa
