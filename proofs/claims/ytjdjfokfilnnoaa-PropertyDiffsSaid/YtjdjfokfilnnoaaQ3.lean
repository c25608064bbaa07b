/- Layer 7: Diff and Inverse as lists in memory; what the law of Diffs counts, plainly. -/
import Derived.Test.YtjdjfokfilnnoaaJR
namespace Go.Proofs.Ytjdjfokfilnnoaa
open Go.RowKit Go.Lib

theorem rowC_get (l : List Ch) : ∀ k (h : k < l.length), (rowC l)[k * 5]? = some (.int .i64 l[k].1) ∧ (rowC l)[k * 5 + 1]? = some (.int .i64 l[k].2.1) ∧ (rowC l)[k * 5 + 2]? = some (.int .i64 l[k].2.2.1) ∧
    (rowC l)[k * 5 + 3]? = some (.bool l[k].2.2.2.1) ∧ (rowC l)[k * 5 + 4]? = some (.bool l[k].2.2.2.2) := by
  induction l with
  | nil => intro k h; simp at h
  | cons x l ih =>
    intro k h
    cases k with
    | zero => exact ⟨rfl, rfl, rfl, rfl, rfl⟩
    | succ k =>
      have e : rowC (x :: l) = .int .i64 x.1 :: .int .i64 x.2.1 :: .int .i64 x.2.2.1 :: .bool x.2.2.2.1 :: .bool x.2.2.2.2 :: rowC l := by simp [rowC]
      have e1 : (k + 1) * 5 = k * 5 + 1 + 1 + 1 + 1 + 1 := by omega
      have hs : ∀ j, (rowC (x :: l))[(k + 1) * 5 + j]? = (rowC l)[k * 5 + j]? := fun j => by
        rw [e, e1, show k * 5 + 1 + 1 + 1 + 1 + 1 + j = k * 5 + j + 1 + 1 + 1 + 1 + 1 by omega]
        rw [List.getElem?_cons_succ, List.getElem?_cons_succ, List.getElem?_cons_succ, List.getElem?_cons_succ, List.getElem?_cons_succ]
      obtain ⟨h0, h1, h2, h3, h4⟩ := ih k (by simpa using h)
      exact ⟨(hs 0).trans h0, (hs 1).trans h1, (hs 2).trans h2, (hs 3).trans h3, (hs 4).trans h4⟩
/-- What hands back a list of changes. -/
def OutC (o : List Ch) (w : World) (e : Ending) (w' : World) : Prop := ∃ B n cb, e = .returned (.slice B n cb) ∧ o.length = n ∧ n ≤ cb ∧ cb ≤ maxLen ∧ ChAt w' B o ∧ Below w.heap.size w w'
theorem own_outC {o : List Ch} {w w' : World} {e : Ending} (h : ∃ v, e = .returned v ∧ w'.ownsRow w.heap.size 64 5 v o.length (rowC o) ∧ Below w.heap.size w w') : OutC o w e w' := by
  obtain ⟨v, rfl, hown, hb⟩ := h
  have h2 := hown
  rcases hown.2 with ⟨hv, h0⟩ | ⟨g, cap, cur, hv, hbb, hg, hc1, hc2, _⟩
  · subst hv
    exact ⟨none, 0, 0, rfl, h0, Nat.le_refl _, by decide, .inl (List.eq_nil_of_length_eq_zero h0), hb⟩
  · subst hv
    refine ⟨_, _, cap, rfl, rfl, hc1, hc2, .inr ⟨g, 0, rfl, (h2.lt g rfl).2, fun k hk => ?_⟩, hb⟩
    obtain ⟨e0, e1, e2, e3, e4⟩ := rowC_get o k hk
    rw [Nat.zero_add]
    exact ⟨(h2.cellAt (k * 5) (by omega)).trans e0, (h2.cellAt (k * 5 + 1) (by omega)).trans e1, (h2.cellAt (k * 5 + 2) (by omega)).trans e2, (h2.cellAt (k * 5 + 3) (by omega)).trans e3, (h2.cellAt (k * 5 + 4) (by omega)).trans e4⟩
theorem diff_out (A B : Option Addr) (n m c d : Nat) (l l' : List Pr) (hl : l.length = n) (hl' : l'.length = m) (hc : n ≤ c ∧ c ≤ maxLen) (hd : m ≤ d ∧ d ≤ maxLen) (hn : n ≤ 1000) (hm : m ≤ 1000) (w : World) (hA : PrAt w A l) (hB : PrAt w B l') :
    Calls Try.prog 42 #[.slice A n c, .slice B m d] w (OutC (diffP l l') w) := by
  subst hl hl'
  exact (diff_any A B c d l l' hn hm hc hd w hA hB).mono fun e w' h => own_outC h
theorem inverse_out (A : Option Addr) (m d : Nat) (cs : List Ch) (hcs : cs.length = m) (hm : m ≤ 1000) (w : World) (hA : ChAt w A cs) :
    Calls Try.prog 44 #[.slice A m d] w (OutC (inverseP cs) w) := (inverse_any A m d cs hcs hm w hA).mono fun _ _ h => own_outC h
def difK (a b : List Pr) (p : Int) : Bool := (getB a p != getB b p) || (getV a p != getV b p)
theorem difK_chg (a b : List Pr) (p : Int) : difB (chg a b p) = difK a b p := by
  unfold difK difB chg
  rw [look_getB, look_getB, look_getV, look_getV]
theorem diff_at {a b : List Pr} (ha : Srt a) (hb : Srt b) {k : Nat} (hk : k < (diffP a b).length) {p : Int} (hp : (diffP a b)[k].1 = p) : (diffP a b)[k] = (p, getV a p, getV b p, getB a p, getB b p) := by
  have h := diff_mem ha hb _ (List.getElem_mem hk)
  rw [hp] at h
  rw [h]; unfold chg
  rw [look_getB, look_getB, look_getV, look_getV]
theorem diff_is {a b : List Pr} (ha : Srt a) (hb : Srt b) {k : Nat} (hk : k < (diffP a b).length) {p : Int} (hp : (diffP a b)[k].1 = p) : difK a b p = true := by
  have h := diff_mem ha hb _ (List.getElem_mem hk)
  have h2 := (List.mem_filter.1 (List.getElem_mem hk)).2
  rw [hp] at h
  rw [h, difK_chg] at h2
  exact h2
theorem diff_lt {a b : List Pr} (ha : Srt a) (hb : Srt b) {k : Nat} (hk : k < (diffP a b).length) {p : Int} (hp : (diffP a b)[k].1 = p) : ∀ h : k + 1 < (diffP a b).length, 0 < k + 1 → p < (diffP a b)[k + 1].1 := fun h _ => by
  rw [← hp]
  exact List.pairwise_iff_getElem.1 (diff_sorted ha hb) k (k + 1) hk h (by omega)
def cntP (a b M : List Pr) (k : Nat) : Nat := ((M.take k).filter (fun x => difK a b x.1)).length
theorem cnt_next {a b M : List Pr} {k : Nat} (hk : k < M.length) {p : Int} (hp : M[k].1 = p) : cntP a b M (k + 1) = cntP a b M k + (if difK a b p then 1 else 0) := by
  unfold cntP
  rw [List.take_succ_eq_append_getElem hk, List.filter_append, List.length_append]
  congr 1
  rw [List.filter_cons, hp]
  cases difK a b p <;> rfl
theorem cnt_le (a b M : List Pr) (k : Nat) : cntP a b M k ≤ k := Nat.le_trans (List.length_filter_le _ _) (by rw [List.length_take]; omega)
theorem cnt_all {a b : List Pr} (ha : Srt a) (hb : Srt b) : cntP a b (mergeP a b) (mergeP a b).length = (diffP a b).length := by
  unfold cntP diffP
  rw [List.take_length]
  unfold mergeP
  rw [List.filter_map, List.length_map]
  refine congrArg List.length (List.filter_congr fun z hz => ?_)
  have h := pairs_mem a b ha hb z hz
  show difK a b (mrg z).1 = difB z
  rw [show (mrg z).1 = z.1 from rfl, ← difK_chg, ← h]
end Go.Proofs.Ytjdjfokfilnnoaa
