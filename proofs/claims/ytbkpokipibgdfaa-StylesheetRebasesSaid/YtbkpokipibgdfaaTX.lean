/- Layer 8, plainly: one more property of a run. -/
import Derived.Test.YtbkpokipibgdfaaTV
namespace Go.Proofs.Ytbkpokipibgdfaa
open Go.Lib
set_option linter.unusedVariables false

theorem chk_of {x : Int} {l : List Pr} (hx : 1 ≤ x ∧ x ≤ 10) (hs : Srt l) (h : ∀ y ∈ l, fitsB x y.1 = true ∧ valOf y.1 y.2 = 0) : chkP x l = 0 := by
  refine chk_end hx fun j hj => ?_
  have hy : l.getD j (0, 0) = l[j] := by rw [List.getD_eq_getElem?_getD, List.getElem?_eq_getElem hj]; rfl
  obtain ⟨h1, h2⟩ := h _ (List.getElem_mem hj)
  cases j with
  | zero => rw [errK_0 hy h1]; exact h2
  | succ k =>
    have hz : l.getD k (0, 0) = l[k] := by rw [List.getD_eq_getElem?_getD, List.getElem?_eq_getElem (by omega)]; rfl
    have hlt : l[k].1 < l[k + 1].1 := List.pairwise_iff_getElem.1 hs k (k + 1) (by omega) hj (by omega)
    rw [errK_v hy hz h1 hlt]
    exact h2
theorem chk_val {x : Int} {l : List Pr} (hx : 1 ≤ x ∧ x ≤ 10) (h : chkP x l = 0) : ∀ y ∈ l, fitsB x y.1 = true ∧ valOf y.1 y.2 = 0 := by
  intro y hy
  have ha := chk_all hx h
  obtain ⟨j, hj, rfl⟩ := List.mem_iff_getElem.1 hy
  have hf := errK_fit hj (ha j hj)
  refine ⟨hf, ?_⟩
  have hy : l.getD j (0, 0) = l[j] := by rw [List.getD_eq_getElem?_getD, List.getElem?_eq_getElem hj]; rfl
  cases j with
  | zero => have := ha 0 hj; rw [errK_0 hy hf] at this; exact this
  | succ k =>
    have hz : l.getD k (0, 0) = l[k] := by rw [List.getD_eq_getElem?_getD, List.getElem?_eq_getElem (by omega)]; rfl
    have := ha (k + 1) hj
    rw [errK_v hy hz hf (errK_lt hj this)] at this
    exact this
theorem row_i64 : ∀ r ∈ tabP, (-9223372036854775808 ≤ r.1 ∧ r.1 ≤ 9223372036854775807) ∧ -9223372036854775808 ≤ r.2.2.2.1 ∧ r.2.2.2.2.1 ≤ 9223372036854775807 := by decide +kernel
theorem chk_i64 {x : Int} {l : List Pr} (hx : 1 ≤ x ∧ x ≤ 10) (h : chkP x l = 0) : ∀ y ∈ l, I64 y.1 ∧ I64 y.2 := by
  intro y hy
  obtain ⟨hf, hv⟩ := chk_val hx h y hy
  unfold valOf at hv
  cases hr : rowOf y.1 with
  | none => rw [hr] at hv; cases hv
  | some r =>
    rw [hr] at hv
    dsimp only at hv
    unfold rowOf at hr
    have h1 := List.mem_of_find?_eq_some hr
    have h2 : r.1 = y.1 := by simpa using List.find?_some hr
    obtain ⟨a1, a2, a3⟩ := row_i64 r h1
    unfold valE at hv
    by_cases hc : y.2 < r.2.2.2.1 ∨ r.2.2.2.2.1 < y.2
    · rw [if_pos hc] at hv; omega
    · unfold I64
      rw [← h2]
      exact ⟨a1, by omega⟩
/-- The keys of characters from 2 to 10 with their highest values. -/
theorem key_ok : ∀ k : Nat, k < 11 → 2 ≤ k → fitsB 1 (k : Int) = true ∧ valOf (k : Int) (rowZ (k : Int)).2.2.2.2.1 = 0 ∧ inG 1 (k : Int) = true ∧ (∃ r ∈ tabP, r.1 = (k : Int)) := by decide +kernel
theorem one_in {k v : Int} (h : ∃ r ∈ tabP, r.1 = k) : InT [(k, v)] := ⟨List.pairwise_singleton _ _, fun x hx => by rw [List.mem_singleton] at hx; subst hx; exact h⟩
theorem merge_mem {a b : List Pr} (ha : InT a) (hb : InT b) {y : Pr} (hy : y ∈ mergeL a b) : y ∈ a ∨ y ∈ b := by
  have h1 := mem_look (ha.merge hb).1 hy
  rw [lookL_merge ha hb] at h1
  have key : ∀ l : List Pr, look l y.1 = some y.2 → y ∈ l := by
    intro l
    induction l with
    | nil => intro h; cases h
    | cons x l ih =>
      intro h
      by_cases hx : x.1 = y.1
      · rw [← hx, look_same] at h
        have : x = y := by
          obtain ⟨x1, x2⟩ := x
          obtain ⟨y1, y2⟩ := y
          cases h; cases hx; rfl
        rw [this]; simp
      · rw [look_other hx] at h
        exact List.mem_cons_of_mem _ (ih h)
  cases hl : look b y.1 with
  | none => rw [hl] at h1; exact .inl (key a h1)
  | some v => rw [hl] at h1; exact .inr (key b (by rw [hl]; exact h1))
theorem next_chk {ol : List Pr} (ho : chkP 1 ol = 0) {k : Nat} (h1 : k < 11) (h2 : 2 ≤ k) : chkP 1 (mergeL ol [((k : Int), (rowZ (k : Int)).2.2.2.2.1)]) = 0 := by
  obtain ⟨a1, a2, _, a4⟩ := key_ok k h1 h2
  have hO := chk_in (by omega) ho
  refine chk_of (by omega) (hO.merge (one_in a4)).1 fun y hy => ?_
  rcases merge_mem hO (one_in a4) hy with h | h
  · exact chk_val (by omega) ho y h
  · rw [List.mem_singleton] at h
    subst h
    exact ⟨a1, a2⟩
theorem look_one {k v p : Int} : look [(k, v)] p = if p = k then some v else none := by
  by_cases h : p = k
  · subst h; rw [if_pos rfl]; exact look_same (p, v) []
  · rw [if_neg h]; exact look_other (x := (k, v)) (fun e => h e.symm)
theorem next_id {ol : List Pr} (ho : chkP 1 ol = 0) {k : Nat} (h1 : k < 11) (h2 : 2 ≤ k) (v : Int) : getV (mergeL ol [((k : Int), v)]) 1 = getV ol 1 := by
  obtain ⟨_, _, _, a4⟩ := key_ok k h1 h2
  rw [look_getV, look_getV, lookL_merge (chk_in (by omega) ho) (one_in a4), look_one, if_neg (by omega)]
  rfl
theorem text_next {l : List St} (h : Good l) {ol : List Pr} (ho : chkP 1 ol = 0) {k : Nat} (h1 : k < 11) (h2 : 2 ≤ k) (v : Int) (a b : List Pr) (ha : InT a) (hb : InT b) :
    keepP 1 (mergeL a (mergeL b (mergeL ol [((k : Int), v)]))) = mergeL (keepP 1 (mergeL a (mergeL b ol))) [((k : Int), v)] := by
  obtain ⟨_, _, a3, a4⟩ := key_ok k h1 h2
  have hO := chk_in (by omega) ho
  have hV : InT [((k : Int), v)] := one_in a4
  have hN := hO.merge hV
  refine look_ext (keepP_in (ha.merge (hb.merge hN)) 1).1 ((keepP_in (ha.merge (hb.merge hO)) 1).merge hV).1 fun p => ?_
  rw [look_keep, lookL_merge ha (hb.merge hN), lookL_merge hb hN, lookL_merge hO hV, lookL_merge (keepP_in (ha.merge (hb.merge hO)) 1) hV, look_keep, lookL_merge ha (hb.merge hO), lookL_merge hb hO, look_one]
  by_cases hp : p = (k : Int)
  · rw [if_pos hp, hp, a3, if_pos rfl]; rfl
  · rw [if_neg hp]
    cases inG 1 p with
    | true => rw [if_pos rfl, if_pos rfl]; rfl
    | false => rw [if_neg (by simp), if_neg (by simp)]; rfl
theorem own_there {l : List St} {ol : List Pr} (ho : chkP 1 ol = 0) {a b : List Pr} (ha : InT a) (hb : InT b) {y : Pr} (hy : y ∈ ol) : look (keepP 1 (mergeL a (mergeL b ol))) y.1 = some y.2 := by
  have hO := chk_in (by omega) ho
  rw [look_keep, lookL_merge ha (hb.merge hO), lookL_merge hb hO, mem_look hO.1 hy, chk_gr ho y hy, if_pos rfl]
  rfl
/-- What is sure where Text says no error. -/
theorem txt_ok {l : List St} {pl ol : List Pr} (h : txtE l pl ol = 0) : chkP 2 pl = 0 ∧ chkP 1 ol = 0 ∧ ¬ (idOf 1 pl ≠ 0 ∧ hasB l 1 (idOf 1 pl) = false) ∧ ¬ (idOf 2 ol ≠ 0 ∧ hasB l 2 (idOf 2 ol) = false) := by
  unfold txtE at h
  by_cases a1 : chkP 2 pl = 0
  case neg => rw [if_pos a1] at h; exact absurd h a1
  rw [if_neg (by simp [a1])] at h
  by_cases a2 : chkP 1 ol = 0
  case neg => rw [if_pos a2] at h; exact absurd h a2
  rw [if_neg (by simp [a2])] at h
  by_cases a3 : idOf 1 pl ≠ 0 ∧ hasB l 1 (idOf 1 pl) = false
  · rw [if_pos a3] at h; cases h
  rw [if_neg a3] at h
  by_cases a4 : idOf 2 ol ≠ 0 ∧ hasB l 2 (idOf 2 ol) = false
  · rw [if_pos a4] at h; cases h
  exact ⟨a1, a2, a3, a4⟩
theorem next_txt {l : List St} (hG : Good l) {pl ol : List Pr} (h : txtE l pl ol = 0) {k : Nat} (h1 : k < 11) (h2 : 2 ≤ k) :
    txtE l pl (mergeL ol [((k : Int), (rowZ (k : Int)).2.2.2.2.1)]) = 0 ∧ txtL l pl (mergeL ol [((k : Int), (rowZ (k : Int)).2.2.2.2.1)]) = mergeL (txtL l pl ol) [((k : Int), (rowZ (k : Int)).2.2.2.2.1)] := by
  obtain ⟨a1, a2, a3, a4⟩ := txt_ok h
  have e1 := next_chk a2 h1 h2
  have e2 : idOf 2 (mergeL ol [((k : Int), (rowZ (k : Int)).2.2.2.2.1)]) = idOf 2 ol := by rw [idOf_two, idOf_two]; exact next_id a2 h1 h2 _
  have e3 : txtE l pl (mergeL ol [((k : Int), (rowZ (k : Int)).2.2.2.2.1)]) = 0 := by
    unfold txtE
    rw [if_neg (by simp [a1]), if_neg (by simp [e1]), if_neg a3, if_neg (by rw [e2]; exact a4)]
  refine ⟨e3, ?_⟩
  unfold txtL
  rw [if_neg (by simp [e3]), if_neg (by simp [h]), e2]
  exact text_next hG a2 h1 h2 _ _ _ (effI_in hG _) (effI_in hG _)
end Go.Proofs.Ytbkpokipibgdfaa
