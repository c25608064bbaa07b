/- Layer 6: appendPoint (52), the pairs too. -/
import Derived.Test.YtknbglcmjggkjaaT6
namespace Go.Proofs.Ytknbglcmjggkjaa
open Go.RowKit Go.Lib Co

set_option maxRecDepth 1000000 in
theorem pair_facts : ∀ c, c < 256 → pairN c ≠ (0, 0) → 192 ≤ c ∧ 0 < (pairN c).1 ∧ (pairN c).1 ≤ 2000 ∧ (pairN c).2 ≤ 2000 ∧ pairN (pairN c).1 = (0, 0) ∧ pairN (pairN c).2 = (0, 0) := by
  have h : ((List.range 256).all fun c => decide (pairN c ≠ (0, 0) → 192 ≤ c ∧ 0 < (pairN c).1 ∧ (pairN c).1 ≤ 2000 ∧ (pairN c).2 ≤ 2000 ∧ pairN (pairN c).1 = (0, 0) ∧ pairN (pairN c).2 = (0, 0))) = true := by kernel_rfl
  intro c hc
  have := List.all_eq_true.1 h c (List.mem_range.2 hc)
  exact of_decide_eq_true this
theorem pair_hi {c : Nat} (h : pairN c ≠ (0, 0)) : 192 ≤ c ∧ c < 256 := by
  unfold pairN at h
  split at h
  · assumption
  · exact absurd rfl h
theorem oneE_len (up : Nat) (ig : Bool) (c : Nat) : (oneE up ig c).length ≤ 1 := by
  unfold oneE
  repeat' split
  all_goals simp
theorem pointE_len (up : Nat) (ig : Bool) (c : Nat) : (pointE up ig c).length ≤ 2 := by
  unfold pointE
  split
  · have := oneE_len up ig c
    omega
  · have h1 := oneE_len up ig (pairN c).1
    have h2 := oneE_len up ig (pairN c).2
    rw [List.length_append]
    omega
theorem Els.drew {B : Nat} {w : World} {v : Value} {l : List El} (h : Els B w v l) : Els B w.drew v l := World.ownsRow.drew h
set_option maxRecDepth 100000 in
set_option maxHeartbeats 4000000 in
theorem pair_any {st : Int} {nu ig uf : Bool} {b c : Nat} {v : Value} {l : List El} {W0 : World} (w : World) (hm : MkAt W0 b st nu ig uf) (hb : Below W0.heap.size W0 w) (hv : Els W0.heap.size w v l) (hl : l.length ≤ 90000) (hp : pairN c ≠ (0, 0)) :
    Calls Try.prog 52 #[.pointer (some ⟨b, 0, none⟩), v, .int .i64 (c : Nat)] w (ElsRet W0 (l ++ (oneE (upN uf) ig (pairN c).1 ++ oneE (upN uf) ig (pairN c).2))) := by
  have hg : b < W0.heap.size := (Array.getElem?_eq_some_iff.1 hm).1
  obtain ⟨h1, h2⟩ := pair_hi hp
  obtain ⟨_, p1, p2, p3, p4, p5⟩ := pair_facts c h2 hp
  obtain ⟨q1, q2⟩ := hm.pairs h2
  have o5 := (hb.cell (p := ⟨b, 5 + c * 2, none⟩) hg).trans q1
  have o6 := (hb.cell (p := ⟨b, 5 + c * 2 + 1, none⟩) hg).trans q2
  have hns : silent c = false := by simp [silent]; omega
  have hnd : dig c = false := by simp [dig]; omega
  have z0 : (0 : Int) ≤ (c : Int) := by omega
  have f0 : (97 : Int) ≤ (c : Int) := by omega
  have f1 : ¬ (c : Int) ≤ 122 := by omega
  have f2 : (65 : Int) ≤ (c : Int) := by omega
  have f3 : ¬ (c : Int) ≤ 90 := by omega
  have f4 : ¬ (c : Int) < 128 := by omega
  have f5 : ¬ (768 : Int) ≤ (c : Int) := by omega
  have f6 : (c : Int) < 256 := by omega
  have f7 : ¬ ((pairN c).1 : Int) = 0 := by omega
  have hlen1 : (l ++ oneE (upN uf) ig (pairN c).1).length ≤ 100000 := by have := oneE_len (upN uf) ig (pairN c).1; rw [List.length_append]; omega
  go_enter Try.func52, Try.ntmps52
  go_wp2_with (first
    | (go_at_call 75; (with_reducible refine (silent_any c _ (by omega)).mono ?_); rintro e w4 ⟨rfl, rfl⟩)
    | (go_at_call 73; (with_reducible refine (digit_any c _ (by omega)).mono ?_); rintro e w4 ⟨rfl, rfl⟩)
    | fail)
  go_region_held3 (fun w' => w'.cell? ⟨b, 5 + c * 2, none⟩ = some (.int .i64 ((pairN c).1 : Nat)) ∧ w'.cell? ⟨b, 5 + c * 2 + 1, none⟩ = some (.int .i64 ((pairN c).2 : Nat)))
    (first
      | exact ⟨(hb2.cell (p := ⟨b, 5 + c * 2, none⟩) hg).trans q1, (hb2.cell (p := ⟨b, 5 + c * 2 + 1, none⟩) hg).trans q2⟩
      | exact ⟨(hb1.cell (p := ⟨b, 5 + c * 2, none⟩) hg).trans q1, (hb1.cell (p := ⟨b, 5 + c * 2 + 1, none⟩) hg).trans q2⟩
      | exact ⟨o5, o6⟩)
    (first
      | (go_at_call 52; with_reducible refine (one_any _ hm hb1 hv1 hlen1 (by omega) p5).mono ?_; intro e w2 h2; unfold ElsRet at h2; obtain ⟨v2, rfl, hv2, hb2⟩ := h2)
      | (go_at_call 52; with_reducible refine (one_any _ hm hb.drew hv.drew (by omega) (by omega) p4).mono ?_; intro e w1 h1; unfold ElsRet at h1; obtain ⟨v1, rfl, hv1, hb1⟩ := h1))
  all_goals
    have HV := Go.Lib.hid (show Els W0.heap.size w2 v2 (l ++ (oneE (upN uf) ig (pairN c).1 ++ oneE (upN uf) ig (pairN c).2)) by rw [← List.append_assoc]; exact hv2)
    go_wp2
    go_ret
    exact ⟨_, rfl, HV.out, hb2⟩
theorem point_any {st : Int} {nu ig uf : Bool} {b c : Nat} {v : Value} {l : List El} {W0 : World} (w : World) (hm : MkAt W0 b st nu ig uf) (hb : Below W0.heap.size W0 w) (hv : Els W0.heap.size w v l) (hl : l.length ≤ 90000) (hc : c ≤ 1114111) :
    Calls Try.prog 52 #[.pointer (some ⟨b, 0, none⟩), v, .int .i64 (c : Nat)] w (ElsRet W0 (l ++ pointE (upN uf) ig c)) := by
  unfold pointE
  by_cases h : pairN c = (0, 0)
  · rw [if_pos h]
    exact one_any w hm hb hv (by omega) hc h
  · rw [if_neg h]
    exact pair_any w hm hb hv hl h
end Go.Proofs.Ytknbglcmjggkjaa
