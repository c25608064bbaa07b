/- Layer 4: an edit's tree, sharply; known (13). -/
import Derived.Test.YtonplacldckbgaaMH
import Derived.Test.YtonplacldckbgaaMI
namespace Go.Proofs.Ytonplacldckbgaa
open Go.RowKit Go.Shelf Go.Lib Pt

theorem pcs_pos {t : Tr} (h : t.bytes ≠ []) : 1 ≤ t.pcs := by
  cases t with
  | nil => exact absurd rfl h
  | node l p r => simp only [Tr.pcs]; omega
theorem split_zero (t : Tr) (h : t.ok) : (splitT t 0).2.pcs ≤ t.pcs := by
  induction t with
  | nil => simp [splitT, Tr.pcs]
  | node l p r il ir =>
    obtain ⟨a1, a2, a3, a4, a5⟩ := h
    unfold splitT
    rw [if_pos (Nat.zero_le _)]
    obtain ⟨i1, i2, i3, i4, i5⟩ := splitT_spec l a1 0
    obtain ⟨j1, j2, j3⟩ := joinT_spec i4 a2 a3
    have := il a1
    rw [j2]; simp only [Tr.pcs]; omega
theorem repT_spec (t : Tr) (f k : Nat) (s : List UInt8) (h : t.ok) (hk : f + k ≤ t.bytes.length) : (repT t f k s).ok ∧ (repT t f k s).pcs ≤ t.pcs + 2 := by
  unfold repT
  obtain ⟨i1, i2, i3, i4, i5⟩ := splitT_spec t h f
  obtain ⟨j1, j2, j3, j4, j5⟩ := splitT_spec (splitT t f).2 i4 k
  obtain ⟨k1, k2, k3⟩ := aroundT_spec s i3 j4
  refine ⟨k3, ?_⟩
  have h4 : (splitT (splitT t f).2 k).2.pcs ≤ (splitT t f).2.pcs := by
    cases k with
    | zero => exact split_zero _ i4
    | succ k =>
      have : 1 ≤ (splitT (splitT t f).2 (k + 1)).1.pcs := pcs_pos (by
        rw [j1, i2]
        intro e
        have := congrArg List.length e
        rw [List.length_take, List.length_drop, List.length_nil] at this
        omega)
      omega
  have : (if s = [] then 0 else 1) ≤ 1 := by split <;> omega
  omega
theorem edT_spec {t : Tr} (x y : Int) (s : List UInt8) (h : t.ok) : (edT t x y s).ok ∧ (edT t x y s).pcs ≤ t.pcs + (if codR x y t.bytes.length s.length = 0 then 2 else 0) := by
  unfold edT
  by_cases h1 : codR x y t.bytes.length s.length ≠ 0 ∨ (x = y ∧ s = [])
  · rw [if_pos h1]; exact ⟨h, Nat.le_add_right _ _⟩
  · rw [if_neg h1]
    have h2 : codR x y t.bytes.length s.length = 0 := Decidable.not_not.1 fun h => h1 (.inl h)
    rw [if_pos h2]
    refine repT_spec t _ _ s h ?_
    unfold codR at h2
    split at h2
    · cases h2
    · omega
theorem newT_spec (s : List UInt8) : (newT s).bytes = s ∧ (newT s).ok ∧ (newT s).pcs ≤ 1 := by
  obtain ⟨k1, k2, k3⟩ := aroundT_spec (l := .nil) (r := .nil) s trivial trivial
  have : (if s = [] then 0 else 1) ≤ 1 := by split <;> omega
  refine ⟨by unfold newT; rw [k1]; simp [Tr.bytes], k3, ?_⟩
  unfold newT
  simp only [Tr.pcs] at k2
  omega
/-- A tree that an edit may be asked of. -/
theorem fine_ok {t : Tr} (h : t.ok) (hl : t.bytes.length ≤ 65536) : Fine t := ⟨by omega, by have := Tr.pcs_le h; omega⟩
theorem ed_known1 : codR 1 3 (newT [97, 98, 99, 100, 101, 102]).bytes.length ([] : List UInt8).length = 0 := by rw [(newT_spec _).1]; decide
theorem ed_known2 : (edT (newT [97, 98, 99, 100, 101, 102]) 1 3 []).bytes = [97, 100, 101, 102] := by rw [edT_B, (newT_spec _).1]; decide
theorem ed_known3 : codR 2 2 (edT (newT [97, 98, 99, 100, 101, 102]) 1 3 []).bytes.length [(88 : UInt8)].length = 0 := by rw [ed_known2]; decide
theorem ed_known4 : (edT (edT (newT [97, 98, 99, 100, 101, 102]) 1 3 []) 2 2 [88]).bytes = [97, 100, 88, 101, 102] := by rw [edT_B, ed_known2]; decide
theorem ed_known5 : 1 ≤ (edT (edT (newT [97, 98, 99, 100, 101, 102]) 1 3 []) 2 2 [88]).pcs ∧ (edT (edT (newT [97, 98, 99, 100, 101, 102]) 1 3 []) 2 2 [88]).pcs ≤ 5 ∧ (edT (edT (newT [97, 98, 99, 100, 101, 102]) 1 3 []) 2 2 [88]).ok := by
  obtain ⟨n1, n2, n3⟩ := newT_spec [97, 98, 99, 100, 101, 102]
  obtain ⟨a1, a2⟩ := edT_spec 1 3 [] n2
  obtain ⟨b1, b2⟩ := edT_spec 2 2 [88] a1
  rw [ed_known1] at a2
  rw [ed_known3] at b2
  simp only [if_true] at a2 b2
  exact ⟨pcs_pos (by rw [ed_known4]; simp), by omega, b1⟩
set_option maxRecDepth 100000 in
set_option maxHeartbeats 8000000 in
theorem known_any (w : World) : Calls Try.prog 13 #[] w fun e w' => e = .returned (.bool true) ∧ Below w.heap.size w w' := by
  have c1 : Calls Try.prog 22 #[.string { data := #[97, 98, 99, 100, 101, 102] }] w _ := new_any [97, 98, 99, 100, 101, 102] w (by decide)
  obtain ⟨T1, hT1⟩ : ∃ T, T = newT [97, 98, 99, 100, 101, 102] := ⟨_, rfl⟩
  have e1 := ed_known1
  have e2 := ed_known2
  have e3 := ed_known3
  have e4 := ed_known4
  obtain ⟨e5, e6, e7⟩ := ed_known5
  obtain ⟨_, o1, p1⟩ := newT_spec [97, 98, 99, 100, 101, 102]
  have hl1 : (newT [97, 98, 99, 100, 101, 102]).bytes.length ≤ 65536 := by rw [(newT_spec _).1]; decide
  rw [← hT1] at c1 e1 e2 e3 e4 e5 e6 e7 o1 p1 hl1
  obtain ⟨T2, hT2⟩ : ∃ T, T = edT T1 1 3 [] := ⟨_, rfl⟩
  have hp2 : T2.pcs ≤ 100 := by rw [hT2]; have := edT_pcs T1 1 3 []; omega
  rw [← hT2] at e2 e3 e4 e5 e6 e7
  obtain ⟨T3, hT3⟩ : ∃ T, T = edT T2 2 2 [88] := ⟨_, rfl⟩
  rw [← hT3] at e4 e5 e6 e7
  have hl2 : T2.bytes.length ≤ 65536 := by rw [e2]; decide
  have hl3 : T3.bytes.length = 5 := by rw [e4]; rfl
  have hf3 : Fine T3 := fine_ok e7 (by omega)
  have E1 := Go.Lib.hid e1
  have E3 := Go.Lib.hid e3
  have E4 := Go.Lib.hid e4
  have HT2 := Go.Lib.hid hT2
  have HT3 := Go.Lib.hid hT3
  clear e1 e2 e3 e4 hT1 hT2 hT3
  go_enter Try.func13, Try.ntmps13
  go_wp2_with fail
  refine c1.mono ?_
  rintro e w1 ⟨b, rfl, hb, t1, k1⟩
  clear c1
  go_wp2_with fail
  have c2 := delete_any 1 3 w1 t1 hl1 (by omega)
  unfold Edit at c2
  rw [E1.out, ← HT2.out] at c2
  refine c2.mono ?_
  rintro e w2 ⟨rfl, t2, k2⟩
  clear c2
  go_wp2_with fail
  have c3 := insert_any 2 [88] w2 t2 hl2 (by omega) (by decide)
  unfold Edit at c3
  rw [E3.out, ← HT3.out] at c3
  refine c3.mono ?_
  rintro e w3 ⟨rfl, t3, k3⟩
  clear c3
  have hB3 : Below w.heap.size w w3 := k1.trans ((k2.trans k3).below hb k1.size)
  go_wp2_with fail
  have c4 := str_any w3 t3 hf3
  unfold TextR at c4
  rw [E4.out] at c4
  refine c4.mono ?_
  rintro e w4 ⟨rfl, k4⟩
  clear c4
  have t4 := t3.below k4
  have hs : (bs [97, 100, 88, 101, 102]).toList == [97, 100, 88, 101, 102] := by rw [bs_toList]; rfl
  go_wp2_with fail
  refine (len_any w4 t4).mono ?_
  rintro e w5 ⟨rfl, k5⟩
  have t5 := t4.below k5
  go_wp2_with fail
  refine (pieces_any w5 t5).mono ?_
  rintro e w6 ⟨rfl, k6⟩
  have t6 := t5.below k6
  go_wp2_with fail
  refine (pieces_any w6 t6).mono ?_
  rintro e w7 ⟨rfl, k7⟩
  have hB : Below w.heap.size w w7 := chain hB3 (chain k4 (chain k5 (chain k6 k7)))
  go_wp2
  go_ret
  exact ⟨by rw [← show decide ((T3.pcs : Int) ≤ 5) = true by rw [decide_eq_true_eq]; omega]; rfl, hB⟩
end Go.Proofs.Ytonplacldckbgaa
