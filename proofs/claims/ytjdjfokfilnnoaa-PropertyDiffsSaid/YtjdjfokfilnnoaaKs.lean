/- Layer 7: the law of Set and Clear. -/
import Derived.Test.YtjdjfokfilnnoaaJO
import Derived.Test.YtjdjfokfilnnoaaKm
import Derived.IntWalk
namespace Go.Proofs.Ytjdjfokfilnnoaa
open Go.RowKit Go.Lib

theorem rclear_out (A : Option Addr) (len c : Nat) (l : List Pr) (hl : l.length = len) (hc : len ≤ c ∧ c ≤ maxLen) (hs : len ≤ 1000) (p : Int) (w : World) (hA : PrAt w A l) :
    Calls Try.prog 37 #[.slice A len c, .int .i64 p] w (OutN (clearP l p) w) := (rclear_any A len c l hl hc hs p w hA).mono fun _ _ h => h.outN
set_option maxRecDepth 100000 in
set_option maxHeartbeats 8000000 in
theorem rordered_yes (A : Option Addr) (len c : Nat) (l : List Pr) (hs : SortP l) (hl : l.length = len) (hc : len ≤ c ∧ c ≤ maxLen) (w : World) (hA : PrAt w A l) :
    Calls Try.prog 38 #[.slice A len c] w fun e w' => e = .returned (.bool true) ∧ Below w.heap.size w w' := by
  have HA := Go.Lib.hid hA
  have HL := Go.Lib.hid hl
  have HS := Go.Lib.hid hs
  obtain ⟨hc1, hc2⟩ := hc
  unfold maxLen at hc2
  clear hA hl hs
  go_enter Try.func38, Try.ntmps38
  go_wp2
  go_loopw [3] (fun i wr => ∃ j : Nat, j ≤ len ∧ i = .int .i64 ((j : Int) + 1) ∧ Hid (Below w.heap.size w wr)) (fun i _ => len + 1 - (RowKit.intOf i).toNat)
  case atStart => exact ⟨0, Nat.zero_le _, rfl, Go.Lib.hid (Below.refl _ _)⟩
  case round =>
    obtain ⟨j, hj, rfl, HB⟩ := hrel
    by_cases hlt : j + 1 < len
    · have hj1 : j + 1 < l.length := by rw [HL.out]; exact hlt
      have hj0 : j < l.length := by omega
      rcases HA.out with hA0 | ⟨g, o', rfl, hg, hcl⟩
      · rw [hA0] at hj0; exact absurd hj0 (Nat.not_lt_zero _)
      have c1 := (HB.out.cell (p := ⟨g, o' + (j + 1) * 2, none⟩) hg).trans (hcl (j + 1) hj1).1
      have c0 := (HB.out.cell (p := ⟨g, o' + j * 2, none⟩) hg).trans (hcl j hj0).1
      have hord := HS.out j (j + 1) hj0 hj1 (by omega)
      clear hcl
      generalize (l[j + 1]).1 = y at c1 hord
      generalize (l[j]).1 = x at c0 hord
      have hd : decide (y ≤ x) = false := decide_eq_false (by omega)
      go_wp2
      have q1 : (0 : Int) ≤ (j : Int) := by omega
      have q2 : (j : Int) < (len : Int) := by omega
      have q3 : (0 : Int) ≤ (j : Int) + 1 := by omega
      have q4 : IntKind.i64.wrap (j : Int) = j := IntWalk.i64_in _ (by omega)
      have q5 : (j : Int) + 1 < (len : Int) := by omega
      go_quiet (fail)
      clear q1 q2 q3 q4 q5
      go_wp2
      go_roundw
      case rel => exact ⟨j + 1, by omega, by go_num, Go.Lib.hid (bdrew HB.out _)⟩
      case measure => simp [RowKit.intOf]; omega
    · go_wp2
      go_ret
      exact ⟨rfl, HB.out⟩
set_option maxRecDepth 100000 in
set_option maxHeartbeats 16000000 in
theorem sets_in (A : Option Addr) (m c : Nat) (z o : List Pr) (k v : Int) (hs : SortP o) (hq : o.length ≤ 60) (cO : ∀ w, PrAt w A z → Calls Try.prog 29 #[.slice A m c] w (OutN o w)) (w : World) (hA : PrAt w A z) :
    Calls Try.prog 8 #[.slice A m c, .int .i64 k, .int .i64 v] w fun e w' => e = .returned (.bool true) ∧ Below w.heap.size w w' := by
  have cK := fun w' => known_any w'
  go_enter Try.func8, Try.ntmps8
  go_wp2_with fail
  refine (cO _ hA).mono ?_
  rintro e w1 ⟨B1, n1, c1, rfl, l1, x1, y1, Q1, hb1⟩
  have HBB1 := hb1
  have HL1 := Go.Lib.hid l1
  clear hb1 l1
  have L1 : n1 ≤ 60 := by have := HL1.out; omega
  go_wp2_with fail
  refine (set_any _ _ _ o hs HL1.out ⟨x1, y1⟩ (by omega) k v _ Q1).mono ?_
  rintro e w2 ⟨B2, n2, c2, rfl, l2, x2, y2, Q2, hb2⟩
  have Po_2 := Q1.below hb2 (Nat.le_refl _)
  have HBB2 := HBB1.trans (hb2.mono HBB1.size)
  have HL2 := Go.Lib.hid l2
  clear Q1 HBB1 hb2 l2
  have Ls : n2 ≤ 61 := by have h3 := HL2.out; have h0 := set_len o k v; have h1 := HL1.out; omega
  go_wp2_with fail
  refine (clearF_any _ _ _ o hs HL1.out ⟨x1, y1⟩ (by omega) k _ Po_2).mono ?_
  rintro e w3 ⟨B3, n3, c3, rfl, l3, x3, y3, Q3, hb3⟩
  have Po_3 := Po_2.below hb3 (Nat.le_refl _)
  have Ps_3 := Q2.below hb3 (Nat.le_refl _)
  have HBB3 := HBB2.trans (hb3.mono HBB2.size)
  have HL3 := Go.Lib.hid l3
  clear Po_2 Q2 HBB2 hb3 l3
  have Ld : n3 ≤ 60 := by have h3 := HL3.out; have h0 := clear_len o k; have h1 := HL1.out; omega
  go_wp2_with fail
  refine (cK _).mono ?_
  rintro e w4 ⟨rfl, hb4⟩
  have Po_4 := Po_3.below hb4 (Nat.le_refl _)
  have Ps_4 := Ps_3.below hb4 (Nat.le_refl _)
  have Pd_4 := Q3.below hb4 (Nat.le_refl _)
  have HBB4 := HBB3.trans (hb4.mono HBB3.size)
  clear Po_3 Ps_3 Q3 HBB3 hb4
  go_wp2_with fail
  refine (rset_out _ _ _ o HL1.out ⟨x1, y1⟩ (by omega) k v _ Po_4).mono ?_
  rintro e w5 ⟨B5, n5, c5, rfl, l5, x5, y5, Q5, hb5⟩
  have Po_5 := Po_4.below hb5 (Nat.le_refl _)
  have Ps_5 := Ps_4.below hb5 (Nat.le_refl _)
  have Pd_5 := Pd_4.below hb5 (Nat.le_refl _)
  have HBB5 := HBB4.trans (hb5.mono HBB4.size)
  have HL5 := Go.Lib.hid l5
  clear Po_4 Ps_4 Pd_4 HBB4 hb5 l5
  go_wp2_with fail
  refine (requal_same _ _ _ _ _ _ (setP o k v) (setP o k v) HL2.out HL5.out ⟨x2, y2⟩ ⟨x5, y5⟩ rfl _ Ps_5 Q5).mono ?_
  rintro e w6 ⟨rfl, hb6⟩
  have Po_6 := Po_5.below hb6 (Nat.le_refl _)
  have Ps_6 := Ps_5.below hb6 (Nat.le_refl _)
  have Pd_6 := Pd_5.below hb6 (Nat.le_refl _)
  have Prs_6 := Q5.below hb6 (Nat.le_refl _)
  have HBB6 := HBB5.trans (hb6.mono HBB5.size)
  clear Po_5 Ps_5 Pd_5 Q5 HBB5 hb6
  go_wp2_with fail
  refine (rclear_out _ _ _ o HL1.out ⟨x1, y1⟩ (by omega) k _ Po_6).mono ?_
  rintro e w7 ⟨B7, n7, c7, rfl, l7, x7, y7, Q7, hb7⟩
  have Po_7 := Po_6.below hb7 (Nat.le_refl _)
  have Ps_7 := Ps_6.below hb7 (Nat.le_refl _)
  have Pd_7 := Pd_6.below hb7 (Nat.le_refl _)
  have Prs_7 := Prs_6.below hb7 (Nat.le_refl _)
  have HBB7 := HBB6.trans (hb7.mono HBB6.size)
  have HL7 := Go.Lib.hid l7
  clear Po_6 Ps_6 Pd_6 Prs_6 HBB6 hb7 l7
  go_wp2_with fail
  refine (requal_same _ _ _ _ _ _ (clearP o k) (clearP o k) HL3.out HL7.out ⟨x3, y3⟩ ⟨x7, y7⟩ rfl _ Pd_7 Q7).mono ?_
  rintro e w8 ⟨rfl, hb8⟩
  have Po_8 := Po_7.below hb8 (Nat.le_refl _)
  have Ps_8 := Ps_7.below hb8 (Nat.le_refl _)
  have Pd_8 := Pd_7.below hb8 (Nat.le_refl _)
  have Prs_8 := Prs_7.below hb8 (Nat.le_refl _)
  have Prd_8 := Q7.below hb8 (Nat.le_refl _)
  have HBB8 := HBB7.trans (hb8.mono HBB7.size)
  clear Po_7 Ps_7 Pd_7 Prs_7 Q7 HBB7 hb8
  go_wp2_with fail
  refine (rordered_yes _ _ _ (setP o k v) (srt_iff.2 (srt_set (srt_iff.1 hs) k v)) HL2.out ⟨x2, y2⟩ _ Ps_8).mono ?_
  rintro e w9 ⟨rfl, hb9⟩
  have Po_9 := Po_8.below hb9 (Nat.le_refl _)
  have Ps_9 := Ps_8.below hb9 (Nat.le_refl _)
  have Pd_9 := Pd_8.below hb9 (Nat.le_refl _)
  have Prs_9 := Prs_8.below hb9 (Nat.le_refl _)
  have Prd_9 := Prd_8.below hb9 (Nat.le_refl _)
  have HBB9 := HBB8.trans (hb9.mono HBB8.size)
  clear Po_8 Ps_8 Pd_8 Prs_8 Prd_8 HBB8 hb9
  go_wp2
  go_ret
  exact ⟨rfl, HBB9⟩
theorem law_sets (A : Option Addr) (len c : Nat) (l : List Pr) (k v : Int) (w : World) (hA : PropsIn w A len c l) : Calls Try.prog 8 #[.slice A len c, .int .i64 k, .int .i64 v] w fun e w' => e = .returned (.bool true) ∧ Below w.heap.size w w' :=
  sets_in A len c l _ k v (ordP_sort l) (ordP_len l) (fun w h => ordered_outN A len c l hA.1 ⟨hA.2.1, hA.2.2.1⟩ w h) w hA.2.2.2.1
end Go.Proofs.Ytjdjfokfilnnoaa
