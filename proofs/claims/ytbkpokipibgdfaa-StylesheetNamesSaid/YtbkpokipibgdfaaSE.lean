/- Layer 8: EqualProps (28), Value (73), of a list with sorted keys. -/
import Derived.Test.YtbkpokipibgdfaaJ9
import Derived.Test.YtbkpokipibgdfaaKg
import Derived.Test.YtbkpokipibgdfaaJH
namespace Go.Proofs.Ytbkpokipibgdfaa
open Go.RowKit Go.Lib
set_option linter.unusedVariables false

set_option maxRecDepth 100000 in
set_option maxHeartbeats 8000000 in
theorem eqprops_any (A B : Option Addr) (n m c d : Nat) (l l' : List Pr) (hl : l.length = n) (hl' : l'.length = m) (hc : n ≤ c ∧ c ≤ maxLen) (hd : m ≤ d ∧ d ≤ maxLen) (w : World) (hA : PrAt w A l) (hB : PrAt w B l') :
    Calls Try.prog 28 #[.slice A n c, .slice B m d] w fun e w' => e = .returned (.bool (decide (l = l'))) ∧ Below w.heap.size w w' := by
  have HL := Go.Lib.hid hl
  have HL' := Go.Lib.hid hl'
  obtain ⟨hc1, hc2⟩ := hc
  obtain ⟨hd1, hd2⟩ := hd
  unfold maxLen at hc2 hd2
  have HA := Go.Lib.hid hA
  have HB := Go.Lib.hid hB
  clear hl hl' hA hB
  by_cases hnm : n = m
  · subst hnm
    go_enter Try.func28, Try.ntmps28
    go_wp2
    go_loopw [5] (fun i wr => ∃ k : Nat, k ≤ n ∧ i = .int .i64 k ∧ Hid (Below w.heap.size w wr) ∧ Hid (∀ j (h : j < l.length) (h' : j < l'.length), j < k → l[j] = l'[j])) (fun i _ => n - (intOf i).toNat)
    case atStart => exact ⟨0, Nat.zero_le _, rfl, Go.Lib.hid (Below.refl _ _), Go.Lib.hid fun j _ _ h => by omega⟩
    case round =>
      obtain ⟨k, hk, rfl, HW, HN⟩ := hrel
      by_cases hlt : k < n
      · have hkl : k < l.length := by rw [HL.out]; exact hlt
        have hkl' : k < l'.length := by rw [HL'.out]; exact hlt
        rcases HA.out with hA0 | ⟨g, o, rfl, hg, hcl⟩
        · rw [hA0] at hkl; exact absurd hkl (Nat.not_lt_zero _)
        rcases HB.out with hB0 | ⟨g', o', rfl, hg', hcl'⟩
        · rw [hB0] at hkl'; exact absurd hkl' (Nat.not_lt_zero _)
        obtain ⟨a0, a1⟩ := hcl k hkl
        obtain ⟨b0, b1⟩ := hcl' k hkl'
        have c0 := (HW.out.cell (p := ⟨g, o + k * 2, none⟩) hg).trans a0
        have c1 := (HW.out.cell (p := ⟨g, o + k * 2 + 1, none⟩) hg).trans a1
        have d0 := (HW.out.cell (p := ⟨g', o' + k * 2, none⟩) hg').trans b0
        have d1 := (HW.out.cell (p := ⟨g', o' + k * 2 + 1, none⟩) hg').trans b1
        have HS := Go.Lib.hid (fun (he : l[k] = l'[k]) j (h : j < l.length) (h' : j < l'.length) (hj : j < k + 1) => if e : j = k then by subst e; exact he else HN.out j h h' (by omega))
        have HD := Go.Lib.hid (fun (he : l[k] ≠ l'[k]) => show decide (l = l') = false from decide_eq_false fun h => he (by subst h; rfl))
        clear hcl hcl' a0 a1 b0 b1
        generalize l[k] = x at c0 c1 HS HD
        generalize l'[k] = y at d0 d1 HS HD
        obtain ⟨xa, xb⟩ := x
        obtain ⟨ya, yb⟩ := y
        dsimp only at c0 c1 d0 d1
        by_cases h1 : xa = ya
        · by_cases h2 : xb = yb
          · have e1 : (xa == ya) = true := by simpa using h1
            have e2 : (xb == yb) = true := by simpa using h2
            have HE := Go.Lib.hid (show (xa, xb) = (ya, yb) by rw [h1, h2])
            clear h1 h2
            go_wp2
            go_quiet (fail)
            go_wp2
            go_roundw
            case rel => exact ⟨k + 1, by omega, by go_num, Go.Lib.hid (bdrew HW.out _), Go.Lib.hid (HS.out HE.out)⟩
            case measure => simp [intOf]; omega
          · have e1 : (xa == ya) = true := by simpa using h1
            have e2 : (xb == yb) = false := by simpa using h2
            have HE := Go.Lib.hid (show (xa, xb) ≠ (ya, yb) from fun h => h2 (congrArg Prod.snd h))
            clear h1 h2
            go_wp2
            go_quiet (fail)
            go_wp2
            go_ret
            exact ⟨ret_bool' (HD.out HE.out).symm, bdrew HW.out _⟩
        · have e1 : (xa == ya) = false := by simpa using h1
          have HE := Go.Lib.hid (show (xa, xb) ≠ (ya, yb) from fun h => h1 (congrArg Prod.fst h))
          clear h1
          go_wp2
          go_quiet (fail)
          go_wp2
          go_ret
          exact ⟨ret_bool' (HD.out HE.out).symm, bdrew HW.out _⟩
      · obtain rfl : k = n := by omega
        go_wp2
        go_ret
        exact ⟨ret_bool' (decide_eq_true (List.ext_getElem (HL.out.trans HL'.out.symm) fun j h h' => HN.out j h h' (by rw [← HL.out]; exact h))).symm, HW.out⟩
  · have HF := Go.Lib.hid (show decide (l = l') = false from decide_eq_false fun h => hnm (by rw [← HL.out, ← HL'.out, h]))
    have e1 : decide ((n : Int) = (m : Int)) = false := decide_eq_false (by omega)
    have e2 : ((n : Int) == (m : Int)) = false := by rw [beq_eq_false_iff_ne]; omega
    have e3 : ((n : Int) != (m : Int)) = true := by rw [bne_iff_ne]; omega
    clear hnm
    go_enter Try.func28, Try.ntmps28
    go_wp2
    go_ret
    exact ⟨ret_bool' HF.out.symm, Below.refl _ _⟩

theorem preset_anyB (p : Int) (w : World) : Calls Try.prog 82 #[.int .i64 p] w fun e w' => (∃ e0, e = .returned (.tuple #[.int .i64 (rowZ p).2.2.2.2.2, .int .i64 e0])) ∧ Below w.heap.size w w' := by
  by_cases h : ∃ r ∈ tabP, r.1 = p
  · refine (preset_yes p h w).mono ?_
    rintro e w' ⟨⟨r, hr, rfl, rfl⟩, hb⟩
    refine ⟨⟨0, ?_⟩, hb⟩
    unfold rowZ
    rw [rowOf_mem hr]
    rfl
  · refine (preset_no p h w).mono ?_
    rintro e w' ⟨rfl, hb⟩
    refine ⟨⟨4, ?_⟩, hb⟩
    unfold rowZ
    rw [rowOf_none h]
    rfl
/-- The value of a key: its default where the list lacks it. -/
def valP (o : List Pr) (p : Int) : Int := if getB o p = true then getV o p else (rowZ p).2.2.2.2.2
set_option maxRecDepth 100000 in
set_option maxHeartbeats 4000000 in
theorem value_any (o : List Pr) (hs : SortP o) (B : Option Addr) (n cb : Nat) (ho : o.length = n) (hn : n ≤ 1000) (hc : n ≤ cb ∧ cb ≤ maxLen) (p : Int) (w : World) (hB : PrAt w B o) :
    Calls Try.prog 73 #[.slice B n cb, .int .i64 p] w fun e w' => e = .returned (.int .i64 (valP o p)) ∧ Below w.heap.size w w' := by
  unfold valP
  by_cases hb : getB o p = true
  · rw [if_pos hb]
    exact value_yes o hs B n cb ho hn hc p hb w hB
  · rw [if_neg hb]
    have hb' : getB o p = false := by simpa using hb
    have cG := fun w' hB => get_any o hs B n cb ho hn hc p w' hB
    have cD := fun w' => preset_anyB p w'
    rw [hb'] at cG
    clear hb hb' ho
    go_enter Try.func73, Try.ntmps73
    go_wp2_with (first
      | (go_at_call 90; (with_reducible refine (cG _ hB).mono ?_); rintro e w1 ⟨rfl, hb1⟩)
      | (go_at_call 82; (with_reducible refine (cD _).mono ?_); rintro e w2 ⟨⟨e0, rfl⟩, hb2⟩))
    go_ret
    exact ⟨rfl, hb1.trans (hb2.mono hb1.size)⟩
end Go.Proofs.Ytbkpokipibgdfaa
