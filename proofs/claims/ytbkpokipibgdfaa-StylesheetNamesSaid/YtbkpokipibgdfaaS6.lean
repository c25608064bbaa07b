/- Layer 8: properties that name styles (91, 100, 101), checkProps (94). -/
import Derived.Test.YtbkpokipibgdfaaS2
import Derived.Test.YtbkpokipibgdfaaJI
namespace Go.Proofs.Ytbkpokipibgdfaa
open Go.RowKit Go.Lib
set_option linter.unusedVariables false

def isSt (y : Pr) : Bool := y.1 == 20 || y.1 == 1
def stP (l : List Pr) : Bool := l.any isSt
theorem stP_yes {l : List Pr} {k : Nat} (h : k < l.length) (hp : isSt l[k] = true) : stP l = true := List.any_eq_true.2 ⟨_, List.getElem_mem h, hp⟩
theorem stP_no {l : List Pr} (hn : ∀ j (h : j < l.length), isSt l[j] = false) : stP l = false := by
  unfold stP
  rw [List.any_eq_false]
  intro x hx
  obtain ⟨j, hj, rfl⟩ := List.mem_iff_getElem.1 hx
  rw [hn j hj]; simp
def ckP (kind : Int) (l : List Pr) : Int := if stP l = true then 4 else if (kind == 2) = true then chkP 1 l else chkP 2 l

set_option maxRecDepth 100000 in
set_option maxHeartbeats 8000000 in
theorem isst_any (a b : Int) (w : World) : Calls Try.prog 101 #[.agg #[.int .i64 a, .int .i64 b]] w fun e w' => e = .returned (.bool (isSt (a, b))) ∧ Below w.heap.size w w' := by
  have HB := Lib.hid ((Below.refl w.heap.size w).alloc (Nat.le_refl _) (.cells #[.int .i64 a, .int .i64 b] 55))
  go_enter Try.func101, Try.ntmps101
  unfold isSt
  dsimp only
  by_cases h1 : (a == 20) = true
  · go_wp2
    go_ret
    exact ⟨ret_bool' (by rw [h1]; rfl), HB.out⟩
  · have h1' : (a == 20) = false := by simpa using h1
    clear h1
    by_cases h2 : (a == 1) = true
    · go_wp2
      go_ret
      exact ⟨ret_bool' (by rw [h1', h2]; rfl), HB.out⟩
    · have h2' : (a == 1) = false := by simpa using h2
      clear h2
      go_wp2
      go_ret
      exact ⟨ret_bool' (by rw [h1', h2']; rfl), HB.out⟩
/-- What the search hands back. -/
def StR (l : List Pr) (e : Ending) : Prop := ∃ z : Int, e = .returned (.int .i64 z) ∧ decide (0 ≤ z) = stP l
set_option maxRecDepth 100000 in
set_option maxHeartbeats 8000000 in
theorem indexst_any (l : List Pr) (n : Nat) (hn : l.length = n) (A : Option Addr) (c : Nat) (hc : n ≤ c ∧ c ≤ maxLen) (w : World) (hA : PrAt w A l) :
    Calls Try.prog 91 #[.slice A n c, .func (.func 101) #[] #[]] w fun e w' => StR l e ∧ Below w.heap.size w w' := by
  have HN := Lib.hid hn
  have HA := Lib.hid hA
  have CB := Lib.hid (fun a b w' => isst_any a b w')
  have hm : n ≤ maxLen := Nat.le_trans hc.1 hc.2
  unfold maxLen at hm
  clear hn hA
  go_enter Try.func91, Try.ntmps91
  go_wp2_with fail
  go_loopw [5, 8] (fun _ s8 wr => ∃ k : Nat, k ≤ n ∧ s8 = .int .i64 (k : Nat) ∧ Hid (∀ j (h : j < l.length), j < k → isSt l[j] = false) ∧ Hid (Below w.heap.size w wr)) (fun _ s8 _ => n - (intOf s8).toNat)
  case atStart => exact ⟨0, Nat.zero_le _, rfl, Lib.hid (fun j _ h => absurd h (Nat.not_lt_zero _)), Lib.hid (Below.refl _ _)⟩
  case round =>
    obtain ⟨k, hk, rfl, HM, HB⟩ := hrel
    by_cases hlt : k < n
    · have hkl : k < l.length := by rw [HN.out]; exact hlt
      rcases HA.out with hA0 | ⟨g, o, rfl, hg, hcl⟩
      · rw [hA0] at hkl; exact absurd hkl (Nat.not_lt_zero _)
      obtain ⟨z0, z1⟩ := hcl k hkl
      replace z0 := (HB.out.cell (p := ⟨g, o + k * 2, none⟩) hg).trans z0
      replace z1 := (HB.out.cell (p := ⟨g, o + k * 2 + 1, none⟩) hg).trans z1
      have HY := Lib.hid (fun (h : isSt l[k] = true) => stP_yes hkl h)
      have HX := Lib.hid (fun (h : isSt l[k] = false) => show ∀ j (h : j < l.length), j < k + 1 → isSt l[j] = false from fun j hj hl => if e : j = k then by subst e; exact h else HM.out j hj (by omega))
      have hs := HB.out.size
      clear hcl
      generalize l[k] = x at z0 z1 HY HX
      obtain ⟨a, b⟩ := x
      dsimp only at z0 z1 HY HX
      have cb := CB.out a b wr
      by_cases hv : isSt (a, b) = true
      · have HE := Lib.hid (HY.out hv)
        rw [hv] at cb
        clear HY HX hv
        go_wp2_with fail
        (with_reducible refine cb.mono ?_)
        rintro e w7 ⟨rfl, k7⟩
        have K7 := Go.Lib.hid (HB.out.trans (k7.mono hs))
        clear cb k7
        go_wp2
        go_ret
        exact ⟨⟨(k : Nat), rfl, by rw [HE.out]; simp⟩, K7.out⟩
      · have hv' : isSt (a, b) = false := by simpa using hv
        rw [hv'] at cb
        have HE := Lib.hid (HX.out hv')
        clear HY HX hv hv'
        go_wp2_with fail
        (with_reducible refine cb.mono ?_)
        rintro e w7 ⟨rfl, k7⟩
        have K7 := Go.Lib.hid (HB.out.trans (k7.mono hs))
        clear cb k7 z0 z1
        go_wp2
        go_roundw
        case rel => exact ⟨k + 1, by omega, by go_num, HE, K7⟩
        case measure => simp [intOf]; omega
    · obtain rfl : k = n := by omega
      have HE := Lib.hid (stP_no (l := l) fun j h => HM.out j h (by rw [← HN.out]; exact h))
      go_wp2
      go_ret
      exact ⟨⟨-1, rfl, by rw [HE.out]; rfl⟩, HB.out⟩
set_option maxRecDepth 100000 in
set_option maxHeartbeats 8000000 in
theorem containsst_any (l : List Pr) (n : Nat) (hn : l.length = n) (A : Option Addr) (c : Nat) (hc : n ≤ c ∧ c ≤ maxLen) (w : World) (hA : PrAt w A l) :
    Calls Try.prog 100 #[.slice A n c, .func (.func 101) #[] #[]] w fun e w' => e = .returned (.bool (stP l)) ∧ Below w.heap.size w w' := by
  have cI := indexst_any l n hn A c hc w hA
  clear hn hA
  go_enter Try.func100, Try.ntmps100
  go_wp2_with fail
  (with_reducible refine cI.mono ?_)
  rintro e w7 ⟨⟨z, rfl, hz⟩, k7⟩
  clear cI
  go_wp2
  go_ret
  exact ⟨rfl, k7⟩
set_option maxRecDepth 100000 in
set_option maxHeartbeats 8000000 in
theorem checkprops_any (kind : Int) (l : List Pr) (n : Nat) (hn : l.length = n) (A : Option Addr) (c : Nat) (hc : n ≤ c ∧ c ≤ maxLen) (w : World) (hA : PrAt w A l) :
    Calls Try.prog 94 #[.int .i64 kind, .slice A n c] w fun e w' => e = .returned (.int .i64 (ckP kind l)) ∧ Below w.heap.size w w' := by
  have cI := containsst_any l n hn A c hc w hA
  have cC := fun x (hx : 1 ≤ x ∧ x ≤ 10) w' (hb : Below w.heap.size w w') => check_in x A n c l hn hc hx w' (hA.below hb (Nat.le_refl _))
  have HC := Go.Lib.hid cC
  unfold ckP
  clear hn hA cC
  cases hs : stP l with
  | true =>
    rw [hs] at cI
    go_enter Try.func94, Try.ntmps94
    go_wp2_with fail
    (with_reducible refine cI.mono ?_)
    rintro e w7 ⟨rfl, k7⟩
    clear cI
    go_wp2
    go_ret
    exact ⟨rfl, k7⟩
  | false =>
    rw [hs] at cI
    go_enter Try.func94, Try.ntmps94
    go_wp2_with fail
    (with_reducible refine cI.mono ?_)
    rintro e w7 ⟨rfl, k7⟩
    clear cI
    by_cases hk : (kind == 2) = true
    · have cC := HC.out 1 (by omega) w7 k7
      go_wp2_with fail
      (with_reducible refine cC.mono ?_)
      rintro e w8 ⟨rfl, k8⟩
      clear cC
      go_wp2
      go_ret
      exact ⟨rfl, k7.trans (k8.mono k7.size)⟩
    · have hk' : (kind == 2) = false := by simpa using hk
      have cC := HC.out 2 (by omega) w7 k7
      go_wp2_with fail
      (with_reducible refine cC.mono ?_)
      rintro e w8 ⟨rfl, k8⟩
      clear cC
      go_wp2
      go_ret
      exact ⟨rfl, k7.trans (k8.mono k7.size)⟩
end Go.Proofs.Ytbkpokipibgdfaa
