/- Layer 7: getting a value: the reference's, and the program's. -/
import Derived.Test.YtbkpokipibgdfaaJ6
import Derived.Test.YtbkpokipibgdfaaH9
import Derived.Test.YtbkpokipibgdfaaJ3
namespace Go.Proofs.Ytbkpokipibgdfaa
open Go.RowKit Go.Lib

/-- Whether a list has a key, and its value. -/
def getB (l : List Pr) (p : Int) : Bool := l.any (·.1 == p)
def getV (l : List Pr) (p : Int) : Int := ((l.find? (·.1 == p)).map (·.2)).getD 0
theorem get_at {l : List Pr} {p : Int} {k : Nat} (hk : k < l.length) (he : l[k].1 = p) (hn : ∀ j (h : j < l.length), j < k → l[j].1 ≠ p) : getB l p = true ∧ getV l p = l[k].2 := by
  constructor
  · unfold getB
    rw [List.any_eq_true]
    exact ⟨l[k], List.getElem_mem hk, by simpa using he⟩
  · unfold getV
    have : l.find? (·.1 == p) = some l[k] := by
      rw [List.find?_eq_some_iff_getElem]
      refine ⟨by simpa using he, k, hk, rfl, fun j hj => ?_⟩
      have := hn j (by omega) hj
      simpa using this
    rw [this]; rfl
theorem get_none {l : List Pr} {p : Int} (hn : ∀ j (h : j < l.length), l[j].1 ≠ p) : getB l p = false ∧ getV l p = 0 := by
  have h0 : ∀ x ∈ l, x.1 ≠ p := by
    intro x hx
    obtain ⟨j, hj, rfl⟩ := List.mem_iff_getElem.1 hx
    exact hn j hj
  constructor
  · unfold getB
    rw [List.any_eq_false]
    intro x hx; simpa using h0 x hx
  · unfold getV
    have : l.find? (·.1 == p) = none := by
      rw [List.find?_eq_none]
      intro x hx; simpa using h0 x hx
    rw [this]; rfl
theorem getB_mem {l : List Pr} {p : Int} (h : getB l p = true) : ∃ k, ∃ hk : k < l.length, l[k].1 = p := by
  unfold getB at h
  rw [List.any_eq_true] at h
  obtain ⟨x, hx, he⟩ := h
  obtain ⟨k, hk, rfl⟩ := List.mem_iff_getElem.1 hx
  exact ⟨k, hk, by simpa using he⟩
theorem ret_pair {a b : Int} {x y : Bool} (h1 : a = b) (h2 : x = y) : Ending.returned (.tuple #[.int .i64 a, .bool x]) = .returned (.tuple #[.int .i64 b, .bool y]) := by rw [h1, h2]

set_option maxRecDepth 100000 in
set_option maxHeartbeats 4000000 in
theorem rget_any (A : Option Addr) (len c : Nat) (l : List Pr) (hl : l.length = len) (hc : len ≤ c ∧ c ≤ maxLen) (p : Int) (w : World) (hA : PrAt w A l) :
    Calls Try.prog 34 #[.slice A len c, .int .i64 p] w fun e w' => e = .returned (.tuple #[.int .i64 (getV l p), .bool (getB l p)]) ∧ w = w' := by
  have HA := Go.Lib.hid hA
  have HL := Go.Lib.hid hl
  obtain ⟨hc1, hc2⟩ := hc
  unfold maxLen at hc2
  clear hA hl
  go_enter Try.func34, Try.ntmps34
  go_wp2
  go_loop [6] (fun i => ∃ k : Nat, k ≤ len ∧ i = .int .i64 k ∧ Hid (∀ j (h : j < l.length), j < k → l[j].1 ≠ p)) (fun i => len - (intOf i).toNat)
  case atStart => exact ⟨0, Nat.zero_le _, rfl, Go.Lib.hid fun j _ h => by omega⟩
  case round =>
    obtain ⟨k, hk, rfl, HN⟩ := hrel
    by_cases hlt : k < len
    · have hkl : k < l.length := by rw [HL.out]; exact hlt
      rcases HA.out with hA0 | ⟨g, o', rfl, hg, hcl⟩
      · rw [hA0] at hkl; exact absurd hkl (Nat.not_lt_zero _)
      obtain ⟨c0, c1⟩ := hcl k hkl
      have HG := Go.Lib.hid (fun he => get_at (p := p) hkl he HN.out)
      have HS := Go.Lib.hid (fun (he : l[k].1 ≠ p) j (h : j < l.length) (hj : j < k + 1) => if e : j = k then by subst e; exact he else HN.out j h (by omega))
      clear hcl
      generalize l[k] = y at c0 c1 HG HS
      obtain ⟨ya, yb⟩ := y
      dsimp only at c0 c1 HG HS
      by_cases he : ya = p
      · have hb : (ya == p) = true := by simpa using he
        have HE := Go.Lib.hid he
        clear he
        go_wp2
        go_ret2
        exact ⟨ret_pair (HG.out HE.out).2.symm (HG.out HE.out).1.symm, rfl⟩
      · have hb : (ya == p) = false := by simpa using he
        have HE := Go.Lib.hid he
        clear he
        go_wp2
        go_round
        case rel => exact ⟨k + 1, by omega, by go_num, Go.Lib.hid (HS.out HE.out)⟩
        case measure => simp [intOf]; omega
    · obtain rfl : k = len := by omega
      go_wp2
      go_ret2
      have h0 := get_none (l := l) (p := p) fun j h => HN.out j h (by rw [← HL.out]; exact h)
      exact ⟨ret_pair h0.2.symm h0.1.symm, rfl⟩

/-- What the search hands back for a key that the list has, and for another one. -/
theorem search_yes (l : List Pr) (hs : SortP l) (A : Option Addr) (len c : Nat) (hl : l.length = len) (hl2 : len ≤ 1000) (p : Int) (w : World) (hA : PrAt w A l) (hb : getB l p = true) :
    Calls Try.prog 99 #[.slice A len c, .int .i64 p] w fun e w' => (∃ i, ∃ h : i < l.length, l[i].1 = p ∧ e = .returned (.tuple #[.int .i64 (i : Nat), .bool true])) ∧ Below w.heap.size w w' := by
  have cS := fun w' (hA : PrAt w' A l) => psearch_any l hs A c p w' (by rw [hl]; exact hl2) hA
  rw [hl] at cS
  have HB := Go.Lib.hid hb
  have HS := Go.Lib.hid hs
  clear hb hs
  go_enter Try.func99, Try.ntmps99
  go_wp2_with (go_at_call 103; (with_reducible refine (cS _ hA).mono ?_); rintro e w1 ⟨i, PT, hb1, rfl⟩; have P := Go.Lib.hid PT; clear PT)
  go_ret2
  obtain ⟨k, hk, hkp⟩ := getB_mem HB.out
  obtain ⟨h1, h2, h3⟩ := P.out
  have hki : ¬ k < i := fun h => by have := h2 k hk h; omega
  have hil : i < l.length := by omega
  have h4 := h3 i hil (Nat.le_refl _)
  have h5 := HS.out.le i k hil hk (by omega)
  have e1 : l[i].1 = p := by omega
  exact ⟨⟨i, hil, e1, ret_pair rfl (decide_eq_true ⟨by rw [← hl]; exact hil, e1⟩)⟩, hb1⟩
theorem search_no (l : List Pr) (hs : SortP l) (A : Option Addr) (len c : Nat) (hl : l.length = len) (hl2 : len ≤ 1000) (p : Int) (w : World) (hA : PrAt w A l) (hb : getB l p = false) :
    Calls Try.prog 99 #[.slice A len c, .int .i64 p] w fun e w' => (∃ i, PartP l p i ∧ e = .returned (.tuple #[.int .i64 (i : Nat), .bool false])) ∧ Below w.heap.size w w' := by
  have cS := fun w' (hA : PrAt w' A l) => psearch_any l hs A c p w' (by rw [hl]; exact hl2) hA
  rw [hl] at cS
  have HB := Go.Lib.hid hb
  clear hb
  go_enter Try.func99, Try.ntmps99
  go_wp2_with (go_at_call 103; (with_reducible refine (cS _ hA).mono ?_); rintro e w1 ⟨i, PT, hb1, rfl⟩; have P := Go.Lib.hid PT; clear PT)
  go_ret2
  refine ⟨⟨i, P.out, ret_pair rfl (decide_eq_false fun ⟨h, he⟩ => ?_)⟩, hb1⟩
  have := HB.out
  unfold getB at this
  rw [List.any_eq_false] at this
  exact this (l[i]'(by rw [hl]; exact h)) (List.getElem_mem _) (by simpa using he)
theorem getV_at {l : List Pr} (hs : SortP l) {p : Int} {i : Nat} (h : i < l.length) (he : l[i].1 = p) : getV l p = l[i].2 :=
  (get_at h he fun j hj hji hjp => by have := hs j i hj h hji; omega).2

set_option maxRecDepth 100000 in
set_option maxHeartbeats 4000000 in
theorem get_any (l : List Pr) (hs : SortP l) (A : Option Addr) (len c : Nat) (hl : l.length = len) (hl2 : len ≤ 1000) (hc : len ≤ c ∧ c ≤ maxLen) (p : Int) (w : World) (hA : PrAt w A l) :
    Calls Try.prog 90 #[.slice A len c, .int .i64 p] w fun e w' => e = .returned (.tuple #[.int .i64 (getV l p), .bool (getB l p)]) ∧ Below w.heap.size w w' := by
  have HL := Go.Lib.hid hl
  obtain ⟨hc1, hc2⟩ := hc
  unfold maxLen at hc2
  cases hb : getB l p with
  | true =>
    have cS := fun w' (hA : PrAt w' A l) => search_yes l hs A len c hl hl2 p w' hA hb
    have HB := Go.Lib.hid hb
    clear hb hl
    go_enter Try.func90, Try.ntmps90
    go_wp2_with fail
    refine (cS _ hA).mono ?_
    rintro e w1 ⟨⟨i, hi, he, rfl⟩, hb1⟩
    have hil : i < len := by rw [← HL.out]; exact hi
    rcases hA with hA0 | ⟨g, o', rfl, hg, hcl⟩
    · rw [hA0] at hi; exact absurd hi (Nat.not_lt_zero _)
    have c1 := (hb1.cell (p := ⟨g, o' + i * 2 + 1, none⟩) hg).trans (hcl i hi).2
    have HV := Go.Lib.hid (getV_at hs hi he)
    clear hcl cS he
    generalize l[i] = y at c1 HV
    obtain ⟨ya, yb⟩ := y
    dsimp only at c1 HV
    go_wp2
    go_ret2
    exact ⟨ret_pair HV.out.symm rfl, hb1⟩
  | false =>
    have cS := fun w' (hA : PrAt w' A l) => search_no l hs A len c hl hl2 p w' hA hb
    have HV := Go.Lib.hid (get_none (l := l) (p := p) fun j h he => by
      unfold getB at hb
      rw [List.any_eq_false] at hb
      exact hb l[j] (List.getElem_mem h) (by simpa using he)).2
    clear hb hl
    go_enter Try.func90, Try.ntmps90
    go_wp2_with (go_at_call 99; (with_reducible refine (cS _ hA).mono ?_); rintro e w1 ⟨⟨i, PT, rfl⟩, hb1⟩; clear PT)
    go_ret2
    exact ⟨ret_pair HV.out.symm rfl, hb1⟩
end Go.Proofs.Ytbkpokipibgdfaa
