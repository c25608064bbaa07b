/- Layer 8: the texts J6 J8 J9 JA JH JI. -/
import Derived.Test.YtbkpokipibgdfaaND
import Derived.Deep.QuietTactic
import Derived.BigQuiet
import Derived.OwnWalk
import Derived.Maps.AppendAt
import Derived.Test.YtbkpokipibgdfaaNC
import Derived.WalkSpells
import Derived.IntWalk

/- Layer 7: lists of properties as values; ordered. -/
namespace Go.Proofs.Ytbkpokipibgdfaa
open Go.RowKit Go.Lib

/-- A value that reads as a list of properties. -/
def PVal (w : World) (v : Value) (l : List Pr) : Prop := ∃ A c, v = .slice A l.length c ∧ l.length ≤ c ∧ c ≤ maxLen ∧ PrAt w A l
theorem PVal.below {w w' : World} {v : Value} {l : List Pr} (h : PVal w v l) (hb : Below w.heap.size w w') : PVal w' v l := by
  obtain ⟨A, c, h1, h2, h3, h4⟩ := h
  exact ⟨A, c, h1, h2, h3, h4.below hb (Nat.le_refl _)⟩
theorem rowP_get (l : List Pr) : ∀ k (h : k < l.length), (rowP l)[k * 2]? = some (.int .i64 l[k].1) ∧ (rowP l)[k * 2 + 1]? = some (.int .i64 l[k].2) := by
  induction l with
  | nil => intro k h; simp at h
  | cons x l ih =>
    intro k h
    cases k with
    | zero => exact ⟨rfl, rfl⟩
    | succ k =>
      have e : rowP (x :: l) = .int .i64 x.1 :: .int .i64 x.2 :: rowP l := by simp [rowP]
      have e1 : (k + 1) * 2 = k * 2 + 1 + 1 := by omega
      rw [e, e1, List.getElem?_cons_succ, List.getElem?_cons_succ, List.getElem?_cons_succ, List.getElem?_cons_succ]
      exact ih k (by simpa using h)
theorem own_prat {w : World} {base g n cap : Nat} {l : List Pr} (h : w.ownsRow base 55 2 (.slice (some ⟨g, 0, none⟩) n cap) n (rowP l)) (hn : l.length = n) : PrAt w (some ⟨g, 0, none⟩) l := by
  subst hn
  refine .inr ⟨g, 0, rfl, (h.lt g rfl).2, fun k hk => ?_⟩
  have h1 := h.cellAt (k * 2) (by omega)
  have h2 := h.cellAt (k * 2 + 1) (by omega)
  obtain ⟨e1, e2⟩ := rowP_get l k hk
  rw [Nat.zero_add]
  exact ⟨h1.trans e1, h2.trans e2⟩
theorem PVal.own {w : World} {base n : Nat} {v : Value} {l : List Pr} (h : w.ownsRow base 55 2 v n (rowP l)) (hn : l.length = n) : PVal w v l := by
  have h2 := h
  rcases h.2 with ⟨hv, h0⟩ | ⟨g, cap, cur, hv, hb, hg, hc1, hc2, _⟩
  · subst hv
    have : l = [] := List.eq_nil_of_length_eq_zero (by omega)
    subst this
    exact ⟨none, 0, rfl, Nat.le_refl _, by decide, .inl rfl⟩
  · subst hv
    exact ⟨some ⟨g, 0, none⟩, cap, by rw [hn], by omega, hc2, own_prat h2 hn⟩
/-- What 'ordered' makes of a list, element by element. -/
def ordStep (o : List Pr) (x : Pr) : List Pr := if o.length < 60 then (match o.getLast? with | none => [x] | some y => if y.1 < x.1 then o ++ [x] else o) else o
def ordP (l : List Pr) : List Pr := l.foldl ordStep []
theorem ordP_snoc (l : List Pr) (k : Nat) (h : k < l.length) : ordP (l.take (k + 1)) = ordStep (ordP (l.take k)) l[k] := by
  unfold ordP
  rw [List.take_succ_eq_append_getElem h, List.foldl_append]; rfl
theorem ord_full (l o : List Pr) (h : 60 ≤ o.length) : l.foldl ordStep o = o := by
  induction l with
  | nil => rfl
  | cons x l ih => rw [List.foldl_cons, show ordStep o x = o by unfold ordStep; rw [if_neg (by omega)]]; exact ih
theorem ordP_full (l : List Pr) (k : Nat) (h : 60 ≤ (ordP (l.take k)).length) : ordP l = ordP (l.take k) := by
  have e : l.take k ++ l.drop k = l := List.take_append_drop k l
  have : ordP l = (l.drop k).foldl ordStep (ordP (l.take k)) := by
    conv => lhs; rw [← e]
    unfold ordP; rw [List.foldl_append]
  rw [this]; exact ord_full _ _ h
theorem ordStep_len (o : List Pr) (x : Pr) (h : o.length ≤ 60) : (ordStep o x).length ≤ 60 := by
  unfold ordStep
  split
  · split
    · simp
    · split
      · simp; omega
      · exact h
  · exact h
theorem ordP_len (l : List Pr) : (ordP l).length ≤ 60 := by
  have : ∀ (l o : List Pr), o.length ≤ 60 → (l.foldl ordStep o).length ≤ 60 := by
    intro l
    induction l with
    | nil => exact fun o h => h
    | cons x l ih => exact fun o h => ih _ (ordStep_len o x h)
  exact this l [] (by decide)
theorem sortP_nil : SortP [] := fun i j hi => by simp at hi
theorem sortP_one (x : Pr) : SortP [x] := fun i j hi hj hij => by simp at hi hj; omega
theorem sortP_snoc {o : List Pr} {x y : Pr} (h : SortP o) (hl : o.getLast? = some y) (hxy : y.1 < x.1) : SortP (o ++ [x]) := by
  intro i j hi hj hij
  simp only [List.length_append, List.length_cons, List.length_nil] at hi hj
  have hn : 0 < o.length := by
    cases o with
    | nil => simp at hl
    | cons => simp
  have hil : i < o.length := by omega
  rw [List.getElem_append_left hil]
  by_cases hjl : j < o.length
  · rw [List.getElem_append_left hjl]; exact h i j hil hjl hij
  · have : j = o.length := by omega
    subst this
    have e : (o ++ [x])[o.length]'(by simp) = x := by simp
    rw [e]
    have hy : y = o[o.length - 1]'(by omega) := by
      rw [List.getLast?_eq_getElem?, List.getElem?_eq_getElem (by omega)] at hl
      exact (Option.some.inj hl).symm
    have := h.le i (o.length - 1) hil (by omega) (by omega)
    rw [hy] at hxy
    omega
theorem ordStep_sort (o : List Pr) (x : Pr) (h : SortP o) : SortP (ordStep o x) := by
  unfold ordStep
  split
  · split
    · exact sortP_one x
    · rename_i y hl
      split
      · rename_i hxy; exact sortP_snoc h hl hxy
      · exact h
  · exact h
theorem ordP_sort (l : List Pr) : SortP (ordP l) := by
  have : ∀ (l o : List Pr), SortP o → SortP (l.foldl ordStep o) := by
    intro l
    induction l with
    | nil => exact fun o h => h
    | cons x l ih => exact fun o h => ih _ (ordStep_sort o x h)
  exact this l [] sortP_nil
theorem ordStep_mem (o : List Pr) (x y : Pr) (h : y ∈ ordStep o x) : y ∈ o ∨ y = x := by
  unfold ordStep at h
  split at h
  · split at h
    · exact .inr (by simpa using h)
    · split at h
      · simpa using h
      · exact .inl h
  · exact .inl h
theorem ordP_mem (l : List Pr) (y : Pr) (h : y ∈ ordP l) : y ∈ l := by
  have : ∀ (l o : List Pr), y ∈ l.foldl ordStep o → y ∈ o ∨ y ∈ l := by
    intro l
    induction l with
    | nil => exact fun o h => .inl h
    | cons x l ih =>
      intro o h
      rcases ih _ h with h1 | h1
      · rcases ordStep_mem o x y h1 with h2 | h2
        · exact .inl h2
        · exact .inr (by rw [h2]; simp)
      · exact .inr (List.mem_cons_of_mem _ h1)
  rcases this l [] h with h1 | h1
  · simp at h1
  · exact h1
theorem ordStep_nil (x : Pr) : ordStep [] x = [x] := rfl
theorem ordStep_yes (o : List Pr) (x : Pr) (n : Nat) (hn : o.length = n + 1) (h60 : n + 1 < 60) (h : (o[n]'(by omega)).1 < x.1) : ordStep o x = o ++ [x] := by
  unfold ordStep
  rw [if_pos (by omega)]
  have : o.getLast? = some (o[n]'(by omega)) := by rw [List.getLast?_eq_getElem?, show o.length - 1 = n by omega, List.getElem?_eq_getElem (by omega)]
  rw [this]; dsimp only; rw [if_pos h]
theorem ordStep_keep (o : List Pr) (x : Pr) (n : Nat) (hn : o.length = n + 1) (h60 : n + 1 < 60) (h : ¬ (o[n]'(by omega)).1 < x.1) : ordStep o x = o := by
  unfold ordStep
  rw [if_pos (by omega)]
  have : o.getLast? = some (o[n]'(by omega)) := by rw [List.getLast?_eq_getElem?, show o.length - 1 = n by omega, List.getElem?_eq_getElem (by omega)]
  rw [this]; dsimp only; rw [if_neg h]
/-- What hands back a list. -/
def PRet (l : List Pr) (w : World) (e : Ending) (w' : World) : Prop := ∃ v, e = .returned v ∧ PVal w' v l ∧ Below w.heap.size w w'
end Go.Proofs.Ytbkpokipibgdfaa

/- Layer 7: getting a value: the reference's, and the program's. -/
namespace Go.Proofs.Ytbkpokipibgdfaa
open Go.RowKit Go.Lib

/-- Whether a list has a key, and its value. -/
def getB (l : List Pr) (p : Int) : Bool := l.any (·.1 == p)
def getV (l : List Pr) (p : Int) : Int := ((l.find? (·.1 == p)).map (·.2)).getD 0
theorem get_at {l : List Pr} {p : Int} {k : Nat} (hk : k < l.length) (he : l[k].1 = p) (hn : ∀ j (h : j < l.length), j < k → l[j].1 ≠ p) : getB l p = true ∧ getV l p = l[k].2 := by
  constructor
  · unfold getB
    rw [List.any_eq_true]
    exact ⟨l[k], List.getElem_mem hk, by simpa using he⟩
  · unfold getV
    have : l.find? (·.1 == p) = some l[k] := by
      rw [List.find?_eq_some_iff_getElem]
      refine ⟨by simpa using he, k, hk, rfl, fun j hj => ?_⟩
      have := hn j (by omega) hj
      simpa using this
    rw [this]; rfl
theorem get_none {l : List Pr} {p : Int} (hn : ∀ j (h : j < l.length), l[j].1 ≠ p) : getB l p = false ∧ getV l p = 0 := by
  have h0 : ∀ x ∈ l, x.1 ≠ p := by
    intro x hx
    obtain ⟨j, hj, rfl⟩ := List.mem_iff_getElem.1 hx
    exact hn j hj
  constructor
  · unfold getB
    rw [List.any_eq_false]
    intro x hx; simpa using h0 x hx
  · unfold getV
    have : l.find? (·.1 == p) = none := by
      rw [List.find?_eq_none]
      intro x hx; simpa using h0 x hx
    rw [this]; rfl
theorem getB_mem {l : List Pr} {p : Int} (h : getB l p = true) : ∃ k, ∃ hk : k < l.length, l[k].1 = p := by
  unfold getB at h
  rw [List.any_eq_true] at h
  obtain ⟨x, hx, he⟩ := h
  obtain ⟨k, hk, rfl⟩ := List.mem_iff_getElem.1 hx
  exact ⟨k, hk, by simpa using he⟩
theorem ret_pair {a b : Int} {x y : Bool} (h1 : a = b) (h2 : x = y) : Ending.returned (.tuple #[.int .i64 a, .bool x]) = .returned (.tuple #[.int .i64 b, .bool y]) := by rw [h1, h2]

set_option maxRecDepth 100000 in
set_option maxHeartbeats 4000000 in
theorem rget_any (A : Option Addr) (len c : Nat) (l : List Pr) (hl : l.length = len) (hc : len ≤ c ∧ c ≤ maxLen) (p : Int) (w : World) (hA : PrAt w A l) :
    Calls Try.prog 34 #[.slice A len c, .int .i64 p] w fun e w' => e = .returned (.tuple #[.int .i64 (getV l p), .bool (getB l p)]) ∧ w = w' := by
  have HA := Go.Lib.hid hA
  have HL := Go.Lib.hid hl
  obtain ⟨hc1, hc2⟩ := hc
  unfold maxLen at hc2
  clear hA hl
  go_enter Try.func34, Try.ntmps34
  go_wp2
  go_loop [6] (fun i => ∃ k : Nat, k ≤ len ∧ i = .int .i64 k ∧ Hid (∀ j (h : j < l.length), j < k → l[j].1 ≠ p)) (fun i => len - (intOf i).toNat)
  case atStart => exact ⟨0, Nat.zero_le _, rfl, Go.Lib.hid fun j _ h => by omega⟩
  case round =>
    obtain ⟨k, hk, rfl, HN⟩ := hrel
    by_cases hlt : k < len
    · have hkl : k < l.length := by rw [HL.out]; exact hlt
      rcases HA.out with hA0 | ⟨g, o', rfl, hg, hcl⟩
      · rw [hA0] at hkl; exact absurd hkl (Nat.not_lt_zero _)
      obtain ⟨c0, c1⟩ := hcl k hkl
      have HG := Go.Lib.hid (fun he => get_at (p := p) hkl he HN.out)
      have HS := Go.Lib.hid (fun (he : l[k].1 ≠ p) j (h : j < l.length) (hj : j < k + 1) => if e : j = k then by subst e; exact he else HN.out j h (by omega))
      clear hcl
      generalize l[k] = y at c0 c1 HG HS
      obtain ⟨ya, yb⟩ := y
      dsimp only at c0 c1 HG HS
      by_cases he : ya = p
      · have hb : (ya == p) = true := by simpa using he
        have HE := Go.Lib.hid he
        clear he
        go_wp2
        go_ret2
        exact ⟨ret_pair (HG.out HE.out).2.symm (HG.out HE.out).1.symm, rfl⟩
      · have hb : (ya == p) = false := by simpa using he
        have HE := Go.Lib.hid he
        clear he
        go_wp2
        go_round
        case rel => exact ⟨k + 1, by omega, by go_num, Go.Lib.hid (HS.out HE.out)⟩
        case measure => simp [intOf]; omega
    · obtain rfl : k = len := by omega
      go_wp2
      go_ret2
      have h0 := get_none (l := l) (p := p) fun j h => HN.out j h (by rw [← HL.out]; exact h)
      exact ⟨ret_pair h0.2.symm h0.1.symm, rfl⟩

/-- What the search hands back for a key that the list has, and for another one. -/
theorem search_yes (l : List Pr) (hs : SortP l) (A : Option Addr) (len c : Nat) (hl : l.length = len) (hl2 : len ≤ 1000) (p : Int) (w : World) (hA : PrAt w A l) (hb : getB l p = true) :
    Calls Try.prog 99 #[.slice A len c, .int .i64 p] w fun e w' => (∃ i, ∃ h : i < l.length, l[i].1 = p ∧ e = .returned (.tuple #[.int .i64 (i : Nat), .bool true])) ∧ Below w.heap.size w w' := by
  have cS := fun w' (hA : PrAt w' A l) => psearch_any l hs A c p w' (by rw [hl]; exact hl2) hA
  rw [hl] at cS
  have HB := Go.Lib.hid hb
  have HS := Go.Lib.hid hs
  clear hb hs
  go_enter Try.func99, Try.ntmps99
  go_wp2_with (go_at_call 103; (with_reducible refine (cS _ hA).mono ?_); rintro e w1 ⟨i, PT, hb1, rfl⟩; have P := Go.Lib.hid PT; clear PT)
  go_ret2
  obtain ⟨k, hk, hkp⟩ := getB_mem HB.out
  obtain ⟨h1, h2, h3⟩ := P.out
  have hki : ¬ k < i := fun h => by have := h2 k hk h; omega
  have hil : i < l.length := by omega
  have h4 := h3 i hil (Nat.le_refl _)
  have h5 := HS.out.le i k hil hk (by omega)
  have e1 : l[i].1 = p := by omega
  exact ⟨⟨i, hil, e1, ret_pair rfl (decide_eq_true ⟨by rw [← hl]; exact hil, e1⟩)⟩, hb1⟩
theorem search_no (l : List Pr) (hs : SortP l) (A : Option Addr) (len c : Nat) (hl : l.length = len) (hl2 : len ≤ 1000) (p : Int) (w : World) (hA : PrAt w A l) (hb : getB l p = false) :
    Calls Try.prog 99 #[.slice A len c, .int .i64 p] w fun e w' => (∃ i, PartP l p i ∧ e = .returned (.tuple #[.int .i64 (i : Nat), .bool false])) ∧ Below w.heap.size w w' := by
  have cS := fun w' (hA : PrAt w' A l) => psearch_any l hs A c p w' (by rw [hl]; exact hl2) hA
  rw [hl] at cS
  have HB := Go.Lib.hid hb
  clear hb
  go_enter Try.func99, Try.ntmps99
  go_wp2_with (go_at_call 103; (with_reducible refine (cS _ hA).mono ?_); rintro e w1 ⟨i, PT, hb1, rfl⟩; have P := Go.Lib.hid PT; clear PT)
  go_ret2
  refine ⟨⟨i, P.out, ret_pair rfl (decide_eq_false fun ⟨h, he⟩ => ?_)⟩, hb1⟩
  have := HB.out
  unfold getB at this
  rw [List.any_eq_false] at this
  exact this (l[i]'(by rw [hl]; exact h)) (List.getElem_mem _) (by simpa using he)
theorem getV_at {l : List Pr} (hs : SortP l) {p : Int} {i : Nat} (h : i < l.length) (he : l[i].1 = p) : getV l p = l[i].2 :=
  (get_at h he fun j hj hji hjp => by have := hs j i hj h hji; omega).2

set_option maxRecDepth 100000 in
set_option maxHeartbeats 4000000 in
theorem get_any (l : List Pr) (hs : SortP l) (A : Option Addr) (len c : Nat) (hl : l.length = len) (hl2 : len ≤ 1000) (hc : len ≤ c ∧ c ≤ maxLen) (p : Int) (w : World) (hA : PrAt w A l) :
    Calls Try.prog 90 #[.slice A len c, .int .i64 p] w fun e w' => e = .returned (.tuple #[.int .i64 (getV l p), .bool (getB l p)]) ∧ Below w.heap.size w w' := by
  have HL := Go.Lib.hid hl
  obtain ⟨hc1, hc2⟩ := hc
  unfold maxLen at hc2
  cases hb : getB l p with
  | true =>
    have cS := fun w' (hA : PrAt w' A l) => search_yes l hs A len c hl hl2 p w' hA hb
    have HB := Go.Lib.hid hb
    clear hb hl
    go_enter Try.func90, Try.ntmps90
    go_wp2_with fail
    refine (cS _ hA).mono ?_
    rintro e w1 ⟨⟨i, hi, he, rfl⟩, hb1⟩
    have hil : i < len := by rw [← HL.out]; exact hi
    rcases hA with hA0 | ⟨g, o', rfl, hg, hcl⟩
    · rw [hA0] at hi; exact absurd hi (Nat.not_lt_zero _)
    have c1 := (hb1.cell (p := ⟨g, o' + i * 2 + 1, none⟩) hg).trans (hcl i hi).2
    have HV := Go.Lib.hid (getV_at hs hi he)
    clear hcl cS he
    generalize l[i] = y at c1 HV
    obtain ⟨ya, yb⟩ := y
    dsimp only at c1 HV
    go_wp2
    go_ret2
    exact ⟨ret_pair HV.out.symm rfl, hb1⟩
  | false =>
    have cS := fun w' (hA : PrAt w' A l) => search_no l hs A len c hl hl2 p w' hA hb
    have HV := Go.Lib.hid (get_none (l := l) (p := p) fun j h he => by
      unfold getB at hb
      rw [List.any_eq_false] at hb
      exact hb l[j] (List.getElem_mem h) (by simpa using he)).2
    clear hb hl
    go_enter Try.func90, Try.ntmps90
    go_wp2_with (go_at_call 99; (with_reducible refine (cS _ hA).mono ?_); rintro e w1 ⟨⟨i, PT, rfl⟩, hb1⟩; clear PT)
    go_ret2
    exact ⟨ret_pair HV.out.symm rfl, hb1⟩
end Go.Proofs.Ytbkpokipibgdfaa

/- Layer 7: equality of lists, the reference's and the program's. -/
namespace Go.Proofs.Ytbkpokipibgdfaa
open Go.RowKit Go.Lib

set_option maxRecDepth 100000 in
set_option maxHeartbeats 8000000 in
theorem slequal_any (A B : Option Addr) (n m c d : Nat) (l l' : List Pr) (hl : l.length = n) (hl' : l'.length = m) (hc : n ≤ c ∧ c ≤ maxLen) (hd : m ≤ d ∧ d ≤ maxLen) (w : World) (hA : PrAt w A l) (hB : PrAt w B l') :
    Calls Try.prog 83 #[.slice A n c, .slice B m d] w fun e w' => e = .returned (.bool (decide (l = l'))) ∧ Below w.heap.size w w' := by
  have HL := Go.Lib.hid hl
  have HL' := Go.Lib.hid hl'
  obtain ⟨hc1, hc2⟩ := hc
  obtain ⟨hd1, hd2⟩ := hd
  unfold maxLen at hc2 hd2
  have HA := Go.Lib.hid hA
  have HB := Go.Lib.hid hB
  clear hl hl' hA hB
  by_cases hnm : n = m
  · subst hnm
    go_enter Try.func83, Try.ntmps83
    go_wp2
    go_loopw [13] (fun i wr => ∃ k : Nat, k ≤ n ∧ i = .int .i64 k ∧ Hid (Below w.heap.size w wr) ∧ Hid (∀ j (h : j < l.length) (h' : j < l'.length), j < k → l[j] = l'[j])) (fun i _ => n - (intOf i).toNat)
    case atStart => exact ⟨0, Nat.zero_le _, rfl, Go.Lib.hid (Below.refl _ _), Go.Lib.hid fun j _ _ h => by omega⟩
    case round =>
      obtain ⟨k, hk, rfl, HW, HN⟩ := hrel
      by_cases hlt : k < n
      · have hkl : k < l.length := by rw [HL.out]; exact hlt
        have hkl' : k < l'.length := by rw [HL'.out]; exact hlt
        rcases HA.out with hA0 | ⟨g, o, rfl, hg, hcl⟩
        · rw [hA0] at hkl; exact absurd hkl (Nat.not_lt_zero _)
        rcases HB.out with hB0 | ⟨g', o', rfl, hg', hcl'⟩
        · rw [hB0] at hkl'; exact absurd hkl' (Nat.not_lt_zero _)
        obtain ⟨a0, a1⟩ := hcl k hkl
        obtain ⟨b0, b1⟩ := hcl' k hkl'
        have c0 := (HW.out.cell (p := ⟨g, o + k * 2, none⟩) hg).trans a0
        have c1 := (HW.out.cell (p := ⟨g, o + k * 2 + 1, none⟩) hg).trans a1
        have d0 := (HW.out.cell (p := ⟨g', o' + k * 2, none⟩) hg').trans b0
        have d1 := (HW.out.cell (p := ⟨g', o' + k * 2 + 1, none⟩) hg').trans b1
        have HS := Go.Lib.hid (fun (he : l[k] = l'[k]) j (h : j < l.length) (h' : j < l'.length) (hj : j < k + 1) => if e : j = k then by subst e; exact he else HN.out j h h' (by omega))
        have HD := Go.Lib.hid (fun (he : l[k] ≠ l'[k]) => show decide (l = l') = false from decide_eq_false fun h => he (by subst h; rfl))
        clear hcl hcl' a0 a1 b0 b1
        generalize l[k] = x at c0 c1 HS HD
        generalize l'[k] = y at d0 d1 HS HD
        obtain ⟨xa, xb⟩ := x
        obtain ⟨ya, yb⟩ := y
        dsimp only at c0 c1 d0 d1
        by_cases h1 : xa = ya
        · by_cases h2 : xb = yb
          · have e1 : (xa == ya) = true := by simpa using h1
            have e2 : (xb == yb) = true := by simpa using h2
            have HE := Go.Lib.hid (show (xa, xb) = (ya, yb) by rw [h1, h2])
            clear h1 h2
            go_wp2
            go_quiet (fail)
            go_wp2
            go_roundw
            case rel => exact ⟨k + 1, by omega, by go_num, Go.Lib.hid (bdrew HW.out _), Go.Lib.hid (HS.out HE.out)⟩
            case measure => simp [intOf]; omega
          · have e1 : (xa == ya) = true := by simpa using h1
            have e2 : (xb == yb) = false := by simpa using h2
            have HE := Go.Lib.hid (show (xa, xb) ≠ (ya, yb) from fun h => h2 (congrArg Prod.snd h))
            clear h1 h2
            go_wp2
            go_quiet (fail)
            go_wp2
            go_ret
            exact ⟨ret_bool' (HD.out HE.out).symm, bdrew HW.out _⟩
        · have e1 : (xa == ya) = false := by simpa using h1
          have HE := Go.Lib.hid (show (xa, xb) ≠ (ya, yb) from fun h => h1 (congrArg Prod.fst h))
          clear h1
          go_wp2
          go_quiet (fail)
          go_wp2
          go_ret
          exact ⟨ret_bool' (HD.out HE.out).symm, bdrew HW.out _⟩
      · obtain rfl : k = n := by omega
        go_wp2
        go_ret
        exact ⟨ret_bool' (decide_eq_true (List.ext_getElem (HL.out.trans HL'.out.symm) fun j h h' => HN.out j h h' (by rw [← HL.out]; exact h))).symm, HW.out⟩
  · have HF := Go.Lib.hid (show decide (l = l') = false from decide_eq_false fun h => hnm (by rw [← HL.out, ← HL'.out, h]))
    have e1 : decide ((n : Int) = (m : Int)) = false := decide_eq_false (by omega)
    have e2 : ((n : Int) == (m : Int)) = false := by rw [beq_eq_false_iff_ne]; omega
    have e3 : ((n : Int) != (m : Int)) = true := by rw [bne_iff_ne]; omega
    clear hnm
    go_enter Try.func83, Try.ntmps83
    go_wp2
    go_ret
    exact ⟨ret_bool' HF.out.symm, Below.refl _ _⟩
set_option maxRecDepth 100000 in
set_option maxHeartbeats 4000000 in
theorem equal_any (A B : Option Addr) (n m c d : Nat) (l l' : List Pr) (hl : l.length = n) (hl' : l'.length = m) (hc : n ≤ c ∧ c ≤ maxLen) (hd : m ≤ d ∧ d ≤ maxLen) (w : World) (hA : PrAt w A l) (hB : PrAt w B l') :
    Calls Try.prog 65 #[.slice A n c, .slice B m d] w fun e w' => e = .returned (.bool (decide (l = l'))) ∧ Below w.heap.size w w' := by
  have cS := slequal_any A B n m c d l l' hl hl' hc hd w hA hB
  clear hl hl' hA hB
  generalize decide (l = l') = b at cS ⊢
  go_enter Try.func65, Try.ntmps65
  go_wp2_with (go_at_call 83; (with_reducible refine cS.mono ?_); rintro e w1 ⟨rfl, hb1⟩)
  go_ret
  exact ⟨rfl, hb1⟩
end Go.Proofs.Ytbkpokipibgdfaa

/- Layer 7: Clone. -/
namespace Go.Proofs.Ytbkpokipibgdfaa
open Go.RowKit Go.Lib

theorem rowP_len (l : List Pr) : (rowP l).length = l.length * 2 := by
  unfold rowP
  induction l with
  | nil => rfl
  | cons x l ih => rw [List.flatMap_cons, List.length_append, ih, List.length_cons]; simp; omega
theorem rowP_one (l : List Pr) : ∀ u ∈ rowP l, u.oneCell' = true := by
  intro u hu
  unfold rowP at hu
  rw [List.mem_flatMap] at hu
  obtain ⟨x, _, hu⟩ := hu
  simp only [List.mem_cons, List.not_mem_nil, or_false] at hu
  rcases hu with rfl | rfl <;> rfl
theorem prat_row {w : World} {g o : Nat} {l : List Pr} (h : PrAt w (some ⟨g, o, none⟩) l) : ∀ j u, (rowP l)[j]? = some u → w.cell? ⟨g, o + j, none⟩ = some u := by
  intro j u hj
  rcases h with h | ⟨g', o', hg, _, hc⟩
  · subst h; simp [rowP] at hj
  · injection hg with hg; injection hg with h1 h2 _
    subst h1 h2
    have hlt : j < l.length * 2 := by rw [← rowP_len]; exact (List.getElem?_eq_some_iff.1 hj).1
    obtain ⟨e0, e1⟩ := rowP_get l (j / 2) (by omega)
    obtain ⟨c0, c1⟩ := hc (j / 2) (by omega)
    rcases Nat.mod_two_eq_zero_or_one j with h | h
    · have : j / 2 * 2 = j := by omega
      rw [this] at e0 c0
      rw [c0]; exact e0.symm.trans hj
    · have : j / 2 * 2 + 1 = j := by omega
      rw [this] at e1
      rw [Nat.add_assoc, this] at c1
      rw [c1]; exact e1.symm.trans hj
/-- A list in memory of the call's own. -/
def OwnRet (l : List Pr) (n : Nat) (w : World) (e : Ending) (w' : World) : Prop := ∃ B cb, e = .returned (.slice B n cb) ∧ w'.ownsRow w.heap.size 55 2 (.slice B n cb) n (rowP l) ∧ Below w.heap.size w w'
theorem own_form {w : World} {base n size : Nat} {t : TypeId} {v : Value} {xs : List Value} (h : w.ownsRow base t size v n xs) : ∃ B cb, v = .slice B n cb := by
  rcases h.2 with ⟨hv, h0⟩ | ⟨g, cap, cur, hv, _⟩
  · exact ⟨none, 0, by rw [hv, h0]⟩
  · exact ⟨_, _, hv⟩
set_option maxRecDepth 100000 in
set_option maxHeartbeats 4000000 in
theorem slclone_any (A : Option Addr) (len c : Nat) (l : List Pr) (hl : l.length = len) (hc : len ≤ c ∧ c ≤ maxLen) (hs : len ≤ 1000) (w : World) (hA : PrAt w A l) :
    Calls Try.prog 92 #[.slice A len c] w (OwnRet l len w) := by
  obtain ⟨i0, hi, hz0, hz1, hz2⟩ := info_parts info57
  have q43 : ∀ (w : World) (a : Option Addr) (n c n' c' : Nat), (binOp .eql 26 (.slice a n c) (.slice none n' c')).run Try.prog w = .ok (.bool a.isNone) w := fun w a n c n' c' => Lib.run_eql_slice_nil w _ _ a n c n' c' Try.underlying26
  cases A with
  | none =>
    have hl0 : l = [] := by
      rcases hA with h | ⟨g, o, h, _⟩
      · exact h
      · cases h
    subst hl0
    subst hl
    go_enter Try.func92, Try.ntmps92
    go_wp2
    go_ret
    exact ⟨none, 0, rfl, World.ownsRow_nil _ _ _ _, Below.refl _ _⟩
  | some a =>
    by_cases h0 : len = 0
    · subst h0
      have hl0 : l = [] := List.eq_nil_of_length_eq_zero hl
      subst hl0
      clear hA
      go_enter Try.func92, Try.ntmps92
      go_wp2_with (at_builtin; refine wpList_append_own _ rfl _ _ 26 rfl w.heap.size 55 i0 (.agg #[.int .i64 0, .int .i64 0]) 2 16 Try.underlying26 hi hz0 hz1 hz2 rfl (by decide) _ _ _ rfl (World.ownsRow_made w #[] 0 (Nat.le_refl _) (Nat.zero_le _) (by simp)) a 0 c [] rfl rfl (by intro j u hj; simp at hj) (by intro u hu; simp at hu) (by decide) (by decide) (by simp) ?_)
      intro v' w1 hown hgrow hnil
      obtain ⟨B, cb, rfl⟩ := own_form hown
      clear hnil
      go_wp2
      go_ret
      exact ⟨B, cb, rfl, hown, ((Below.refl _ w).alloc (Nat.le_refl _) _).grown hgrow (by simp) (by intro k hk; simp [Value.ownBlock] at hk; omega)⟩
    · obtain ⟨b, off, hab, hb⟩ : ∃ b off, a = ⟨b, off, none⟩ ∧ b < w.heap.size := by
        rcases hA with h | ⟨g, o, h, hg, _⟩
        · subst h; exact absurd hl.symm h0
        · exact ⟨g, o, Option.some.inj h, hg⟩
      subst hab
      have hrow := prat_row hA
      have hcell := Go.Lib.hid hrow
      have hln := Go.Lib.hid ((rowP_len l).trans (by rw [hl]))
      clear hrow hA hl h0
      go_enter Try.func92, Try.ntmps92
      go_wp2_with (at_builtin; refine wpList_append_own _ rfl _ _ 26 rfl w.heap.size 55 i0 (.agg #[.int .i64 0, .int .i64 0]) 2 16 Try.underlying26 hi hz0 hz1 hz2 rfl (by decide) _ _ _ rfl (World.ownsRow_made w #[] 0 (Nat.le_refl _) (Nat.zero_le _) (by simp)) ⟨b, off, none⟩ len c (rowP l) rfl ?qc1 ?qc2 ?qc3 ?qc4 ?qc5 ?qc6 ?_)
      case qc1 => exact hln.out
      case qc2 =>
        intro j u hj
        rw [Addr.add_lit]
        exact Lib.cell?_alloc_some _ (hcell.out j u hj)
      case qc3 => exact rowP_one l
      case qc4 => rw [Nat.zero_add]; unfold maxLen; omega
      case qc5 => rw [Nat.zero_add]; omega
      case qc6 => simp
      intro v' w1 hown hgrow hnil
      have hown' : w1.ownsRow w.heap.size 55 2 v' len (rowP l) := by simpa using hown
      obtain ⟨B, cb, rfl⟩ := own_form hown'
      clear hown hnil
      go_wp2
      go_ret
      exact ⟨B, cb, rfl, hown', ((Below.refl _ w).alloc (Nat.le_refl _) _).grown hgrow (by simp) (by intro k hk; simp [Value.ownBlock] at hk; omega)⟩
set_option maxRecDepth 100000 in
theorem clone_any (A : Option Addr) (len c : Nat) (l : List Pr) (hl : l.length = len) (hc : len ≤ c ∧ c ≤ maxLen) (hs : len ≤ 1000) (w : World) (hA : PrAt w A l) :
    Calls Try.prog 75 #[.slice A len c] w (OwnRet l len w) := by
  have cS := slclone_any A len c l hl hc hs w hA
  clear hl hA
  go_enter Try.func75, Try.ntmps75
  go_wp2_with (go_at_call 92; (with_reducible refine cS.mono ?_); rintro e w1 ⟨B, cb, rfl, hown, hb1⟩)
  go_ret
  exact ⟨B, cb, rfl, hown, hb1⟩
end Go.Proofs.Ytbkpokipibgdfaa

/- Layer 7: Check, the program's and the reference's. -/
namespace Go.Proofs.Ytbkpokipibgdfaa
open Go.RowKit Go.Lib

def rowOf (p : Int) : Option Row := tabP.find? (fun r => r.1 == p)
def fitsB (x p : Int) : Bool := match rowOf p with
  | some r => hasG x r.2.2.1
  | none => false
def valOf (p v : Int) : Int := match rowOf p with
  | some r => valE r v
  | none => 4
theorem rowOf_mem {r : Row} (h : r ∈ tabP) : rowOf r.1 = some r := by
  unfold rowOf
  cases hf : tabP.find? (fun r' => r'.1 == r.1) with
  | none =>
    rw [List.find?_eq_none] at hf
    exact absurd (by simp) (hf r h)
  | some r' =>
    have h1 := List.find?_some hf
    have h2 := List.mem_of_find?_eq_some hf
    rw [tab_uniq h2 h (by simpa using h1)]
theorem rowOf_none {p : Int} (h : ¬ ∃ r ∈ tabP, r.1 = p) : rowOf p = none := by
  unfold rowOf
  rw [List.find?_eq_none]
  intro r hr he
  exact h ⟨r, hr, by simpa using he⟩
theorem fits_anyB (x p : Int) (w : World) : Calls Try.prog 71 #[.int .i64 x, .int .i64 p] w fun e w' => e = .returned (.bool (fitsB x p)) ∧ Below w.heap.size w w' := by
  by_cases hx : ∃ r ∈ tabP, r.1 = p
  · obtain ⟨⟨ra, rb, rc, rd, re, rf⟩, hm, rfl⟩ := hx
    have e : fitsB x (ra, rb, rc, rd, re, rf).1 = hasG x rc := by unfold fitsB; rw [rowOf_mem hm]
    rw [e]; exact fits_row ra rb rc rd re rf hm x w
  · have e : fitsB x p = false := by unfold fitsB; rw [rowOf_none hx]
    rw [e]; exact fits_no x p hx w
theorem rfits_anyB (x p : Int) (w : World) : Calls Try.prog 79 #[.int .i64 x, .int .i64 p] w fun e w' => e = .returned (.bool (fitsB x p)) ∧ Below w.heap.size w w' := by
  by_cases hx : ∃ r ∈ tabP, r.1 = p
  · obtain ⟨⟨ra, rb, rc, rd, re, rf⟩, hm, rfl⟩ := hx
    have e : fitsB x (ra, rb, rc, rd, re, rf).1 = hasG x rc := by unfold fitsB; rw [rowOf_mem hm]
    rw [e]; exact rfits_row x ra rb rc rd re rf hm w
  · have e : fitsB x p = false := by unfold fitsB; rw [rowOf_none hx]
    rw [e]; exact rfits_no x p hx w
theorem checkv_anyB (p v : Int) (w : World) : Calls Try.prog 72 #[.int .i64 p, .int .i64 v] w fun e w' => e = .returned (.int .i64 (valOf p v)) ∧ Below w.heap.size w w' := by
  by_cases hx : ∃ r ∈ tabP, r.1 = p
  · obtain ⟨⟨ra, rb, rc, rd, re, rf⟩, hm, rfl⟩ := hx
    have e : valOf (ra, rb, rc, rd, re, rf).1 v = valE (ra, rb, rc, rd, re, rf) v := by unfold valOf; rw [rowOf_mem hm]
    rw [e]; exact checkv_row ra rb rc rd re rf hm v w
  · have e : valOf p v = 4 := by unfold valOf; rw [rowOf_none hx]
    rw [e]; exact checkv_no p v hx w
/-- The lows and highs of a key's row, zero where there is none. -/
def rowZ (p : Int) : Row := (rowOf p).getD (0, ⟨#[]⟩, 0, 0, 0, 0)
theorem of_anyB (p : Int) (w : World) : Calls Try.prog 35 #[.int .i64 p] w fun e w' => (∃ b, e = .returned (.tuple #[.agg #[.int .i64 (rowZ p).1, .int .i64 (rowZ p).2.2.1, .int .i64 (rowZ p).2.2.2.1, .int .i64 (rowZ p).2.2.2.2.1, .int .i64 (rowZ p).2.2.2.2.2, .string (rowZ p).2.1], .bool b])) ∧ Below w.heap.size w w' := by
  by_cases hx : ∃ r ∈ tabP, r.1 = p
  · obtain ⟨⟨ra, rb, rc, rd, re, rf⟩, hm, rfl⟩ := hx
    have e : rowZ (ra, rb, rc, rd, re, rf).1 = (ra, rb, rc, rd, re, rf) := by unfold rowZ; rw [rowOf_mem hm]; rfl
    rw [e]; exact (of_row ra rb rc rd re rf hm w).mono fun _ _ ⟨h1, h2⟩ => ⟨⟨true, h1⟩, h2⟩
  · have e : rowZ p = (0, ⟨#[]⟩, 0, 0, 0, 0) := by unfold rowZ; rw [rowOf_none hx]; rfl
    rw [e]; exact (of_no p hx w).mono fun _ _ ⟨h1, h2⟩ => ⟨⟨false, h1⟩, h2⟩
theorem valOf_row {x p v : Int} (h : fitsB x p = true) : valOf p v = if v < (rowZ p).2.2.2.1 ∨ (rowZ p).2.2.2.2.1 < v then 5 else 0 := by
  unfold fitsB at h
  cases hr : rowOf p with
  | none => rw [hr] at h; cases h
  | some r => unfold valOf rowZ; rw [hr]; rfl
/-- The error of one property of a list. -/
def errK (x : Int) (l : List Pr) (k : Nat) : Int :=
  if fitsB x (l.getD k (0, 0)).1 = false then 4
  else if 0 < k ∧ (l.getD k (0, 0)).1 = (l.getD (k - 1) (0, 0)).1 then 7
  else if 0 < k ∧ (l.getD k (0, 0)).1 < (l.getD (k - 1) (0, 0)).1 then 6
  else valOf (l.getD k (0, 0)).1 (l.getD k (0, 0)).2
/-- The first error of a list. -/
def chkP (x : Int) (l : List Pr) : Int := if x < 1 ∨ 10 < x then 3 else (((List.range l.length).map (errK x l)).find? (fun e => e != 0)).getD 0
theorem chk_find (f : Nat → Int) (n k : Nat) (hk : k < n) (h0 : ∀ j, j < k → f j = 0) (h1 : f k ≠ 0) : (((List.range n).map f).find? (fun e => e != 0)).getD 0 = f k := by
  have : ((List.range n).map f).find? (fun e => e != 0) = some (f k) := by
    rw [List.find?_eq_some_iff_getElem]
    refine ⟨by simpa using h1, k, by simpa using hk, by simp, fun j hj => ?_⟩
    have hj2 : j < n := by omega
    simp [h0 j hj]
  rw [this]; rfl
theorem chk_none (f : Nat → Int) (n : Nat) (h0 : ∀ j, j < n → f j = 0) : (((List.range n).map f).find? (fun e => e != 0)).getD 0 = 0 := by
  have : ((List.range n).map f).find? (fun e => e != 0) = none := by
    rw [List.find?_eq_none]
    intro e he
    obtain ⟨j, hj, rfl⟩ := List.mem_map.1 he
    simp [h0 j (List.mem_range.1 hj)]
  rw [this]; rfl
theorem chk_at {x : Int} {l : List Pr} {k : Nat} (hx : 1 ≤ x ∧ x ≤ 10) (hk : k < l.length) (h0 : ∀ j, j < k → errK x l j = 0) (c : Int) (he : errK x l k = c) (hc : c ≠ 0) : chkP x l = c := by
  unfold chkP
  rw [if_neg (by omega), chk_find (errK x l) l.length k hk h0 (by rw [he]; exact hc), he]
theorem chk_end {x : Int} {l : List Pr} (hx : 1 ≤ x ∧ x ≤ 10) (h0 : ∀ j, j < l.length → errK x l j = 0) : chkP x l = 0 := by
  unfold chkP
  rw [if_neg (by omega), chk_none (errK x l) l.length h0]
theorem chk_bad {x : Int} {l : List Pr} (hx : ¬ (1 ≤ x ∧ x ≤ 10)) : chkP x l = 3 := by
  unfold chkP
  rw [if_pos (by omega)]
theorem errK_4 {x : Int} {l : List Pr} {k : Nat} {y : Pr} (hy : l.getD k (0, 0) = y) (h : fitsB x y.1 = false) : errK x l k = 4 := by unfold errK; rw [hy, if_pos h]
theorem errK_7 {x : Int} {l : List Pr} {k : Nat} {y z : Pr} (hy : l.getD (k + 1) (0, 0) = y) (hz : l.getD k (0, 0) = z) (h : fitsB x y.1 = true) (he : y.1 = z.1) : errK x l (k + 1) = 7 := by
  unfold errK; rw [hy, Nat.add_sub_cancel, hz, if_neg (by rw [h]; decide), if_pos ⟨by omega, he⟩]
theorem errK_6 {x : Int} {l : List Pr} {k : Nat} {y z : Pr} (hy : l.getD (k + 1) (0, 0) = y) (hz : l.getD k (0, 0) = z) (h : fitsB x y.1 = true) (he : y.1 < z.1) : errK x l (k + 1) = 6 := by
  unfold errK; rw [hy, Nat.add_sub_cancel, hz, if_neg (by rw [h]; decide), if_neg (by omega), if_pos ⟨by omega, he⟩]
theorem errK_v {x : Int} {l : List Pr} {k : Nat} {y z : Pr} (hy : l.getD (k + 1) (0, 0) = y) (hz : l.getD k (0, 0) = z) (h : fitsB x y.1 = true) (he : z.1 < y.1) : errK x l (k + 1) = valOf y.1 y.2 := by
  unfold errK; rw [hy, Nat.add_sub_cancel, hz, if_neg (by rw [h]; decide), if_neg (by omega), if_neg (by omega)]
theorem errK_0 {x : Int} {l : List Pr} {y : Pr} (hy : l.getD 0 (0, 0) = y) (h : fitsB x y.1 = true) : errK x l 0 = valOf y.1 y.2 := by
  unfold errK; rw [hy, if_neg (by rw [h]; decide), if_neg (by omega), if_neg (by omega)]
end Go.Proofs.Ytbkpokipibgdfaa

/- Layer 7: Check, walked. -/
namespace Go.Proofs.Ytbkpokipibgdfaa
open Go.RowKit Go.Lib

theorem ret_int' {a b : Int} (h : a = b) : Ending.returned (.int .i64 a) = .returned (.int .i64 b) := by rw [h]
set_option maxRecDepth 100000 in
set_option maxHeartbeats 16000000 in
theorem check_in (x : Int) (A : Option Addr) (len c : Nat) (l : List Pr) (hl : l.length = len) (hc : len ≤ c ∧ c ≤ maxLen) (hx : 1 ≤ x ∧ x ≤ 10) (w : World) (hA : PrAt w A l) :
    Calls Try.prog 53 #[.int .i64 x, .slice A len c] w fun e w' => e = .returned (.int .i64 (chkP x l)) ∧ Below w.heap.size w w' := by
  have HA := Go.Lib.hid hA
  have HL := Go.Lib.hid hl
  have HX := Go.Lib.hid hx
  obtain ⟨hc1, hc2⟩ := hc
  unfold maxLen at hc2
  have cE := fun w' => elem_any x w'
  rw [decide_eq_true hx.1, decide_eq_true hx.2] at cE
  clear hA hl hx
  go_enter Try.func53, Try.ntmps53
  go_wp2_with (go_at_call 70; (with_reducible refine (cE _).mono ?_); rintro e w1 ⟨rfl, rfl⟩)
  go_loopw [13] (fun i wr => ∃ k : Nat, k ≤ len ∧ i = .int .i64 k ∧ Hid (Below w.heap.size w wr) ∧ Hid (∀ j, j < k → errK x l j = 0)) (fun i _ => len - (intOf i).toNat)
  case atStart => exact ⟨0, Nat.zero_le _, rfl, Go.Lib.hid (Below.refl _ _), Go.Lib.hid (fun j h => by omega)⟩
  case round =>
    obtain ⟨k, hk, rfl, HB, HN⟩ := hrel
    by_cases hlt : k < len
    · have hkl : k < l.length := by rw [HL.out]; exact hlt
      rcases HA.out with hA0 | ⟨g, o', rfl, hg, hcl⟩
      · rw [hA0] at hkl; exact absurd hkl (Nat.not_lt_zero _)
      obtain ⟨h0, h1⟩ := hcl k hkl
      have c0 := (HB.out.cell (p := ⟨g, o' + k * 2, none⟩) hg).trans h0
      have c1 := (HB.out.cell (p := ⟨g, o' + k * 2 + 1, none⟩) hg).trans h1
      have hgr := Nat.lt_of_lt_of_le hg HB.out.size
      have hgy : l.getD k (0, 0) = l[k] := by rw [List.getD_eq_getElem?_getD, List.getElem?_eq_getElem hkl]; rfl
      clear h0 h1
      generalize l[k] = y at c0 c1 hgy
      have HY := Go.Lib.hid hgy
      clear hgy
      obtain ⟨ya, yb⟩ := y
      dsimp only at c0 c1
      have cF := fun w' => fits_anyB x ya w'
      cases hf : fitsB x ya with
      | false =>
        rw [hf] at cF
        have HE := Go.Lib.hid (errK_4 HY.out hf)
        clear hf hcl
        go_wp2_with (go_at_call 71; (with_reducible refine (cF _).mono ?_); rintro e w2 ⟨rfl, hb2⟩; have B2 := ((Below.refl _ wr).alloc (Nat.le_refl _) (.cells #[.int .i64 ya, .int .i64 yb] 55)).trans (hb2.mono (by rw [World.size_alloc]; omega)); have ob := (ObjAt.new wr #[.int .i64 ya, .int .i64 yb] 55).below hb2; have s0 := ob.a0; have s1 := ob.a1; clear ob)
        go_ret
        exact ⟨ret_int' (chk_at HX.out hkl HN.out _ HE.out (by decide)).symm, HB.out.trans (B2.mono HB.out.size)⟩
      | true =>
        rw [hf] at cF
        cases k with
        | zero =>
          have HE := Go.Lib.hid (errK_0 HY.out hf)
          dsimp only at HE
          simp only [Nat.zero_mul, Nat.add_zero] at c0 c1
          clear hf hcl
          go_wp2_with (go_at_call 71; (with_reducible refine (cF _).mono ?_); rintro e w2 ⟨rfl, hb2⟩; have B2 := ((Below.refl _ wr).alloc (Nat.le_refl _) (.cells #[.int .i64 ya, .int .i64 yb] 55)).trans (hb2.mono (by rw [World.size_alloc]; omega)); have ob := (ObjAt.new wr #[.int .i64 ya, .int .i64 yb] 55).below hb2; have s0 := ob.a0; have s1 := ob.a1; clear ob hb2)
          go_quiet (fail)
          have s0q : (w2.drewN nq).cell? ⟨wr.heap.size, 0, none⟩ = some (.int .i64 ya) := s0
          have s1q : (w2.drewN nq).cell? ⟨wr.heap.size, 1, none⟩ = some (.int .i64 yb) := s1
          have B2q : Below wr.heap.size wr (w2.drewN nq) := bdrew B2 nq
          clear s0 s1 B2
          generalize w2.drewN nq = w3 at s0q s1q B2q ⊢
          have s0 := s0q
          have s1 := s1q
          have B2 := B2q
          clear s0q s1q B2q
          go_wp2_with fail
          go_quiet (fail)
          have s0q : (w3.drewN nq).cell? ⟨wr.heap.size, 0, none⟩ = some (.int .i64 ya) := s0
          have s1q : (w3.drewN nq).cell? ⟨wr.heap.size, 1, none⟩ = some (.int .i64 yb) := s1
          have B2q : Below wr.heap.size wr (w3.drewN nq) := bdrew B2 nq
          clear s0 s1 B2
          generalize w3.drewN nq = w3b at s0q s1q B2q ⊢
          have s0 := s0q
          have s1 := s1q
          have B2 := B2q
          clear s0q s1q B2q
          go_wp2_with fail
          by_cases hv : valOf ya yb = 0
          · have hvb : (valOf ya yb != 0) = false := by rw [hv]; rfl
            have HV := Go.Lib.hid hv
            have cV := fun w' => checkv_anyB ya yb w'
            rw [hv] at cV
            clear hv hvb
            go_wp2_with (go_at_call 72; (with_reducible refine (cV _).mono ?_); rintro e w4 ⟨rfl, hb4⟩)
            go_roundw
            case rel => exact ⟨0 + 1, by omega, by go_num, Go.Lib.hid (HB.out.trans ((B2.trans (hb4.mono B2.size)).mono HB.out.size)), Go.Lib.hid fun i hi => if e : i = 0 then by subst e; exact HE.out.trans HV.out else HN.out i (by omega)⟩
            case measure => simp [intOf]; omega
          · have cV := fun w' => checkv_anyB ya yb w'
            have hvb : (valOf ya yb != 0) = true := by simpa using hv
            have HV := Go.Lib.hid hv
            generalize valOf ya yb = ve at cV hvb HE HV
            clear hv
            go_wp2_with (go_at_call 72; (with_reducible refine (cV _).mono ?_); rintro e w4 ⟨rfl, hb4⟩)
            go_ret
            exact ⟨ret_int' (chk_at HX.out hkl HN.out _ HE.out HV.out).symm, HB.out.trans ((B2.trans (hb4.mono B2.size)).mono HB.out.size)⟩
        | succ j =>
          have hjl : j < l.length := by omega
          obtain ⟨h0, _⟩ := hcl j hjl
          have dd := (HB.out.cell (p := ⟨g, o' + j * 2, none⟩) hg).trans h0
          have hgz : l.getD j (0, 0) = l[j] := by rw [List.getD_eq_getElem?_getD, List.getElem?_eq_getElem hjl]; rfl
          clear h0 hcl
          generalize l[j] = z at dd hgz
          have HZ := Go.Lib.hid hgz
          clear hgz
          obtain ⟨za, zb⟩ := z
          dsimp only at dd
          have HF := Go.Lib.hid hf
          clear hf
          go_wp2_with (go_at_call 71; (with_reducible refine (cF _).mono ?_); rintro e w2 ⟨rfl, hb2⟩; have B2 := ((Below.refl _ wr).alloc (Nat.le_refl _) (.cells #[.int .i64 ya, .int .i64 yb] 55)).trans (hb2.mono (by rw [World.size_alloc]; omega)); have ob := (ObjAt.new wr #[.int .i64 ya, .int .i64 yb] 55).below hb2; have s0 := ob.a0; have s1 := ob.a1; have d0 := (B2.cell (p := ⟨g, o' + j * 2, none⟩) hgr).trans dd; clear ob hb2 dd)
          by_cases he : ya = za
          · have HE := Go.Lib.hid (errK_7 HY.out HZ.out HF.out he)
            have e1 : (ya == za) = true := by simpa using he
            clear he
            have q1 : (0 : Int) ≤ (j : Int) := by omega
            have q2 : (j : Int) < (len : Int) := by omega
            have q2' : (0 : Int) < (j : Int) + 1 := by omega
            have q4 : IntKind.i64.wrap (j : Int) = j := IntWalk.i64_in _ (by omega)
            go_quiet (fail)
            clear q1 q2 q2' q4
            have s0q : (w2.drewN nq).cell? ⟨wr.heap.size, 0, none⟩ = some (.int .i64 ya) := s0
            have s1q : (w2.drewN nq).cell? ⟨wr.heap.size, 1, none⟩ = some (.int .i64 yb) := s1
            have d0q : (w2.drewN nq).cell? ⟨g, o' + j * 2, none⟩ = some (.int .i64 za) := d0
            have B2q : Below wr.heap.size wr (w2.drewN nq) := bdrew B2 nq
            clear s0 s1 d0 B2
            generalize w2.drewN nq = w3 at s0q s1q d0q B2q ⊢
            have s0 := s0q
            have s1 := s1q
            have d0 := d0q
            have B2 := B2q
            clear s0q s1q d0q B2q
            go_wp2
            go_ret
            exact ⟨ret_int' (chk_at HX.out hkl HN.out _ HE.out (by decide)).symm, HB.out.trans (B2.mono HB.out.size)⟩
          · have e1 : (ya == za) = false := by simpa using he
            by_cases he2 : ya < za
            · have HE := Go.Lib.hid (errK_6 HY.out HZ.out HF.out he2)
              clear he
              have q1 : (0 : Int) ≤ (j : Int) := by omega
              have q2 : (j : Int) < (len : Int) := by omega
              have q2' : (0 : Int) < (j : Int) + 1 := by omega
              have q4 : IntKind.i64.wrap (j : Int) = j := IntWalk.i64_in _ (by omega)
              go_quiet (fail)
              clear q1 q2 q2' q4
              have s0q : (w2.drewN nq).cell? ⟨wr.heap.size, 0, none⟩ = some (.int .i64 ya) := s0
              have s1q : (w2.drewN nq).cell? ⟨wr.heap.size, 1, none⟩ = some (.int .i64 yb) := s1
              have d0q : (w2.drewN nq).cell? ⟨g, o' + j * 2, none⟩ = some (.int .i64 za) := d0
              have B2q : Below wr.heap.size wr (w2.drewN nq) := bdrew B2 nq
              clear s0 s1 d0 B2
              generalize w2.drewN nq = w3 at s0q s1q d0q B2q ⊢
              have s0 := s0q
              have s1 := s1q
              have d0 := d0q
              have B2 := B2q
              clear s0q s1q d0q B2q
              go_wp2_with fail
              have q1 : (0 : Int) ≤ (j : Int) := by omega
              have q2 : (j : Int) < (len : Int) := by omega
              have q2' : (0 : Int) < (j : Int) + 1 := by omega
              have q4 : IntKind.i64.wrap (j : Int) = j := IntWalk.i64_in _ (by omega)
              go_quiet (fail)
              clear q1 q2 q2' q4
              have s0q : (w3.drewN nq).cell? ⟨wr.heap.size, 0, none⟩ = some (.int .i64 ya) := s0
              have s1q : (w3.drewN nq).cell? ⟨wr.heap.size, 1, none⟩ = some (.int .i64 yb) := s1
              have d0q : (w3.drewN nq).cell? ⟨g, o' + j * 2, none⟩ = some (.int .i64 za) := d0
              have B2q : Below wr.heap.size wr (w3.drewN nq) := bdrew B2 nq
              clear s0 s1 d0 B2
              generalize w3.drewN nq = w3b at s0q s1q d0q B2q ⊢
              have s0 := s0q
              have s1 := s1q
              have d0 := d0q
              have B2 := B2q
              clear s0q s1q d0q B2q
              go_wp2
              go_ret
              exact ⟨ret_int' (chk_at HX.out hkl HN.out _ HE.out (by decide)).symm, HB.out.trans (B2.mono HB.out.size)⟩
            · have HE := Go.Lib.hid (errK_v HY.out HZ.out HF.out (show za < ya by omega))
              dsimp only at HE
              clear he
              have q1 : (0 : Int) ≤ (j : Int) := by omega
              have q2 : (j : Int) < (len : Int) := by omega
              have q2' : (0 : Int) < (j : Int) + 1 := by omega
              have q4 : IntKind.i64.wrap (j : Int) = j := IntWalk.i64_in _ (by omega)
              go_quiet (fail)
              clear q1 q2 q2' q4
              have s0q : (w2.drewN nq).cell? ⟨wr.heap.size, 0, none⟩ = some (.int .i64 ya) := s0
              have s1q : (w2.drewN nq).cell? ⟨wr.heap.size, 1, none⟩ = some (.int .i64 yb) := s1
              have d0q : (w2.drewN nq).cell? ⟨g, o' + j * 2, none⟩ = some (.int .i64 za) := d0
              have B2q : Below wr.heap.size wr (w2.drewN nq) := bdrew B2 nq
              clear s0 s1 d0 B2
              generalize w2.drewN nq = w3 at s0q s1q d0q B2q ⊢
              have s0 := s0q
              have s1 := s1q
              have d0 := d0q
              have B2 := B2q
              clear s0q s1q d0q B2q
              go_wp2_with fail
              have q1 : (0 : Int) ≤ (j : Int) := by omega
              have q2 : (j : Int) < (len : Int) := by omega
              have q2' : (0 : Int) < (j : Int) + 1 := by omega
              have q4 : IntKind.i64.wrap (j : Int) = j := IntWalk.i64_in _ (by omega)
              go_quiet (fail)
              clear q1 q2 q2' q4
              have s0q : (w3.drewN nq).cell? ⟨wr.heap.size, 0, none⟩ = some (.int .i64 ya) := s0
              have s1q : (w3.drewN nq).cell? ⟨wr.heap.size, 1, none⟩ = some (.int .i64 yb) := s1
              have d0q : (w3.drewN nq).cell? ⟨g, o' + j * 2, none⟩ = some (.int .i64 za) := d0
              have B2q : Below wr.heap.size wr (w3.drewN nq) := bdrew B2 nq
              clear s0 s1 d0 B2
              generalize w3.drewN nq = w3b at s0q s1q d0q B2q ⊢
              have s0 := s0q
              have s1 := s1q
              have d0 := d0q
              have B2 := B2q
              clear s0q s1q d0q B2q
              go_wp2_with fail
              by_cases hv : valOf ya yb = 0
              · have hvb : (valOf ya yb != 0) = false := by rw [hv]; rfl
                have HV := Go.Lib.hid hv
                have cV := fun w' => checkv_anyB ya yb w'
                rw [hv] at cV
                clear hv hvb
                go_wp2_with (go_at_call 72; (with_reducible refine (cV _).mono ?_); rintro e w4 ⟨rfl, hb4⟩)
                go_roundw
                case rel => exact ⟨j + 1 + 1, by omega, by go_num, Go.Lib.hid (HB.out.trans ((B2.trans (hb4.mono B2.size)).mono HB.out.size)), Go.Lib.hid fun i hi => if e : i = j + 1 then by subst e; exact HE.out.trans HV.out else HN.out i (by omega)⟩
                case measure => simp [intOf]; omega
              · have cV := fun w' => checkv_anyB ya yb w'
                have hvb : (valOf ya yb != 0) = true := by simpa using hv
                have HV := Go.Lib.hid hv
                generalize valOf ya yb = ve at cV hvb HE HV
                clear hv
                go_wp2_with (go_at_call 72; (with_reducible refine (cV _).mono ?_); rintro e w4 ⟨rfl, hb4⟩)
                go_ret
                exact ⟨ret_int' (chk_at HX.out hkl HN.out _ HE.out HV.out).symm, HB.out.trans ((B2.trans (hb4.mono B2.size)).mono HB.out.size)⟩
    · obtain rfl : k = len := by omega
      go_wp2
      go_ret
      exact ⟨ret_int' (chk_end HX.out fun j h => HN.out j (by rw [← HL.out]; exact h)).symm, HB.out⟩
end Go.Proofs.Ytbkpokipibgdfaa
