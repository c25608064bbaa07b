/- Layer 12: objects; properties in memory; the search over them; Get (64). -/
import Derived.Test.YtkdhffidkopmcaaRows
import Derived.WalkKit
import Derived.WalkSpells
import Derived.WalkLawsBesides
import Derived.Lib.Hide
import Derived.Deep.LoopGhost
namespace Go.Proofs.Ytkdhffidkopmcaa
open Go.RowKit Go.Lib
set_option linter.unusedVariables false

def ObjAt (W : World) (b : Nat) (c : Array Value) (t : TypeId) : Prop := W.heap[b]? = some (.cells c t (0, 0))
theorem alloc_new' (w : World) (o : Obj) : (w.alloc o).heap[w.heap.size]? = some o := by
  show (w.heap.push o)[w.heap.size]? = some o
  simp
section
variable {W W' : World} {b : Nat} {c : Array Value} {t : TypeId}
theorem ObjAt.lt (h : ObjAt W b c t) : b < W.heap.size := (Array.getElem?_eq_some_iff.1 h).1
theorem ObjAt.new (W : World) (c : Array Value) (t : TypeId) : ObjAt (W.alloc (.cells c t)) W.heap.size c t := alloc_new' W _
theorem ObjAt.kept {row : Option Nat} (h : ObjAt W b c t) (hg : W.grownBy W' row) (hne : some b ≠ row) : ObjAt W' b c t := (hg.block b h.lt hne).trans h
theorem ObjAt.alloc (h : ObjAt W b c t) (o : Obj) : ObjAt (W.alloc o) b c t := h.kept (World.grownBy_alloc W o none) (by simp)
theorem ObjAt.below (h : ObjAt W b c t) (hb : Below W.heap.size W W') : ObjAt W' b c t := (hb.block b h.lt).trans h
theorem ObjAt.other (h : ObjAt W b c t) {C : Nat} (hne : b ≠ C) (i : Nat) (u : Value) : ObjAt (W.setCell ⟨C, i, none⟩ u) b c t := (Below.heap_setCell _ _ _ b hne).trans h
theorem ObjAt.get (h : ObjAt W b c t) {k : Nat} {v : Value} (hk : c[k]? = some v) : W.cell? ⟨b, k, none⟩ = some v := by
  have h' : W.heap[b]? = some (.cells c t (0, 0)) := h
  simp [World.cell?, h', hk]
theorem ObjAt.a0 {x y : Value} (h : ObjAt W b #[x, y] t) : W.cell? ⟨b, 0, none⟩ = some x := h.get rfl
theorem ObjAt.a1 {x y : Value} (h : ObjAt W b #[x, y] t) : W.cell? ⟨b, 1, none⟩ = some y := h.get rfl
theorem ObjAt.b0 {x y z : Value} (h : ObjAt W b #[x, y, z] t) : W.cell? ⟨b, 0, none⟩ = some x := h.get rfl
theorem ObjAt.b1 {x y z : Value} (h : ObjAt W b #[x, y, z] t) : W.cell? ⟨b, 1, none⟩ = some y := h.get rfl
theorem ObjAt.b2 {x y z : Value} (h : ObjAt W b #[x, y, z] t) : W.cell? ⟨b, 2, none⟩ = some z := h.get rfl
theorem ObjAt.frozen (h : ObjAt W b c t) (k : Nat) : W.frozen? ⟨b, k, none⟩ = false := by
  have h' : W.heap[b]? = some (.cells c t (0, 0)) := h
  simp [World.frozen?, h']
end
theorem ObjAt.set {W : World} {b : Nat} {c : Array Value} {t : TypeId} (h : ObjAt W b c t) (k : Nat) (v : Value) : ObjAt (W.setCell ⟨b, k, none⟩ v) b (c.modify k (fun _ => v)) t := by
  obtain ⟨hlt, hk⟩ := Array.getElem?_eq_some_iff.1 h
  show (W.heap.modify b _)[b]? = _
  rw [Array.getElem?_eq_getElem (by rw [Array.size_modify]; exact hlt), Array.getElem_modify_self, hk]
  rfl
theorem ObjAt.drewN {W : World} {b : Nat} {c : Array Value} {t : TypeId} (h : ObjAt W b c t) (n : Nat) : ObjAt (W.drewN n) b c t := h
theorem ObjAt.drew {W : World} {b : Nat} {c : Array Value} {t : TypeId} (h : ObjAt W b c t) : ObjAt W.drew b c t := h


abbrev Pr := Int × Int
/-- Properties in memory. -/
def PrAt (w : World) (A : Option Addr) (l : List Pr) : Prop := l = [] ∨ ∃ g o, A = some ⟨g, o, none⟩ ∧ g < w.heap.size ∧
  ∀ k (h : k < l.length), w.cell? ⟨g, o + k * 2, none⟩ = some (.int .i64 l[k].1) ∧ w.cell? ⟨g, o + k * 2 + 1, none⟩ = some (.int .i64 l[k].2)
theorem PrAt.below {w w' : World} {A : Option Addr} {l : List Pr} (h : PrAt w A l) {n : Nat} (hb : Below n w w') (hn : w.heap.size ≤ n) : PrAt w' A l := by
  rcases h with h | ⟨g, o, h1, h2, h3⟩
  · exact .inl h
  · have hg := Nat.lt_of_lt_of_le h2 hn
    exact .inr ⟨g, o, h1, Nat.lt_of_lt_of_le h2 hb.size, fun k hk => ⟨(hb.cell (p := ⟨g, o + k * 2, none⟩) hg).trans (h3 k hk).1, (hb.cell (p := ⟨g, o + k * 2 + 1, none⟩) hg).trans (h3 k hk).2⟩⟩
theorem PrAt.head {w : World} {A : Option Addr} {x : Pr} {l : List Pr} (h : PrAt w A (x :: l)) : ∃ g o, A = some ⟨g, o, none⟩ ∧ g < w.heap.size ∧
    w.cell? ⟨g, o, none⟩ = some (.int .i64 x.1) ∧ w.cell? ⟨g, o + 1, none⟩ = some (.int .i64 x.2) ∧ PrAt w (some ⟨g, o + 2, none⟩) l := by
  rcases h with h | ⟨g, o, h1, h2, h3⟩
  · cases h
  · have h0 := h3 0 (by simp)
    simp only [Nat.zero_mul, Nat.add_zero, List.getElem_cons_zero] at h0
    refine ⟨g, o, h1, h2, h0.1, h0.2, .inr ⟨g, o + 2, rfl, h2, fun k hk => ?_⟩⟩
    have hs := h3 (k + 1) (by simpa using hk)
    simp only [List.getElem_cons_succ] at hs
    rw [show o + (k + 1) * 2 = o + 2 + k * 2 by omega] at hs
    exact hs
set_option maxRecDepth 100000 in
theorem nan_any (x : Int) (w : World) : Calls Try.prog 108 #[.int .i64 x] w fun e w' => e = .returned (.bool false) ∧ w = w' := by
  go_enter Try.func108, Try.ntmps108
  go_wp2
  go_ret
  exact ⟨by simp, rfl⟩
def cmpI (x y : Int) : Int := if x < y then -1 else if y < x then 1 else 0
set_option maxRecDepth 100000 in
theorem cmp_any (x y : Int) (w : World) : Calls Try.prog 96 #[.int .i64 x, .int .i64 y] w fun e w' => e = .returned (.int .i64 (cmpI x y)) ∧ w = w' := by
  unfold cmpI
  by_cases h1 : x < y
  · rw [if_pos h1]
    go_enter Try.func96, Try.ntmps96
    go_wp2_with (go_at_call 108; refine (nan_any _ _).mono ?_; rintro e w' ⟨rfl, rfl⟩)
    go_ret
    exact ⟨rfl, rfl⟩
  · rw [if_neg h1]
    by_cases h2 : y < x
    · rw [if_pos h2]
      go_enter Try.func96, Try.ntmps96
      go_wp2_with (go_at_call 108; refine (nan_any _ _).mono ?_; rintro e w' ⟨rfl, rfl⟩)
      go_ret
      exact ⟨rfl, rfl⟩
    · rw [if_neg h2]
      go_enter Try.func96, Try.ntmps96
      go_wp2_with (go_at_call 108; refine (nan_any _ _).mono ?_; rintro e w' ⟨rfl, rfl⟩)
      go_ret
      exact ⟨rfl, rfl⟩
theorem cmpI_neg (x y : Int) : cmpI x y < 0 ↔ x < y := by
  unfold cmpI
  split
  · omega
  · split <;> omega
theorem cmpI_zero (x y : Int) : cmpI x y = 0 ↔ x = y := by
  unfold cmpI
  split
  · omega
  · split <;> omega
def SortP (l : List Pr) : Prop := ∀ i j (hi : i < l.length) (hj : j < l.length), i < j → l[i].1 < l[j].1
theorem SortP.le {l : List Pr} (h : SortP l) (i j : Nat) (hi : i < l.length) (hj : j < l.length) (hij : i ≤ j) : l[i].1 ≤ l[j].1 := by
  rcases Nat.lt_or_eq_of_le hij with h1 | h1
  · exact Int.le_of_lt (h i j hi hj h1)
  · subst h1; exact Int.le_refl _
def PartP (l : List Pr) (p : Int) (i : Nat) : Prop := i ≤ l.length ∧ (∀ k (h : k < l.length), k < i → l[k].1 < p) ∧ (∀ k (h : k < l.length), i ≤ k → p ≤ l[k].1)
def FoundP (l : List Pr) (p : Int) (w : World) (e : Ending) (w' : World) : Prop := ∃ i : Nat, PartP l p i ∧ Below w.heap.size w w' ∧ e = .returned (.tuple #[.int .i64 i, .bool (decide (∃ h : i < l.length, l[i].1 = p))])

set_option maxRecDepth 100000 in
theorem pcmp_any (k v p : Int) (w : World) :
    Calls Try.prog 95 #[.agg #[.int .i64 k, .int .i64 v], .int .i64 p] w fun e w' => e = .returned (.int .i64 (cmpI k p)) ∧ Below w.heap.size w w' := by
  go_enter Try.func95, Try.ntmps95
  go_wp2_with (go_at_call 96; refine (cmp_any _ _ _).mono ?_; rintro e w' ⟨rfl, rfl⟩)
  go_ret
  exact ⟨rfl, (Below.refl _ w).alloc (Nat.le_refl _) _⟩

set_option maxRecDepth 100000 in
set_option maxHeartbeats 4000000 in
theorem psearch_any (l : List Pr) (hup : SortP l) (A : Option Addr) (c : Nat) (p : Int) (w : World) (hl : l.length ≤ 1000) (hA : PrAt w A l) :
    Calls Try.prog 94 #[.slice A l.length c, .int .i64 p, .func (.func 95) #[] #[]] w (FoundP l p w) := by
  have U := Go.Lib.hid hup
  have HA := Go.Lib.hid hA
  clear hA
  clear hup
  obtain ⟨n, hn⟩ : ∃ n, l.length = n := ⟨_, rfl⟩
  have N := Go.Lib.hid hn
  rw [hn] at hl ⊢
  clear hn
  go_enter Try.func94, Try.ntmps94
  go_wp2
  go_loopg [9, 10] n (fun kx s9 s10 wr => ∃ lo hi : Nat, s9 = .int .i64 lo ∧ s10 = .int .i64 hi ∧ lo ≤ hi ∧ hi ≤ n ∧ hi - lo ≤ kx ∧ Hid (Below w.heap.size w wr) ∧
    Hid ((∀ k (h : k < l.length), k < lo → l[k].1 < p) ∧ (∀ k (h : k < l.length), hi ≤ k → p ≤ l[k].1)))
  case atStart => exact ⟨0, n, rfl, rfl, Nat.zero_le _, Nat.le_refl _, by omega, Go.Lib.hid (Below.refl _ _), Go.Lib.hid ⟨fun k h h' => by omega, fun k h h' => by have := N.out; omega⟩⟩
  case round =>
    obtain ⟨lo, hi, rfl, rfl, hlh, hin, hgg, HB, I⟩ := hrel
    by_cases hlt : lo < hi
    · have hm : (lo + hi) / 2 < l.length := by rw [N.out]; omega
      rcases HA.out with hA0 | ⟨g, o, rfl, hg, hcl⟩
      · rw [hA0] at hm; exact absurd hm (Nat.not_lt_zero _)
      obtain ⟨h0, h1⟩ := hcl ((lo + hi) / 2) hm
      have c0 := (HB.out.cell (p := ⟨g, o + (lo + hi) / 2 * 2, none⟩) hg).trans h0
      have c1 := (HB.out.cell (p := ⟨g, o + (lo + hi) / 2 * 2 + 1, none⟩) hg).trans h1
      clear h0 h1 hcl
      generalize hy : l[(lo + hi) / 2] = y at c0 c1
      have Y := Go.Lib.hid hy
      clear hy
      obtain ⟨ya, yb⟩ := y
      dsimp only at c0 c1
      have hc := pcmp_any ya yb p wr
      generalize hv : cmpI ya p = v at hc
      have V := Go.Lib.hid hv
      clear hv
      by_cases hyx : v < 0
      · go_wp2_with (go_at_call 95; refine hc.mono ?_; rintro e w' ⟨rfl, hb⟩)
        go_roundg (hi - ((lo + hi) / 2 + 1))
        case measure => omega
        case rel =>
          refine ⟨(lo + hi) / 2 + 1, hi, by rw [show ((lo : Int) + (hi : Int)) / 2 + 1 = (((lo + hi) / 2 + 1 : Nat) : Int) by omega], rfl, by omega, hin, Nat.le_refl _, Go.Lib.hid (HB.out.trans (hb.mono HB.out.size)), Go.Lib.hid ⟨fun k h h' => ?_, I.out.2⟩⟩
          have e1 := U.out.le k ((lo + hi) / 2) h hm (by omega)
          have e2 := (cmpI_neg ya p).1 (by rw [V.out]; exact hyx)
          rw [Y.out] at e1
          dsimp only at e1 e2
          omega
      · go_wp2_with (go_at_call 95; refine hc.mono ?_; rintro e w' ⟨rfl, hb⟩)
        go_roundg ((lo + hi) / 2 - lo)
        case measure => omega
        case rel =>
          refine ⟨lo, (lo + hi) / 2, rfl, by rw [show ((lo : Int) + (hi : Int)) / 2 = (((lo + hi) / 2 : Nat) : Int) by omega], by omega, by omega, Nat.le_refl _, Go.Lib.hid (HB.out.trans (hb.mono HB.out.size)), Go.Lib.hid ⟨I.out.1, fun k h h' => ?_⟩⟩
          have e1 := U.out.le ((lo + hi) / 2) k hm h h'
          have e2 := (not_congr (cmpI_neg ya p)).1 (by rw [V.out]; omega)
          rw [Y.out] at e1
          dsimp only at e1 e2
          omega
    · obtain rfl : lo = hi := by omega
      have PH : Hid (PartP l p lo) := Go.Lib.hid ⟨by rw [N.out]; exact hin, I.out.1, I.out.2⟩
      by_cases hn : lo < n
      · have hm : lo < l.length := by rw [N.out]; omega
        rcases HA.out with hA0 | ⟨g, o, rfl, hg, hcl⟩
        · rw [hA0] at hm; exact absurd hm (Nat.not_lt_zero _)
        obtain ⟨h0, h1⟩ := hcl lo hm
        have c0 := (HB.out.cell (p := ⟨g, o + lo * 2, none⟩) hg).trans h0
        have c1 := (HB.out.cell (p := ⟨g, o + lo * 2 + 1, none⟩) hg).trans h1
        clear h0 h1 hcl
        generalize hy : l[lo] = y at c0 c1
        have Y := Go.Lib.hid hy
        clear hy
        obtain ⟨ya, yb⟩ := y
        dsimp only at c0 c1
        have hc := pcmp_any ya yb p wr
        have Z := Go.Lib.hid (cmpI_zero ya p)
        generalize hv : cmpI ya p = v at hc Z
        clear hv
        by_cases hyx : v = 0
        · go_wp2_with (go_at_call 95; refine hc.mono ?_; rintro e w' ⟨rfl, hb⟩)
          go_ret2
          refine ⟨lo, PH.out, HB.out.trans (hb.mono HB.out.size), ?_⟩
          rw [decide_eq_true (show ∃ h : lo < l.length, l[lo].1 = p from ⟨hm, by rw [Y.out]; exact Z.out.1 hyx⟩)]
          simp
        · go_wp2_with (go_at_call 95; refine hc.mono ?_; rintro e w' ⟨rfl, hb⟩)
          go_ret2
          refine ⟨lo, PH.out, HB.out.trans (hb.mono HB.out.size), ?_⟩
          rw [decide_eq_false (show ¬ ∃ h : lo < l.length, l[lo].1 = p from fun ⟨_, h⟩ => hyx (Z.out.2 (by rw [Y.out] at h; exact h)))]
          simp [hyx]
      · go_wp2
        go_ret2
        refine ⟨lo, PH.out, HB.out, ?_⟩
        rw [decide_eq_false (show ¬ ∃ h : lo < l.length, l[lo].1 = p from fun ⟨h, _⟩ => by have := N.out; omega)]
        simp
/-- Whether a list has a key, and its value. -/
def getB (l : List Pr) (p : Int) : Bool := l.any (·.1 == p)
def getV (l : List Pr) (p : Int) : Int := ((l.find? (·.1 == p)).map (·.2)).getD 0
theorem get_at {l : List Pr} {p : Int} {k : Nat} (hk : k < l.length) (he : l[k].1 = p) (hn : ∀ j (h : j < l.length), j < k → l[j].1 ≠ p) : getB l p = true ∧ getV l p = l[k].2 := by
  constructor
  · unfold getB
    rw [List.any_eq_true]
    exact ⟨l[k], List.getElem_mem hk, by simpa using he⟩
  · unfold getV
    have : l.find? (·.1 == p) = some l[k] := by
      rw [List.find?_eq_some_iff_getElem]
      refine ⟨by simpa using he, k, hk, rfl, fun j hj => ?_⟩
      have := hn j (by omega) hj
      simpa using this
    rw [this]; rfl
theorem get_none {l : List Pr} {p : Int} (hn : ∀ j (h : j < l.length), l[j].1 ≠ p) : getB l p = false ∧ getV l p = 0 := by
  have h0 : ∀ x ∈ l, x.1 ≠ p := by
    intro x hx
    obtain ⟨j, hj, rfl⟩ := List.mem_iff_getElem.1 hx
    exact hn j hj
  constructor
  · unfold getB
    rw [List.any_eq_false]
    intro x hx; simpa using h0 x hx
  · unfold getV
    have : l.find? (·.1 == p) = none := by
      rw [List.find?_eq_none]
      intro x hx; simpa using h0 x hx
    rw [this]; rfl
theorem getB_mem {l : List Pr} {p : Int} (h : getB l p = true) : ∃ k, ∃ hk : k < l.length, l[k].1 = p := by
  unfold getB at h
  rw [List.any_eq_true] at h
  obtain ⟨x, hx, he⟩ := h
  obtain ⟨k, hk, rfl⟩ := List.mem_iff_getElem.1 hx
  exact ⟨k, hk, by simpa using he⟩
theorem ret_pair {a b : Int} {x y : Bool} (h1 : a = b) (h2 : x = y) : Ending.returned (.tuple #[.int .i64 a, .bool x]) = .returned (.tuple #[.int .i64 b, .bool y]) := by rw [h1, h2]

/-- What the search hands back for a key that the list has, and for another one. -/
theorem search_yes (l : List Pr) (hs : SortP l) (A : Option Addr) (len c : Nat) (hl : l.length = len) (hl2 : len ≤ 1000) (p : Int) (w : World) (hA : PrAt w A l) (hb : getB l p = true) :
    Calls Try.prog 82 #[.slice A len c, .int .i64 p] w fun e w' => (∃ i, ∃ h : i < l.length, l[i].1 = p ∧ e = .returned (.tuple #[.int .i64 (i : Nat), .bool true])) ∧ Below w.heap.size w w' := by
  have cS := fun w' (hA : PrAt w' A l) => psearch_any l hs A c p w' (by rw [hl]; exact hl2) hA
  rw [hl] at cS
  have HB := Go.Lib.hid hb
  have HS := Go.Lib.hid hs
  clear hb hs
  go_enter Try.func82, Try.ntmps82
  go_wp2_with (go_at_call 94; (with_reducible refine (cS _ hA).mono ?_); rintro e w1 ⟨i, PT, hb1, rfl⟩; have P := Go.Lib.hid PT; clear PT)
  go_ret2
  obtain ⟨k, hk, hkp⟩ := getB_mem HB.out
  obtain ⟨h1, h2, h3⟩ := P.out
  have hki : ¬ k < i := fun h => by have := h2 k hk h; omega
  have hil : i < l.length := by omega
  have h4 := h3 i hil (Nat.le_refl _)
  have h5 := HS.out.le i k hil hk (by omega)
  have e1 : l[i].1 = p := by omega
  exact ⟨⟨i, hil, e1, ret_pair rfl (decide_eq_true ⟨by rw [← hl]; exact hil, e1⟩)⟩, hb1⟩
theorem search_no (l : List Pr) (hs : SortP l) (A : Option Addr) (len c : Nat) (hl : l.length = len) (hl2 : len ≤ 1000) (p : Int) (w : World) (hA : PrAt w A l) (hb : getB l p = false) :
    Calls Try.prog 82 #[.slice A len c, .int .i64 p] w fun e w' => (∃ i, PartP l p i ∧ e = .returned (.tuple #[.int .i64 (i : Nat), .bool false])) ∧ Below w.heap.size w w' := by
  have cS := fun w' (hA : PrAt w' A l) => psearch_any l hs A c p w' (by rw [hl]; exact hl2) hA
  rw [hl] at cS
  have HB := Go.Lib.hid hb
  clear hb
  go_enter Try.func82, Try.ntmps82
  go_wp2_with (go_at_call 94; (with_reducible refine (cS _ hA).mono ?_); rintro e w1 ⟨i, PT, hb1, rfl⟩; have P := Go.Lib.hid PT; clear PT)
  go_ret2
  refine ⟨⟨i, P.out, ret_pair rfl (decide_eq_false fun ⟨h, he⟩ => ?_)⟩, hb1⟩
  have := HB.out
  unfold getB at this
  rw [List.any_eq_false] at this
  exact this (l[i]'(by rw [hl]; exact h)) (List.getElem_mem _) (by simpa using he)
theorem getV_at {l : List Pr} (hs : SortP l) {p : Int} {i : Nat} (h : i < l.length) (he : l[i].1 = p) : getV l p = l[i].2 :=
  (get_at h he fun j hj hji hjp => by have := hs j i hj h hji; omega).2

set_option maxRecDepth 100000 in
set_option maxHeartbeats 4000000 in
theorem get_any (l : List Pr) (hs : SortP l) (A : Option Addr) (len c : Nat) (hl : l.length = len) (hl2 : len ≤ 1000) (hc : len ≤ c ∧ c ≤ maxLen) (p : Int) (w : World) (hA : PrAt w A l) :
    Calls Try.prog 64 #[.slice A len c, .int .i64 p] w fun e w' => e = .returned (.tuple #[.int .i64 (getV l p), .bool (getB l p)]) ∧ Below w.heap.size w w' := by
  have HL := Go.Lib.hid hl
  obtain ⟨hc1, hc2⟩ := hc
  unfold maxLen at hc2
  cases hb : getB l p with
  | true =>
    have cS := fun w' (hA : PrAt w' A l) => search_yes l hs A len c hl hl2 p w' hA hb
    have HB := Go.Lib.hid hb
    clear hb hl
    go_enter Try.func64, Try.ntmps64
    go_wp2_with fail
    refine (cS _ hA).mono ?_
    rintro e w1 ⟨⟨i, hi, he, rfl⟩, hb1⟩
    have hil : i < len := by rw [← HL.out]; exact hi
    rcases hA with hA0 | ⟨g, o', rfl, hg, hcl⟩
    · rw [hA0] at hi; exact absurd hi (Nat.not_lt_zero _)
    have c1 := (hb1.cell (p := ⟨g, o' + i * 2 + 1, none⟩) hg).trans (hcl i hi).2
    have HV := Go.Lib.hid (getV_at hs hi he)
    clear hcl cS he
    generalize l[i] = y at c1 HV
    obtain ⟨ya, yb⟩ := y
    dsimp only at c1 HV
    go_wp2
    go_ret2
    exact ⟨ret_pair HV.out.symm rfl, hb1⟩
  | false =>
    have cS := fun w' (hA : PrAt w' A l) => search_no l hs A len c hl hl2 p w' hA hb
    have HV := Go.Lib.hid (get_none (l := l) (p := p) fun j h he => by
      unfold getB at hb
      rw [List.any_eq_false] at hb
      exact hb l[j] (List.getElem_mem h) (by simpa using he)).2
    clear hb hl
    go_enter Try.func64, Try.ntmps64
    go_wp2_with (go_at_call 82; (with_reducible refine (cS _ hA).mono ?_); rintro e w1 ⟨⟨i, PT, rfl⟩, hb1⟩; clear PT)
    go_ret2
    exact ⟨ret_pair HV.out.symm rfl, hb1⟩

end Go.Proofs.Ytkdhffidkopmcaa
