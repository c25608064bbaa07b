/- Layer 22: comparing (52, 74), the search (44, 59, 60), the index of the first with an id (57, 58), find (39). -/
import Derived.Test.YtmpklkhjipclmaaV3
import Derived.Test.YtmpklkhjipclmaaV5
import Derived.Deep.LoopGhost
namespace Go.Proofs.Ytmpklkhjipclmaa
open Go.RowKit Go.Lib
set_option linter.unusedVariables false

set_option maxRecDepth 100000 in
theorem nan_any (x : Int) (w : World) : Calls Try.prog 74 #[.int .i64 x] w fun e w' => e = .returned (.bool false) ∧ w = w' := by
  go_enter Try.func74, Try.ntmps74
  go_wp2
  go_ret
  exact ⟨by simp, rfl⟩
def cmpI (x y : Int) : Int := if x < y then -1 else if y < x then 1 else 0
set_option maxRecDepth 100000 in
theorem cmp_any (x y : Int) (w : World) : Calls Try.prog 52 #[.int .i64 x, .int .i64 y] w fun e w' => e = .returned (.int .i64 (cmpI x y)) ∧ w = w' := by
  unfold cmpI
  by_cases h1 : x < y
  · rw [if_pos h1]
    go_enter Try.func52, Try.ntmps52
    go_wp2_with (go_at_call 74; refine (nan_any _ _).mono ?_; rintro e w' ⟨rfl, rfl⟩)
    go_ret
    exact ⟨rfl, rfl⟩
  · rw [if_neg h1]
    by_cases h2 : y < x
    · rw [if_pos h2]
      go_enter Try.func52, Try.ntmps52
      go_wp2_with (go_at_call 74; refine (nan_any _ _).mono ?_; rintro e w' ⟨rfl, rfl⟩)
      go_ret
      exact ⟨rfl, rfl⟩
    · rw [if_neg h2]
      go_enter Try.func52, Try.ntmps52
      go_wp2_with (go_at_call 74; refine (nan_any _ _).mono ?_; rintro e w' ⟨rfl, rfl⟩)
      go_ret
      exact ⟨rfl, rfl⟩

theorem cmpI_neg (x y : Int) : cmpI x y < 0 ↔ x < y := by
  unfold cmpI
  by_cases h : x < y
  · rw [if_pos h]; simp [h]
  · rw [if_neg h]; split <;> omega
theorem cmpI_zero (x y : Int) : cmpI x y = 0 ↔ x = y := by
  unfold cmpI
  by_cases h : x < y
  · rw [if_pos h]; omega
  · rw [if_neg h]; split <;> omega
def SortP (l : List Rv) : Prop := ∀ i j (hi : i < l.length) (hj : j < l.length), i < j → l[i].id < l[j].id
theorem SortP.le {l : List Rv} (h : SortP l) (i j : Nat) (hi : i < l.length) (hj : j < l.length) (hij : i ≤ j) : l[i].id ≤ l[j].id := by
  rcases Nat.lt_or_eq_of_le hij with h1 | h1
  · exact Int.le_of_lt (h i j hi hj h1)
  · subst h1; exact Int.le_refl _
def PartP (l : List Rv) (p : Int) (i : Nat) : Prop := i ≤ l.length ∧ (∀ k (h : k < l.length), k < i → l[k].id < p) ∧ (∀ k (h : k < l.length), i ≤ k → p ≤ l[k].id)
def FoundP (l : List Rv) (p : Int) (w : World) (e : Ending) (w' : World) : Prop := ∃ i : Nat, PartP l p i ∧ Below w.heap.size w w' ∧ e = .returned (.tuple #[.int .i64 i, .bool (decide (∃ h : i < l.length, l[i].id = p))])

set_option maxRecDepth 100000 in
theorem pcmp_any (k : Int) (s : ByteArray) (t p : Int) (w : World) :
    Calls Try.prog 60 #[.agg #[.int .i64 k, .string s, .int .i64 t], .int .i64 p] w fun e w' => e = .returned (.int .i64 (cmpI k p)) ∧ Below w.heap.size w w' := by
  go_enter Try.func60, Try.ntmps60
  go_wp2_with (go_at_call 52; refine (cmp_any _ _ _).mono ?_; rintro e w' ⟨rfl, rfl⟩)
  go_ret
  exact ⟨rfl, (Below.refl _ w).alloc (Nat.le_refl _) _⟩

set_option maxRecDepth 100000 in
set_option maxHeartbeats 4000000 in
theorem psearch_any (l : List Rv) (hup : SortP l) (A : Option Addr) (c : Nat) (p : Int) (w : World) (hl : l.length ≤ 1000) (hA : RsAt w A l) :
    Calls Try.prog 59 #[.slice A l.length c, .int .i64 p, .func (.func 60) #[] #[]] w (FoundP l p w) := by
  have U := Go.Lib.hid hup
  have HA := Go.Lib.hid hA
  clear hA
  clear hup
  obtain ⟨n, hn⟩ : ∃ n, l.length = n := ⟨_, rfl⟩
  have N := Go.Lib.hid hn
  rw [hn] at hl ⊢
  clear hn
  go_enter Try.func59, Try.ntmps59
  go_wp2
  go_loopg [9, 10] n (fun kx s9 s10 wr => ∃ lo hi : Nat, s9 = .int .i64 lo ∧ s10 = .int .i64 hi ∧ lo ≤ hi ∧ hi ≤ n ∧ hi - lo ≤ kx ∧ Hid (Below w.heap.size w wr) ∧
    Hid ((∀ k (h : k < l.length), k < lo → l[k].id < p) ∧ (∀ k (h : k < l.length), hi ≤ k → p ≤ l[k].id)))
  case atStart => exact ⟨0, n, rfl, rfl, Nat.zero_le _, Nat.le_refl _, by omega, Go.Lib.hid (Below.refl _ _), Go.Lib.hid ⟨fun k h h' => by omega, fun k h h' => by have := N.out; omega⟩⟩
  case round =>
    obtain ⟨lo, hi, rfl, rfl, hlh, hin, hgg, HB, I⟩ := hrel
    by_cases hlt : lo < hi
    · have hm : (lo + hi) / 2 < l.length := by rw [N.out]; omega
      rcases HA.out with hA0 | ⟨g, o, rfl, hg, hcl⟩
      · rw [hA0] at hm; exact absurd hm (Nat.not_lt_zero _)
      obtain ⟨h0, h1, h2⟩ := hcl ((lo + hi) / 2) hm
      have c0 := (HB.out.cell (p := ⟨g, o + (lo + hi) / 2 * 3, none⟩) hg).trans h0
      have c1 := (HB.out.cell (p := ⟨g, o + (lo + hi) / 2 * 3 + 1, none⟩) hg).trans h1
      have c2 := (HB.out.cell (p := ⟨g, o + (lo + hi) / 2 * 3 + 2, none⟩) hg).trans h2
      clear h0 h1 h2 hcl
      generalize hy : l[(lo + hi) / 2] = y at c0 c1 c2
      have Y := Go.Lib.hid hy
      clear hy
      obtain ⟨ya, ys, yt⟩ := y
      dsimp only at c0 c1 c2
      have hc := pcmp_any ya ys yt p wr
      generalize hv : cmpI ya p = v at hc
      have V := Go.Lib.hid hv
      clear hv
      by_cases hyx : v < 0
      · go_wp2_with (go_at_call 60; refine hc.mono ?_; rintro e w' ⟨rfl, hb⟩)
        go_roundg (hi - ((lo + hi) / 2 + 1))
        case measure => omega
        case rel =>
          refine ⟨(lo + hi) / 2 + 1, hi, by rw [show ((lo : Int) + (hi : Int)) / 2 + 1 = (((lo + hi) / 2 + 1 : Nat) : Int) by omega], rfl, by omega, hin, Nat.le_refl _, Go.Lib.hid (HB.out.trans (hb.mono HB.out.size)), Go.Lib.hid ⟨fun k h h' => ?_, I.out.2⟩⟩
          have e1 := U.out.le k ((lo + hi) / 2) h hm (by omega)
          have e2 := (cmpI_neg ya p).1 (by rw [V.out]; exact hyx)
          rw [Y.out] at e1
          dsimp only at e1 e2
          omega
      · go_wp2_with (go_at_call 60; refine hc.mono ?_; rintro e w' ⟨rfl, hb⟩)
        go_roundg ((lo + hi) / 2 - lo)
        case measure => omega
        case rel =>
          refine ⟨lo, (lo + hi) / 2, rfl, by rw [show ((lo : Int) + (hi : Int)) / 2 = (((lo + hi) / 2 : Nat) : Int) by omega], by omega, by omega, Nat.le_refl _, Go.Lib.hid (HB.out.trans (hb.mono HB.out.size)), Go.Lib.hid ⟨I.out.1, fun k h h' => ?_⟩⟩
          have e1 := U.out.le ((lo + hi) / 2) k hm h h'
          have e2 := (not_congr (cmpI_neg ya p)).1 (by rw [V.out]; omega)
          rw [Y.out] at e1
          dsimp only at e1 e2
          omega
    · obtain rfl : lo = hi := by omega
      have PH : Hid (PartP l p lo) := Go.Lib.hid ⟨by rw [N.out]; exact hin, I.out.1, I.out.2⟩
      by_cases hn : lo < n
      · have hm : lo < l.length := by rw [N.out]; omega
        rcases HA.out with hA0 | ⟨g, o, rfl, hg, hcl⟩
        · rw [hA0] at hm; exact absurd hm (Nat.not_lt_zero _)
        obtain ⟨h0, h1, h2⟩ := hcl lo hm
        have c0 := (HB.out.cell (p := ⟨g, o + lo * 3, none⟩) hg).trans h0
        have c1 := (HB.out.cell (p := ⟨g, o + lo * 3 + 1, none⟩) hg).trans h1
        have c2 := (HB.out.cell (p := ⟨g, o + lo * 3 + 2, none⟩) hg).trans h2
        clear h0 h1 h2 hcl
        generalize hy : l[lo] = y at c0 c1 c2
        have Y := Go.Lib.hid hy
        clear hy
        obtain ⟨ya, ys, yt⟩ := y
        dsimp only at c0 c1 c2
        have hc := pcmp_any ya ys yt p wr
        have Z := Go.Lib.hid (cmpI_zero ya p)
        generalize hv : cmpI ya p = v at hc Z
        clear hv
        by_cases hyx : v = 0
        · go_wp2_with (go_at_call 60; refine hc.mono ?_; rintro e w' ⟨rfl, hb⟩)
          go_ret2
          refine ⟨lo, PH.out, HB.out.trans (hb.mono HB.out.size), ?_⟩
          rw [decide_eq_true (show ∃ h : lo < l.length, l[lo].id = p from ⟨hm, by rw [Y.out]; exact Z.out.1 hyx⟩)]
          simp
        · go_wp2_with (go_at_call 60; refine hc.mono ?_; rintro e w' ⟨rfl, hb⟩)
          go_ret2
          refine ⟨lo, PH.out, HB.out.trans (hb.mono HB.out.size), ?_⟩
          rw [decide_eq_false (show ¬ ∃ h : lo < l.length, l[lo].id = p from fun ⟨_, h⟩ => hyx (Z.out.2 (by rw [Y.out] at h; exact h)))]
          simp [hyx]
      · go_wp2
        go_ret2
        refine ⟨lo, PH.out, HB.out, ?_⟩
        rw [decide_eq_false (show ¬ ∃ h : lo < l.length, l[lo].id = p from fun ⟨h, _⟩ => by have := N.out; omega)]
        simp

theorem chk_sort {l : List Rv} (h : chkL vld l = 0) : SortP l := fun i j hi hj hij => chkL_inc h i j hij hj
/-- Where a revision belongs. -/
theorem part_fnd {l : List Rv} {p : Int} {i : Nat} (hs : SortP l) (h : PartP l p i) : (∃ hi : i < l.length, l[i].id = p) ∧ fnd p l = (i : Int) ∨ (¬ ∃ hi : i < l.length, l[i].id = p) ∧ fnd p l = -1 := by
  by_cases e : ∃ hi : i < l.length, l[i].id = p
  · obtain ⟨hi, he⟩ := e
    exact .inl ⟨⟨hi, he⟩, fnd_yes hi he fun j hj hji => by have := h.2.1 j hj hji; omega⟩
  · refine .inr ⟨e, fnd_no fun j hj hje => ?_⟩
    by_cases hji : j < i
    · have := h.2.1 j hj hji; omega
    · have h1 := h.2.2 j hj (by omega)
      by_cases e2 : j = i
      · subst e2; exact e ⟨hj, hje⟩
      · have hi : i < l.length := by omega
        have h2 := h.2.2 i hi (Nat.le_refl _)
        have h3 := hs i j hi hj (by omega)
        omega
set_option maxRecDepth 100000 in
set_option maxHeartbeats 4000000 in
theorem search_any (l : List Rv) (hup : SortP l) (A : Option Addr) (n c : Nat) (hn : l.length = n) (p : Int) (w : World) (hl : n ≤ 1000) (hA : RsAt w A l) :
    Calls Try.prog 44 #[.slice A n c, .int .i64 p] w (FoundP l p w) := by
  subst hn
  have cS := psearch_any l hup A c p w hl hA
  clear hup hA
  go_enter Try.func44, Try.ntmps44
  go_wp2_with fail
  (with_reducible refine cS.mono ?_)
  rintro e w1 ⟨i, hP, hb, rfl⟩
  have HP := Lib.hid hP
  generalize hgb : decide (∃ h : i < l.length, l[i].id = p) = b
  have HD := Lib.hid hgb
  clear cS hP hgb
  go_wp2
  go_ret2
  exact ⟨i, HP.out, hb, by rw [HD.out]; rfl⟩

set_option maxRecDepth 100000 in
set_option maxHeartbeats 8000000 in
theorem isid_any (a t : Int) (s : ByteArray) (i : Int) (b1 : Nat) (w : World) (h1 : w.cell? ⟨b1, 0, none⟩ = some (.int .i64 i)) :
    Calls Try.prog 58 #[.agg #[.int .i64 a, .string s, .int .i64 t], .pointer (some ⟨b1, 0, none⟩)] w fun e w' => e = .returned (.bool (a == i)) ∧ Below w.heap.size w w' := by
  have hb1 : b1 < w.heap.size := World.block_lt_of_cell? w ⟨b1, 0, none⟩ h1
  have B0 := (Below.refl w.heap.size w).alloc (Nat.le_refl _) (.cells #[.int .i64 a, .string s, .int .i64 t] 23)
  have z1 := (B0.cell (p := ⟨b1, 0, none⟩) hb1).trans h1
  have HB := Lib.hid B0
  clear B0 h1
  go_enter Try.func58, Try.ntmps58
  by_cases hv : (a == i) = true
  · go_wp2
    go_ret
    exact ⟨by rw [hv]; rfl, HB.out⟩
  · have hv' : (a == i) = false := by simpa using hv
    clear hv
    go_wp2
    go_ret
    exact ⟨by rw [hv']; rfl, HB.out⟩
/-- The place of the first revision that q holds of, or -1. -/
def fstQ (q : Rv → Bool) (l : List Rv) : Int := match l.findIdx? q with
  | some k => (k : Int)
  | none => -1
theorem fstQ_yes {q : Rv → Bool} {l : List Rv} {k : Nat} (h : k < l.length) (hp : q l[k] = true) (hn : ∀ j (h : j < l.length), j < k → q l[j] = false) : fstQ q l = (k : Int) := by
  have : l.findIdx? q = some k := by
    rw [List.findIdx?_eq_some_iff_getElem]
    exact ⟨h, hp, fun j hj => by rw [hn j (by omega) hj]; simp⟩
  unfold fstQ; rw [this]
theorem fstQ_no {q : Rv → Bool} {l : List Rv} (hn : ∀ j (h : j < l.length), q l[j] = false) : fstQ q l = -1 := by
  have : l.findIdx? q = none := by
    rw [List.findIdx?_eq_none_iff]
    intro x hx
    obtain ⟨j, hj, rfl⟩ := List.mem_iff_getElem.1 hx
    exact hn j hj
  unfold fstQ; rw [this]
theorem fstQ_or (q : Rv → Bool) (l : List Rv) : (∃ (k : Nat) (h : k < l.length), fstQ q l = (k : Int) ∧ q l[k] = true ∧ ∀ j (h : j < l.length), j < k → q l[j] = false) ∨ (fstQ q l = -1 ∧ ∀ j (h : j < l.length), q l[j] = false) := by
  cases h : l.findIdx? q with
  | some k =>
    obtain ⟨hk, hp, hn⟩ := List.findIdx?_eq_some_iff_getElem.1 h
    have hn' : ∀ j (hj : j < l.length), j < k → q l[j] = false := fun j hj hl => by have := hn j hl; simpa using this
    exact .inl ⟨k, hk, fstQ_yes hk hp hn', hp, hn'⟩
  | none =>
    have hn : ∀ j (hj : j < l.length), q l[j] = false := fun j hj => List.findIdx?_eq_none_iff.1 h _ (List.getElem_mem hj)
    exact .inr ⟨fstQ_no hn, hn⟩
theorem fstQ_id (i : Int) (l : List Rv) : fstQ (fun x => x.id == i) l = fnd i l := rfl
def BeforeQ (q : Rv → Bool) (l : List Rv) (k : Nat) : Prop := ∀ j (h : j < l.length), j < k → q l[j] = false
theorem BeforeQ.zero (q : Rv → Bool) (l : List Rv) : BeforeQ q l 0 := fun j _ h => absurd h (Nat.not_lt_zero _)
theorem BeforeQ.succ {q : Rv → Bool} {l : List Rv} {k : Nat} (h : BeforeQ q l k) (hk : k < l.length) (hp : q l[k] = false) : BeforeQ q l (k + 1) := fun j hj hl => if e : j = k then by subst e; exact hp else h j hj (by omega)
/-- A test of revisions, a function value with what it holds. -/
def TestQ (f : FuncId) (cb : Array Value) (q : Rv → Bool) (B : Nat) (w : World) : Prop :=
  ∀ (x : Rv) w', Below B w w' → Calls Try.prog f (#[rvV x] ++ cb) w' fun e w'' => e = .returned (.bool (q x)) ∧ Below w'.heap.size w' w''
theorem TestQ.below {f : FuncId} {cb : Array Value} {q : Rv → Bool} {B : Nat} {w w2 : World} (h : TestQ f cb q B w) (hb : Below B w w2) : TestQ f cb q B w2 := fun x w' hb' => h x w' (hb.trans hb')

set_option maxRecDepth 100000 in
set_option maxHeartbeats 8000000 in
theorem indexid_any (l : List Rv) (n : Nat) (hn : l.length = n) (h1000 : n ≤ 1000) (A : Option Addr) (c : Nat) (q : Rv → Bool) (b1 : Nat) (w : World) (hA : RsAt w A l) (hT : TestQ 58 #[.pointer (some ⟨b1, 0, none⟩)] q w.heap.size w) :
    Calls Try.prog 57 #[.slice A n c, .func (.func 58) #[] #[.pointer (some ⟨b1, 0, none⟩)]] w fun e w' => e = .returned (.int .i64 (fstQ q l)) ∧ Below w.heap.size w w' := by
  have HN := Lib.hid hn
  have HA := Lib.hid hA
  have CB := Lib.hid hT
  clear hn hA hT
  go_enter Try.func57, Try.ntmps57
  go_wp2_with fail
  go_loopw [5, 8] (fun _ s8 wr => ∃ k : Nat, k ≤ n ∧ s8 = .int .i64 (k : Nat) ∧ Hid (BeforeQ q l k) ∧ Hid (Below w.heap.size w wr)) (fun _ s8 _ => n - (intOf s8).toNat)
  case atStart => exact ⟨0, Nat.zero_le _, rfl, Lib.hid (BeforeQ.zero _ _), Lib.hid (Below.refl _ _)⟩
  case round =>
    obtain ⟨k, hk, rfl, HM, HB⟩ := hrel
    by_cases hlt : k < n
    · have hkl : k < l.length := by rw [HN.out]; exact hlt
      obtain ⟨g, o, rfl, hg, hcl⟩ := HA.out.pos (by omega)
      obtain ⟨z0, z1, z2⟩ := hcl k hkl
      replace z0 := (HB.out.cell (p := ⟨g, o + k * 3, none⟩) hg).trans z0
      replace z1 := (HB.out.cell (p := ⟨g, o + k * 3 + 1, none⟩) hg).trans z1
      replace z2 := (HB.out.cell (p := ⟨g, o + k * 3 + 2, none⟩) hg).trans z2
      have HY := Lib.hid (fun (h : q l[k] = true) => fstQ_yes hkl h HM.out)
      have HX := Lib.hid (fun (h : q l[k] = false) => HM.out.succ hkl h)
      have hs := HB.out.size
      have cb := CB.out l[k] wr HB.out
      clear hcl
      generalize l[k] = x at z0 z1 z2 HY HX cb
      obtain ⟨a1, a2, a3⟩ := x
      dsimp only [rvV, Array.append_singleton, List.push_toArray, List.append_toArray, List.cons_append, List.nil_append] at z0 z1 z2 HY HX cb
      simp only [List.append_toArray, List.cons_append, List.nil_append] at cb
      cases hv : q ⟨a1, a2, a3⟩ with
      | true =>
        have HE := Lib.hid (HY.out hv)
        rw [hv] at cb
        clear HY HX hv
        go_wp2_with fail
        (with_reducible refine cb.mono ?_)
        rintro e w7 ⟨rfl, k7⟩
        have K7 := Go.Lib.hid (HB.out.trans (k7.mono hs))
        clear cb k7
        go_wp2
        go_ret
        exact ⟨by rw [← HE.out]; rfl, K7.out⟩
      | false =>
        rw [hv] at cb
        have HE := Lib.hid (HX.out hv)
        clear HY HX hv
        go_wp2_with fail
        (with_reducible refine cb.mono ?_)
        rintro e w7 ⟨rfl, k7⟩
        have K7 := Go.Lib.hid (HB.out.trans (k7.mono hs))
        clear cb k7 z0 z1 z2
        go_wp2
        go_roundw
        case rel => exact ⟨k + 1, by omega, by go_num, HE, K7⟩
        case measure => simp [intOf]; omega
    · obtain rfl : k = n := by omega
      have HE := Lib.hid (fstQ_no (q := q) (l := l) fun j h => HM.out j h (by rw [← HN.out]; exact h))
      go_wp2
      go_ret
      exact ⟨by rw [HE.out]; rfl, HB.out⟩

set_option maxRecDepth 100000 in
set_option maxHeartbeats 8000000 in
theorem indexrm_any (l : List Rv) (n : Nat) (hn : l.length = n) (h1000 : n ≤ 1000) (A : Option Addr) (c : Nat) (q : Rv → Bool) (b1 : Nat) (w : World) (hA : RsAt w A l) (hT : TestQ 43 #[.pointer (some ⟨b1, 0, none⟩)] q w.heap.size w) :
    Calls Try.prog 57 #[.slice A n c, .func (.func 43) #[] #[.pointer (some ⟨b1, 0, none⟩)]] w fun e w' => e = .returned (.int .i64 (fstQ q l)) ∧ Below w.heap.size w w' := by
  have HN := Lib.hid hn
  have HA := Lib.hid hA
  have CB := Lib.hid hT
  clear hn hA hT
  go_enter Try.func57, Try.ntmps57
  go_wp2_with fail
  go_loopw [5, 8] (fun _ s8 wr => ∃ k : Nat, k ≤ n ∧ s8 = .int .i64 (k : Nat) ∧ Hid (BeforeQ q l k) ∧ Hid (Below w.heap.size w wr)) (fun _ s8 _ => n - (intOf s8).toNat)
  case atStart => exact ⟨0, Nat.zero_le _, rfl, Lib.hid (BeforeQ.zero _ _), Lib.hid (Below.refl _ _)⟩
  case round =>
    obtain ⟨k, hk, rfl, HM, HB⟩ := hrel
    by_cases hlt : k < n
    · have hkl : k < l.length := by rw [HN.out]; exact hlt
      obtain ⟨g, o, rfl, hg, hcl⟩ := HA.out.pos (by omega)
      obtain ⟨z0, z1, z2⟩ := hcl k hkl
      replace z0 := (HB.out.cell (p := ⟨g, o + k * 3, none⟩) hg).trans z0
      replace z1 := (HB.out.cell (p := ⟨g, o + k * 3 + 1, none⟩) hg).trans z1
      replace z2 := (HB.out.cell (p := ⟨g, o + k * 3 + 2, none⟩) hg).trans z2
      have HY := Lib.hid (fun (h : q l[k] = true) => fstQ_yes hkl h HM.out)
      have HX := Lib.hid (fun (h : q l[k] = false) => HM.out.succ hkl h)
      have hs := HB.out.size
      have cb := CB.out l[k] wr HB.out
      clear hcl
      generalize l[k] = x at z0 z1 z2 HY HX cb
      obtain ⟨a1, a2, a3⟩ := x
      dsimp only [rvV, Array.append_singleton, List.push_toArray, List.append_toArray, List.cons_append, List.nil_append] at z0 z1 z2 HY HX cb
      simp only [List.append_toArray, List.cons_append, List.nil_append] at cb
      cases hv : q ⟨a1, a2, a3⟩ with
      | true =>
        have HE := Lib.hid (HY.out hv)
        rw [hv] at cb
        clear HY HX hv
        go_wp2_with fail
        (with_reducible refine cb.mono ?_)
        rintro e w7 ⟨rfl, k7⟩
        have K7 := Go.Lib.hid (HB.out.trans (k7.mono hs))
        clear cb k7
        go_wp2
        go_ret
        exact ⟨by rw [← HE.out]; rfl, K7.out⟩
      | false =>
        rw [hv] at cb
        have HE := Lib.hid (HX.out hv)
        clear HY HX hv
        go_wp2_with fail
        (with_reducible refine cb.mono ?_)
        rintro e w7 ⟨rfl, k7⟩
        have K7 := Go.Lib.hid (HB.out.trans (k7.mono hs))
        clear cb k7 z0 z1 z2
        go_wp2
        go_roundw
        case rel => exact ⟨k + 1, by omega, by go_num, HE, K7⟩
        case measure => simp [intOf]; omega
    · obtain rfl : k = n := by omega
      have HE := Lib.hid (fstQ_no (q := q) (l := l) fun j h => HM.out j h (by rw [← HN.out]; exact h))
      go_wp2
      go_ret
      exact ⟨by rw [HE.out]; rfl, HB.out⟩

/-- What find hands back. -/
def FndR (l : List Rv) (p : Int) (e : Ending) : Prop := ∃ x : Int, e = .returned (.tuple #[.int .i64 x, .bool (decide (0 ≤ fnd p l))]) ∧ (0 ≤ fnd p l → x = fnd p l)
set_option maxRecDepth 100000 in
set_option maxHeartbeats 8000000 in
theorem find39_any (l : List Rv) (n : Nat) (hn : l.length = n) (h1000 : n ≤ 1000) (hz : SzOk l) (A : Option Addr) (c : Nat) (p : Int) (w : World) (hA : RsAt w A l) :
    Calls Try.prog 39 #[.slice A n c, .int .i64 p] w fun e w' => FndR l p e ∧ Below w.heap.size w w' := by
  have B0 := (Below.refl w.heap.size w).alloc (Nat.le_refl _) (.cells #[.int .i64 p] 3)
  have X0 := Boxed.new w 3 (.int .i64 p)
  have cC := check_any l n hn h1000 hz A c (w.alloc (.cells #[.int .i64 p] 3)) (hA.below B0)
  have HA := Lib.hid hA
  have HN := Lib.hid hn
  have HB0 := Lib.hid B0
  have HX0 := Lib.hid X0
  have s0 := B0.size
  clear hA hn hz B0 X0
  by_cases hc : chkL vld l = 0
  · rw [hc] at cC
    have HS := Lib.hid (chk_sort hc)
    clear hc
    go_enter Try.func39, Try.ntmps39
    go_wp2_with fail
    (with_reducible refine cC.mono ?_)
    rintro e w1 ⟨rfl, k1⟩
    have K1 := Lib.hid (HB0.out.trans (k1.mono s0))
    have s1 := K1.out.size
    have z1 := (boxed_below HX0.out k1).cell
    have cS := search_any l HS.out A n c HN.out p w1 h1000 (HA.out.below K1.out)
    clear cC k1
    go_wp2_with fail
    (with_reducible refine cS.mono ?_)
    rintro e w2 ⟨i, hP, k2, rfl⟩
    have K2 := Lib.hid (K1.out.trans (k2.mono s1))
    have HP := Lib.hid (part_fnd HS.out hP)
    clear cS k2 hP
    generalize hb : decide (∃ h : i < l.length, l[i].id = p) = b
    have HD := Lib.hid hb
    clear hb
    go_wp2
    go_ret2
    refine ⟨⟨(i : Int), ?_, ?_⟩, K2.out⟩
    · rcases HP.out with ⟨h1, h2⟩ | ⟨h1, h2⟩
      · rw [← HD.out, decide_eq_true h1, h2, decide_eq_true (by omega : (0 : Int) ≤ (i : Int))]; rfl
      · rw [← HD.out, decide_eq_false h1, h2]; rfl
    · intro h
      rcases HP.out with ⟨h1, h2⟩ | ⟨h1, h2⟩
      · exact h2.symm
      · rw [h2] at h; exact absurd h (by decide)
  · have hc' : (chkL vld l == 0) = false := neB hc
    generalize chkL vld l = r at cC hc'
    clear hc
    go_enter Try.func39, Try.ntmps39
    go_wp2_with fail
    (with_reducible refine cC.mono ?_)
    rintro e w1 ⟨rfl, k1⟩
    have K1 := Lib.hid (HB0.out.trans (k1.mono s0))
    have s1 := K1.out.size
    have z1 := (boxed_below HX0.out k1).cell
    have hbl : w.heap.size < w1.heap.size := by have := k1.size; rw [World.size_alloc] at this; omega
    have cI := indexid_any l n HN.out h1000 A c (fun x => x.id == p) w.heap.size w1 (HA.out.below K1.out) (fun x w' hb' => by
      have := isid_any x.id x.time x.author p w.heap.size w' ((hb'.cell (p := ⟨w.heap.size, 0, none⟩) hbl).trans z1)
      exact this)
    rw [fstQ_id] at cI
    clear cC k1
    generalize hvv : fnd p l = v at cI
    have HV := Lib.hid hvv
    clear hvv
    go_wp2_with fail
    (with_reducible refine cI.mono ?_)
    rintro e w2 ⟨rfl, k2⟩
    have K2 := Lib.hid (K1.out.trans (k2.mono s1))
    clear cI k2
    by_cases hv : 0 ≤ v
    · have e1 : decide (0 ≤ v) = true := by simpa using hv
      go_wp2
      go_ret2
      exact ⟨⟨v, by rw [HV.out]; first | rfl | (rw [e1]; rfl), fun _ => HV.out.symm⟩, K2.out⟩
    · have e1 : decide (0 ≤ v) = false := by simpa using hv
      go_wp2
      go_ret2
      exact ⟨⟨v, by rw [HV.out]; first | rfl | (rw [e1]; rfl), fun _ => HV.out.symm⟩, K2.out⟩
end Go.Proofs.Ytmpklkhjipclmaa
