import Derived.Test.YthjooopppidcfaaDoorMC
import Derived.Test.YthjooopppidcfaaDoorMD
import Derived.Test.YthjooopppidcfaaDoorMI
import Derived.Deep.QuietTactic
import Derived.BigQuiet

/- Layer 3: the program's joins, wordAt, tokenAt. -/
namespace Go.Proofs.YthjooopppidcfaaDoor
open Go.RowKit
open Gc (Span)

def Cls (C : List Span) : List Int := C.map fun x => x.1
theorem cls_len (C : List Span) : (Cls C).length = C.length := by simp [Cls]
theorem cat_at (C : List Span) (k : Nat) (h : k < C.length) : Sg.cat (Cls C) k = C[k].1 := by
  unfold Sg.cat Cls
  rw [List.getD_eq_getElem?_getD, List.getElem?_map, List.getElem?_eq_getElem h]; rfl
theorem cat_out (C : List Span) (k : Nat) (h : C.length ≤ k) : Sg.cat (Cls C) k = -1 := by
  unfold Sg.cat Cls
  rw [List.getD_eq_getElem?_getD, List.getElem?_eq_none (by simpa using h)]; rfl
theorem bdrew {B : Nat} {a w : World} (h : Below B a w) (n : Nat) : Below B a (w.drewN n) := ⟨h.os, h.tape, h.output, h.size, h.block⟩
theorem neB {x y : Int} (h : x ≠ y) : (x == y) = false := by simpa using h

theorem joins_at3 (C : List Span) (i : Nat) (a b d : Int) (ha : Sg.cat (Cls C) i = a) (hb : Sg.cat (Cls C) (i + 1) = b) (hd : Sg.cat (Cls C) (i + 2) = d) :
    Sg.joins (Cls C) (i + 1) = (decide (b = 11) && decide (a = 5) && decide (d = 5) || decide (b = 10) && decide (a = 6) && decide (d = 6)) := by
  subst ha hb hd; rfl

theorem ret_bool' {a b : Bool} (h : a = b) : Ending.returned (.bool a) = .returned (.bool b) := by rw [h]

set_option maxRecDepth 100000 in
set_option maxHeartbeats 2000000 in
theorem joins_any (C : List Span) (g cap pn pc : Nat) (pa : Option Addr) (i : Nat) (w : World) (hi : i < C.length) (hl : C.length ≤ 1000) (R : Row w g C) :
    Calls Tryd.prog 103 #[.agg #[.slice pa pn pc, .slice (some ⟨g, 0, none⟩) C.length cap], .int .i64 i] w (BoolPost (Sg.joins (Cls C) i) w) := by
  unfold BoolPost
  have hg := R.1
  cases i with
  | zero =>
    go_enter Tryd.func103, Tryd.ntmps103
    go_wp2
    go_ret
    exact ⟨rfl, (Below.refl _ _).alloc (Nat.le_refl _) _⟩
  | succ i =>
    by_cases hlast : i + 1 + 1 = C.length
    · have hj : Sg.joins (Cls C) (i + 1) = false := by
        have hd := cat_out C (i + 2) (by omega)
        rw [joins_at3 C i _ _ (-1) rfl rfl hd]; simp
      rw [hj]
      obtain ⟨n, hn⟩ : ∃ n, C.length = n := ⟨_, rfl⟩
      rw [hn] at hi hl hlast ⊢
      have N := Go.Lib.hid hn
      clear hj hn R
      subst hlast
      go_enter Tryd.func103, Tryd.ntmps103
      go_wp2
      go_ret
      exact ⟨rfl, (Below.refl _ _).alloc (Nat.le_refl _) _⟩
    · obtain ⟨c0, _⟩ := R.2 i (by omega)
      obtain ⟨c1, _⟩ := R.2 (i + 1) hi
      obtain ⟨c2, _⟩ := R.2 (i + 2) (by omega)
      have J := joins_at3 C i _ _ _ (cat_at C i (by omega)) (cat_at C (i + 1) hi) (cat_at C (i + 2) (by omega))
      generalize C[i].1 = a at c0 J
      generalize C[i + 1].1 = b at c1 J
      generalize C[i + 2].1 = d at c2 J
      obtain ⟨n, hn⟩ : ∃ n, C.length = n := ⟨_, rfl⟩
      rw [hn] at hi hl hlast ⊢
      rw [J]
      clear J hn R
      have k0 : ((i : Int) + 1 + 1 == (n : Int)) = false := neB (by omega)
      have hi2 : i + 2 < n := by omega
      clear hlast
      by_cases hb : b = 11
      · subst hb
        by_cases ha : a = 5
        · subst ha
          by_cases hd : d = 5
          · subst hd
            go_enter Tryd.func103, Tryd.ntmps103
            go_wp2
            go_quiet (fail)
            go_wp2
            go_ret
            exact ⟨rfl, bdrew ((Below.refl _ _).alloc (Nat.le_refl _) _) _⟩
          · have kd := neB hd
            have e : (decide ((11 : Int) = 11) && decide ((5 : Int) = 5) && decide (d = 5) || decide ((11 : Int) = 10) && decide ((5 : Int) = 6) && decide (d = 6)) = false := by simp [hd]
            rw [e]
            clear e hd
            go_enter Tryd.func103, Tryd.ntmps103
            go_wp2
            go_quiet (fail)
            go_wp2
            go_ret
            exact ⟨rfl, bdrew ((Below.refl _ _).alloc (Nat.le_refl _) _) _⟩
        · have ka := neB ha
          have e : (decide ((11 : Int) = 11) && decide (a = 5) && decide (d = 5) || decide ((11 : Int) = 10) && decide (a = 6) && decide (d = 6)) = false := by simp [ha]
          rw [e]
          clear e ha
          go_enter Tryd.func103, Tryd.ntmps103
          go_wp2
          go_quiet (fail)
          go_wp2
          go_ret
          exact ⟨rfl, bdrew ((Below.refl _ _).alloc (Nat.le_refl _) _) _⟩
      · have kb := neB hb
        by_cases hb2 : b = 10
        · subst hb2
          by_cases ha : a = 6
          · subst ha
            by_cases hd : d = 6
            · subst hd
              go_enter Tryd.func103, Tryd.ntmps103
              go_wp2
              go_quiet (fail)
              go_wp2
              go_ret
              exact ⟨rfl, bdrew ((Below.refl _ _).alloc (Nat.le_refl _) _) _⟩
            · have kd := neB hd
              have e : (decide ((10 : Int) = 11) && decide ((6 : Int) = 5) && decide (d = 5) || decide ((10 : Int) = 10) && decide ((6 : Int) = 6) && decide (d = 6)) = false := by simp [hd]
              rw [e]
              clear e hd
              go_enter Tryd.func103, Tryd.ntmps103
              go_wp2
              go_quiet (fail)
              go_wp2
              go_ret
              exact ⟨rfl, bdrew ((Below.refl _ _).alloc (Nat.le_refl _) _) _⟩
          · have ka := neB ha
            have e : (decide ((10 : Int) = 11) && decide (a = 5) && decide (d = 5) || decide ((10 : Int) = 10) && decide (a = 6) && decide (d = 6)) = false := by simp [ha]
            rw [e]
            clear e ha
            go_enter Tryd.func103, Tryd.ntmps103
            go_wp2
            go_quiet (fail)
            go_wp2
            go_ret
            exact ⟨rfl, bdrew ((Below.refl _ _).alloc (Nat.le_refl _) _) _⟩
        · have kb2 := neB hb2
          have e : (decide (b = 11) && decide (a = 5) && decide (d = 5) || decide (b = 10) && decide (a = 6) && decide (d = 6)) = false := by simp [hb, hb2]
          rw [e]
          clear e hb hb2
          go_enter Tryd.func103, Tryd.ntmps103
          go_wp2
          go_quiet (fail)
          go_wp2
          go_ret
          exact ⟨rfl, bdrew ((Below.refl _ _).alloc (Nat.le_refl _) _) _⟩
end Go.Proofs.YthjooopppidcfaaDoor

/- Layer 3: the program's isWordy, isSpace, wordAt. -/
namespace Go.Proofs.YthjooopppidcfaaDoor
open Go.RowKit
open Gc (Span)

set_option maxRecDepth 100000 in
theorem isWordy_any (x : Int) (w : World) : Calls Tryd.prog 79 #[.int .i64 x] w fun e w' => e = .returned (.bool (Sg.wordy x)) ∧ w = w' := by
  unfold Sg.wordy
  by_cases h1 : x = 5
  · subst h1
    go_enter Tryd.func79, Tryd.ntmps79
    go_wp2
    go_ret
    exact ⟨rfl, rfl⟩
  · by_cases h2 : x = 6
    · subst h2
      go_enter Tryd.func79, Tryd.ntmps79
      go_wp2
      go_ret
      exact ⟨rfl, rfl⟩
    · rw [decide_eq_false h1, decide_eq_false h2]
      have k1 := neB h1
      have k2 := neB h2
      clear h1 h2
      go_enter Tryd.func79, Tryd.ntmps79
      go_wp2
      go_ret
      exact ⟨rfl, rfl⟩
set_option maxRecDepth 100000 in
theorem isSpace_any (x : Int) (w : World) : Calls Tryd.prog 86 #[.int .i64 x] w fun e w' => e = .returned (.bool (Sg.spacy x)) ∧ w = w' := by
  unfold Sg.spacy
  by_cases h1 : x = 2
  · subst h1
    go_enter Tryd.func86, Tryd.ntmps86
    go_wp2
    go_ret
    exact ⟨rfl, rfl⟩
  · by_cases h2 : x = 3
    · subst h2
      go_enter Tryd.func86, Tryd.ntmps86
      go_wp2
      go_ret
      exact ⟨rfl, rfl⟩
    · rw [decide_eq_false h1, decide_eq_false h2]
      have k1 := neB h1
      have k2 := neB h2
      clear h1 h2
      go_enter Tryd.func86, Tryd.ntmps86
      go_wp2
      go_ret
      exact ⟨rfl, rfl⟩

theorem lett_next (c : List Int) (i j : Nat) (h : i ≤ j) : Sg.lett c i (j + 1) = (Sg.lett c i j || decide (Sg.cat c j = 5)) := by
  rw [Sg.lett, decide_eq_true h, Bool.true_and]

def Pair (a b : Int) (w : World) (e : Ending) (w' : World) : Prop := e = .returned (.tuple #[.int .i64 a, .int .i64 b]) ∧ Below w.heap.size w w'
def kindOf (c : List Int) (i j : Nat) : Int := if Sg.lett c i j then 1 else 2
theorem kindOf_start (c : List Int) (i : Nat) : kindOf c i i = 2 := by unfold kindOf; rw [Sg.lett_false c i i (Nat.le_refl _)]; rfl
theorem kindOf_five (c : List Int) (i j : Nat) (h : i ≤ j) (h5 : Sg.cat c j = 5) : kindOf c i (j + 1) = 1 := by unfold kindOf; rw [lett_next c i j h, decide_eq_true h5]; simp
theorem kindOf_not (c : List Int) (i j : Nat) (h : i ≤ j) (h5 : Sg.cat c j ≠ 5) : kindOf c i (j + 1) = kindOf c i j := by unfold kindOf; rw [lett_next c i j h, decide_eq_false h5, Bool.or_false]

/-- The cells of a text's box. -/
theorem box_cells {w wr : World} {pv cv : Value} {n : Nat} (hb : Below n (w.alloc (.cells #[pv, cv] 71)) wr) (hn : n = w.heap.size + 1) : wr.cell? ⟨w.heap.size, 0, none⟩ = some pv ∧ wr.cell? ⟨w.heap.size, 1, none⟩ = some cv := by
  subst hn
  refine ⟨(hb.cell (p := ⟨w.heap.size, 0, none⟩) (Nat.lt_succ_self _)).trans ?_, (hb.cell (p := ⟨w.heap.size, 1, none⟩) (Nat.lt_succ_self _)).trans ?_⟩
  · simp
  · simp

set_option maxRecDepth 100000 in
set_option maxHeartbeats 4000000 in
theorem wordAt_any (C : List Span) (g cap pn pc : Nat) (pa : Option Addr) (i : Nat) (w : World) (hi : i < C.length) (hl : C.length ≤ 1000) (R : Row w g C) :
    Calls Tryd.prog 85 #[.agg #[.slice pa pn pc, .slice (some ⟨g, 0, none⟩) C.length cap], .int .i64 i] w
      (Pair (kindOf (Cls C) i (Sg.runTo (Sg.inside (Cls C)) C.length i)) (Sg.runTo (Sg.inside (Cls C)) C.length i : Nat) w) := by
  have hg := R.1
  obtain ⟨n, hn⟩ : ∃ n, C.length = n := ⟨_, rfl⟩
  have cj := fun k w' (hk : k < C.length) (R' : Row w' g C) => joins_any C g cap pn pc pa k w' hk hl R'
  rw [hn] at hi hl cj ⊢
  have NN := Go.Lib.hid hn
  have RR := Go.Lib.hid R
  clear hn R
  obtain ⟨w1, hw1⟩ : ∃ w1, w.alloc (.cells #[.slice pa pn pc, .slice (some ⟨g, 0, none⟩) n cap] 71) = w1 := ⟨_, rfl⟩
  have W1 := Go.Lib.hid hw1
  clear hw1
  go_enter Tryd.func85, Tryd.ntmps85
  go_wp2
  go_loopw [4, 5] (fun s4 s5 wr => ∃ (j : Nat) (kd : Int), i ≤ j ∧ j ≤ n ∧ s5 = .int .i64 (j : Nat) ∧ s4 = .int .i64 kd ∧ Hid (Below (w.heap.size + 1) w1 wr) ∧ Hid (kd = kindOf (Cls C) i j ∧ Sg.runTo (Sg.inside (Cls C)) n i = Sg.runTo (Sg.inside (Cls C)) n j))
    (fun _ s5 _ => n - (intOf s5).toNat)
  case atStart => exact ⟨i, 2, Nat.le_refl _, by omega, rfl, rfl, Go.Lib.hid (by rw [W1.out]; exact Below.refl _ _), Go.Lib.hid ⟨(kindOf_start _ _).symm, rfl⟩⟩
  case round =>
    obtain ⟨j, kd, hij, hjn, rfl, rfl, HB, I⟩ := hrel
    have hb0 := HB.out
    rw [← W1.out] at hb0
    obtain ⟨hx0, hx1⟩ := box_cells hb0 rfl
    have hsz := HB.out.size
    rw [← W1.out, World.size_alloc] at hsz
    have hbw : Below w.heap.size w wr := ((Below.refl _ w).alloc (Nat.le_refl _) _).trans (hb0.mono (Nat.le_succ _))
    have HBW := Go.Lib.hid hbw
    clear hb0
    have hgr : g < wr.heap.size := by omega
    have hwx : w.heap.size < wr.heap.size := hsz
    by_cases hlt : j < n
    · have hlt' : j < C.length := by rw [NN.out]; exact hlt
      have c0 := (hbw.cell (p := ⟨g, j * 3, none⟩) hg).trans (RR.out.2 j hlt').1
      have hcat := cat_at C j hlt'
      generalize C[j].1 = a at c0 hcat
      have CAT := Go.Lib.hid hcat
      have Rr := Go.Lib.hid (RR.out.below hbw hg)
      clear hcat hbw
      have cw := isWordy_any a
      have cjj := cj j wr hlt Rr.out
      cases hw : Sg.wordy a with
      | true =>
        rw [hw] at cw
        have hin : Sg.inside (Cls C) j = true := by unfold Sg.inside; rw [CAT.out, hw]; rfl
        have IN := Go.Lib.hid hin
        clear hin hw cjj
        by_cases h5 : a = 5
        · subst h5
          go_wp2_with (go_at_call 79; refine (cw _).mono ?_; rintro e w' ⟨rfl, rfl⟩)
          go_roundw
          case rel => exact ⟨j + 1, 1, by omega, by omega, by go_num, rfl, HB, Go.Lib.hid ⟨(kindOf_five _ _ _ hij CAT.out).symm, I.out.2.trans (Sg.runTo_go hlt IN.out)⟩⟩
          case measure => simp [intOf]; omega
        · have k5 := neB h5
          go_wp2_with (go_at_call 79; refine (cw _).mono ?_; rintro e w' ⟨rfl, rfl⟩)
          go_roundw
          case rel => exact ⟨j + 1, kd, by omega, by omega, by go_num, rfl, HB, Go.Lib.hid ⟨I.out.1.trans (kindOf_not _ _ _ hij (by rw [CAT.out]; exact h5)).symm, I.out.2.trans (Sg.runTo_go hlt IN.out)⟩⟩
          case measure => simp [intOf]; omega
      | false =>
        rw [hw] at cw
        have h5 : a ≠ 5 := by rintro rfl; exact absurd hw (by decide)
        have k5 := neB h5
        have hin : Sg.inside (Cls C) j = Sg.joins (Cls C) j := by unfold Sg.inside; rw [CAT.out, hw]; rfl
        have IN := Go.Lib.hid hin
        clear hin hw
        cases hj : Sg.joins (Cls C) j with
        | true =>
          rw [hj] at cjj
          have HJ := Go.Lib.hid hj
          clear hj
          go_wp2_with (first | (go_at_call 79; refine (cw _).mono ?_; rintro e w' ⟨rfl, rfl⟩) | (go_at_call 103; (with_reducible refine cjj.mono ?_); rintro e w2 ⟨rfl, hb2⟩; (have B2 := Go.Lib.hid (HB.out.trans (hb2.mono hsz)); have hx02 := (hb2.cell (p := ⟨w.heap.size, 0, none⟩) hwx).trans hx0; have hx12 := (hb2.cell (p := ⟨w.heap.size, 1, none⟩) hwx).trans hx1; have c02 := (hb2.cell (p := ⟨g, j * 3, none⟩) hgr).trans c0)))
          go_roundw
          case rel => exact ⟨j + 1, kd, by omega, by omega, by go_num, rfl, B2, Go.Lib.hid ⟨I.out.1.trans (kindOf_not _ _ _ hij (by rw [CAT.out]; exact h5)).symm, I.out.2.trans (Sg.runTo_go hlt (IN.out.trans HJ.out))⟩⟩
          case measure => simp [intOf]; omega
        | false =>
          rw [hj] at cjj
          have HJ := Go.Lib.hid hj
          clear hj
          go_wp2_with (first | (go_at_call 79; refine (cw _).mono ?_; rintro e w' ⟨rfl, rfl⟩) | (go_at_call 103; (with_reducible refine cjj.mono ?_); rintro e w2 ⟨rfl, hb2⟩))
          go_ret2
          have hst : Sg.runTo (Sg.inside (Cls C)) n i = j := I.out.2.trans (Sg.runTo_stop (fun h => by rw [IN.out, HJ.out] at h; cases h.2))
          rw [hst, ← I.out.1]
          exact ⟨rfl, HBW.out.trans (hb2.mono (by omega))⟩
    · have hje : j = n := by omega
      have hst : Sg.runTo (Sg.inside (Cls C)) n i = j := I.out.2.trans (Sg.runTo_stop (fun h => hlt h.1))
      have ST := Go.Lib.hid hst
      clear hst
      go_wp2
      go_ret2
      rw [ST.out, ← I.out.1]
      exact ⟨rfl, hbw⟩
end Go.Proofs.YthjooopppidcfaaDoor

/- Layer 3: the program's tokenAt. -/
namespace Go.Proofs.YthjooopppidcfaaDoor
open Go.RowKit
open Gc (Span)

theorem runTo_first {c : List Int} {i n : Nat} (h : i < n) (hin : Sg.inside c i = true) : Sg.runTo (Sg.inside c) n i = Sg.runTo (Sg.inside c) n (i + 1) := Sg.runTo_go h hin

theorem ret_pair {a b c : Int} (h : b = c) : Ending.returned (.tuple #[.int .i64 a, .int .i64 b]) = .returned (.tuple #[.int .i64 a, .int .i64 c]) := by rw [h]

set_option maxRecDepth 100000 in
set_option maxHeartbeats 4000000 in
theorem tokenAt_any (C : List Span) (g cap pn pc : Nat) (pa : Option Addr) (i : Nat) (w : World) (hi : i < C.length) (hl : C.length ≤ 1000) (R : Row w g C) :
    Calls Tryd.prog 60 #[.agg #[.slice pa pn pc, .slice (some ⟨g, 0, none⟩) C.length cap], .int .i64 i] w
      (Pair (Sg.tokKind (Cls C) i) (Sg.tokEnd (Cls C) i : Nat) w) := by
  have hg := R.1
  have hcat := cat_at C i hi
  have c0 := (R.2 i hi).1
  generalize C[i].1 = a at hcat c0
  obtain ⟨n, hn⟩ : ∃ n, C.length = n := ⟨_, rfl⟩
  have ca := fun w' (R' : Row w' g C) => wordAt_any C g cap pn pc pa i w' hi hl R'
  have hwE : Sg.wordy a = true → Sg.tokEnd (Cls C) i = Sg.runTo (Sg.inside (Cls C)) C.length i := fun h => by
    unfold Sg.tokEnd
    rw [hcat, if_pos h, cls_len]
    exact (Sg.runTo_go hi (by unfold Sg.inside; rw [hcat, h]; rfl)).symm
  have hwK : Sg.wordy a = true → Sg.tokKind (Cls C) i = kindOf (Cls C) i (Sg.tokEnd (Cls C) i) := fun h => by
    unfold Sg.tokKind
    rw [hcat, if_pos h]; rfl
  have hsE : Sg.wordy a = false → Sg.spacy a = true → Sg.tokEnd (Cls C) i = Sg.runTo (fun k => Sg.spacy (Sg.cat (Cls C) k)) n (i + 1) := fun h h2 => by
    unfold Sg.tokEnd
    rw [hcat, if_neg (by rw [h]; simp), if_pos h2, cls_len, hn]
  have hsK : Sg.wordy a = false → Sg.spacy a = true → Sg.tokKind (Cls C) i = 3 := fun h h2 => by
    unfold Sg.tokKind
    rw [hcat, if_neg (by rw [h]; simp), if_pos h2]
  have hoE : Sg.wordy a = false → Sg.spacy a = false → Sg.tokEnd (Cls C) i = i + 1 := fun h h2 => by
    unfold Sg.tokEnd
    rw [hcat, if_neg (by rw [h]; simp), if_neg (by rw [h2]; simp)]
  have hoK : Sg.wordy a = false → Sg.spacy a = false → Sg.tokKind (Cls C) i = if a = 1 then 6 else if a = 7 then 5 else 4 := fun h h2 => by
    unfold Sg.tokKind
    rw [hcat, if_neg (by rw [h]; simp), if_neg (by rw [h2]; simp)]
  rw [hn] at hi hl ca hwE ⊢
  have NN := Go.Lib.hid hn
  have RR := Go.Lib.hid R
  clear hn R hcat
  obtain ⟨w1, hw1⟩ : ∃ w1, w.alloc (.cells #[.slice pa pn pc, .slice (some ⟨g, 0, none⟩) n cap] 71) = w1 := ⟨_, rfl⟩
  have W1 := Go.Lib.hid hw1
  have hb1 : Below w.heap.size w w1 := by rw [← hw1]; exact (Below.refl _ _).alloc (Nat.le_refl _) _
  have B1 := Go.Lib.hid hb1
  have R1 := Go.Lib.hid (RR.out.below hb1 hg)
  clear hw1 hb1
  by_cases hw : a = 5 ∨ a = 6
  · have hwt : Sg.wordy a = true := by unfold Sg.wordy; rcases hw with rfl | rfl <;> rfl
    rw [hwK hwt, hwE hwt]
    clear hwE hwK hsE hsK hoE hoK hwt
    have ca1 := ca w1 R1.out
    generalize kindOf (Cls C) i (Sg.runTo (Sg.inside (Cls C)) n i) = kd at ca1 ⊢
    generalize Sg.runTo (Sg.inside (Cls C)) n i = en at ca1 ⊢
    clear ca
    rw [← W1.out] at ca1
    rcases hw with rfl | rfl
    all_goals
      go_enter Tryd.func60, Tryd.ntmps60
      go_wp2_with (go_at_call 85; (with_reducible refine ca1.mono ?_); rintro e w2 ⟨rfl, hb2⟩)
      go_ret2
      exact ⟨rfl, ((Below.refl _ w).alloc (Nat.le_refl _) _).trans (hb2.mono (by simp))⟩
  · have k5 : (a == 5) = false := neB (fun h => hw (.inl h))
    have k6 : (a == 6) = false := neB (fun h => hw (.inr h))
    have hwf : Sg.wordy a = false := by unfold Sg.wordy; rw [decide_eq_false (fun h => hw (.inl h)), decide_eq_false (fun h => hw (.inr h))]; rfl
    clear ca hw
    by_cases hs : a = 2 ∨ a = 3
    · have hst : Sg.spacy a = true := by unfold Sg.spacy; rcases hs with rfl | rfl <;> rfl
      rw [hsK hwf hst, hsE hwf hst]
      clear hwE hwK hsE hsK hoE hoK hst hwf
      rcases hs with rfl | rfl
      all_goals
        clear k5 k6
        go_enter Tryd.func60, Tryd.ntmps60
        go_wp2
        go_loopw [5] (fun s5 wr => ∃ j : Nat, i + 1 ≤ j ∧ j ≤ n ∧ s5 = .int .i64 (j : Nat) ∧ Hid (Below (w.heap.size + 1) w1 wr) ∧ Hid (Sg.runTo (fun k => Sg.spacy (Sg.cat (Cls C) k)) n (i + 1) = Sg.runTo (fun k => Sg.spacy (Sg.cat (Cls C) k)) n j))
          (fun s5 _ => n - (intOf s5).toNat)
        case atStart => exact ⟨i + 1, Nat.le_refl _, by omega, by go_num, Go.Lib.hid (by rw [W1.out]; exact Below.refl _ _), Go.Lib.hid rfl⟩
        case round =>
          clear c0
          obtain ⟨j, hij, hjn, rfl, HB, I⟩ := hrel
          have hb0 := HB.out
          rw [← W1.out] at hb0
          obtain ⟨hx0, hx1⟩ := box_cells hb0 rfl
          have hbw : Below w.heap.size w wr := ((Below.refl _ w).alloc (Nat.le_refl _) _).trans (hb0.mono (Nat.le_succ _))
          have HBW := Go.Lib.hid hbw
          clear hb0
          by_cases hlt : j < n
          · have hlt' : j < C.length := by rw [NN.out]; exact hlt
            have c0 := (hbw.cell (p := ⟨g, j * 3, none⟩) hg).trans (RR.out.2 j hlt').1
            have hcat := cat_at C j hlt'
            generalize C[j].1 = a at c0 hcat
            have CAT := Go.Lib.hid hcat
            have cw := isSpace_any a
            clear hcat hbw
            cases hw : Sg.spacy a with
            | true =>
              rw [hw] at cw
              have hgo := Sg.runTo_go (p := fun k => Sg.spacy (Sg.cat (Cls C) k)) hlt (by rw [CAT.out]; exact hw)
              have GO := Go.Lib.hid (I.out.trans hgo)
              clear hgo hw
              go_wp2_with (go_at_call 86; refine (cw _).mono ?_; rintro e w' ⟨rfl, rfl⟩)
              go_roundw
              case rel => exact ⟨j + 1, by omega, by omega, by go_num, HB, GO⟩
              case measure => simp [intOf]; omega
            | false =>
              rw [hw] at cw
              have hgo := Sg.runTo_stop (p := fun k => Sg.spacy (Sg.cat (Cls C) k)) (n := n) (k := j) (fun h => by have := h.2; rw [CAT.out, hw] at this; cases this)
              have GO := Go.Lib.hid (I.out.trans hgo)
              clear hgo hw
              go_wp2_with (go_at_call 86; refine (cw _).mono ?_; rintro e w' ⟨rfl, rfl⟩)
              go_ret2
              rw [GO.out]
              exact ⟨rfl, HBW.out⟩
          · have hgo := Sg.runTo_stop (p := fun k => Sg.spacy (Sg.cat (Cls C) k)) (n := n) (k := j) (fun h => hlt h.1)
            have GO := Go.Lib.hid (I.out.trans hgo)
            clear hgo hbw
            go_wp2
            go_ret2
            rw [GO.out]
            exact ⟨rfl, HBW.out⟩
    · have k2 : (a == 2) = false := neB (fun h => hs (.inl h))
      have k3 : (a == 3) = false := neB (fun h => hs (.inr h))
      have hsf : Sg.spacy a = false := by unfold Sg.spacy; rw [decide_eq_false (fun h => hs (.inl h)), decide_eq_false (fun h => hs (.inr h))]; rfl
      rw [hoK hwf hsf, hoE hwf hsf]
      clear hwE hwK hsE hsK hoE hoK hwf hsf hs
      by_cases h1 : a = 1
      · subst h1
        rw [if_pos rfl]
        go_enter Tryd.func60, Tryd.ntmps60
        go_wp2
        go_ret2
        exact ⟨ret_pair (by omega), (Below.refl _ _).alloc (Nat.le_refl _) _⟩
      · rw [if_neg h1]
        have k1 := neB h1
        clear h1
        by_cases h7 : a = 7
        · subst h7
          rw [if_pos rfl]
          go_enter Tryd.func60, Tryd.ntmps60
          go_wp2
          go_ret2
          exact ⟨ret_pair (by omega), (Below.refl _ _).alloc (Nat.le_refl _) _⟩
        · rw [if_neg h7]
          have k7 := neB h7
          clear h7
          go_enter Tryd.func60, Tryd.ntmps60
          go_wp2
          go_ret2
          exact ⟨ret_pair (by omega), (Below.refl _ _).alloc (Nat.le_refl _) _⟩
end Go.Proofs.YthjooopppidcfaaDoor
