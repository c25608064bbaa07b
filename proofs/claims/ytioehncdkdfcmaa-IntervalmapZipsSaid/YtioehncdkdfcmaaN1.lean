/- Layer 5: Clone, Equal. -/
import Derived.Test.YtioehncdkdfcmaaP1
import Derived.Deep.RegionHeld3
namespace Go.Proofs.Ytioehncdkdfcmaa
open Go.RowKit Go.Lib Im

theorem ret_bool' {a b : Bool} (h : a = b) : Ending.returned (.bool a) = .returned (.bool b) := by rw [h]
def EqB (v : Bool) (w : World) (e : Ending) (w' : World) : Prop := e = .returned (.bool v) ∧ Below w.heap.size w w'
set_option maxRecDepth 100000 in
set_option maxHeartbeats 8000000 in
theorem slequal_any (A B : Option Addr) (n m c d : Nat) (l l' : List Rn) (hl : l.length = n) (hl' : l'.length = m) (hc : n ≤ c ∧ c ≤ maxLen) (hd : m ≤ d ∧ d ≤ maxLen) (w : World) (hA : RnAt w A l) (hB : RnAt w B l') :
    Calls Try.prog 46 #[.slice A n c, .slice B m d] w (EqB (decide (l = l')) w) := by
  have HL := Go.Lib.hid hl
  have HL' := Go.Lib.hid hl'
  obtain ⟨hc1, hc2⟩ := hc
  obtain ⟨hd1, hd2⟩ := hd
  unfold maxLen at hc2 hd2
  have HA := Go.Lib.hid hA
  have HB := Go.Lib.hid hB
  clear hl hl' hA hB
  by_cases hnm : n = m
  · subst hnm
    go_enter Try.func46, Try.ntmps46
    go_wp2
    go_loopw [13] (fun i wr => ∃ k : Nat, k ≤ n ∧ i = .int .i64 k ∧ Hid (Below w.heap.size w wr) ∧ Hid (∀ j (h : j < l.length) (h' : j < l'.length), j < k → l[j] = l'[j])) (fun i _ => n - (RowKit.intOf i).toNat)
    case atStart => exact ⟨0, Nat.zero_le _, rfl, Go.Lib.hid (Below.refl _ _), Go.Lib.hid fun j _ _ h => by omega⟩
    case round =>
      obtain ⟨k, hk, rfl, HW, HN⟩ := hrel
      by_cases hlt : k < n
      · have hkl : k < l.length := by rw [HL.out]; exact hlt
        have hkl' : k < l'.length := by rw [HL'.out]; exact hlt
        rcases HA.out with hA0 | ⟨g, o, rfl, hg, hcl⟩
        · rw [hA0] at hkl; exact absurd hkl (Nat.not_lt_zero _)
        rcases HB.out with hB0 | ⟨g', o', rfl, hg', hcl'⟩
        · rw [hB0] at hkl'; exact absurd hkl' (Nat.not_lt_zero _)
        obtain ⟨a0, a1, a2⟩ := hcl k hkl
        obtain ⟨b0, b1, b2⟩ := hcl' k hkl'
        have c0 := (HW.out.cell (p := ⟨g, o + k * 3, none⟩) hg).trans a0
        have c1 := (HW.out.cell (p := ⟨g, o + k * 3 + 1, none⟩) hg).trans a1
        have c2 := (HW.out.cell (p := ⟨g, o + k * 3 + 2, none⟩) hg).trans a2
        have d0 := (HW.out.cell (p := ⟨g', o' + k * 3, none⟩) hg').trans b0
        have d1 := (HW.out.cell (p := ⟨g', o' + k * 3 + 1, none⟩) hg').trans b1
        have d2 := (HW.out.cell (p := ⟨g', o' + k * 3 + 2, none⟩) hg').trans b2
        have HS := Go.Lib.hid (fun (he : l[k] = l'[k]) j (h : j < l.length) (h' : j < l'.length) (hj : j < k + 1) => if e : j = k then by subst e; exact he else HN.out j h h' (by omega))
        have HD := Go.Lib.hid (fun (he : l[k] ≠ l'[k]) => show decide (l = l') = false from decide_eq_false fun h => he (by subst h; rfl))
        clear hcl hcl' a0 a1 a2 b0 b1 b2
        generalize l[k] = x at c0 c1 c2 HS HD
        generalize l'[k] = y at d0 d1 d2 HS HD
        obtain ⟨xa, xb, xc⟩ := x
        obtain ⟨ya, yb, yc⟩ := y
        dsimp only at c0 c1 c2 d0 d1 d2
        have q1 : (0 : Int) ≤ (k : Int) := by omega
        have q2 : (k : Int) < (n : Int) := by omega
        by_cases h1 : xa = ya
        · by_cases h2 : xb = yb
          · by_cases h3 : xc = yc
            · have e1 : (xa == ya) = true := by simpa using h1
              have e2 : (xb == yb) = true := by simpa using h2
              have e3 : (xc == yc) = true := by simpa using h3
              have HE := Go.Lib.hid (show (xa, xb, xc) = (ya, yb, yc) by rw [h1, h2, h3])
              clear h1 h2 h3
              go_wp2
              go_quiet (fail)
              go_wp2
              go_roundw
              case rel => exact ⟨k + 1, by omega, by go_num, Go.Lib.hid (bdrew HW.out _), Go.Lib.hid (HS.out HE.out)⟩
              case measure => simp [RowKit.intOf]; omega
            · have e1 : (xa == ya) = true := by simpa using h1
              have e2 : (xb == yb) = true := by simpa using h2
              have e3 : (xc == yc) = false := by simpa using h3
              have HE := Go.Lib.hid (show (xa, xb, xc) ≠ (ya, yb, yc) from fun h => h3 (congrArg (fun z => z.2.2) h))
              clear h1 h2 h3
              go_wp2
              go_quiet (fail)
              go_wp2
              go_ret
              exact ⟨ret_bool' (HD.out HE.out).symm, bdrew HW.out _⟩
          · have e1 : (xa == ya) = true := by simpa using h1
            have e2 : (xb == yb) = false := by simpa using h2
            have HE := Go.Lib.hid (show (xa, xb, xc) ≠ (ya, yb, yc) from fun h => h2 (congrArg (fun z => z.2.1) h))
            clear h1 h2
            go_wp2
            go_quiet (fail)
            go_wp2
            go_ret
            exact ⟨ret_bool' (HD.out HE.out).symm, bdrew HW.out _⟩
        · have e1 : (xa == ya) = false := by simpa using h1
          have HE := Go.Lib.hid (show (xa, xb, xc) ≠ (ya, yb, yc) from fun h => h1 (congrArg (fun z => z.1) h))
          clear h1
          go_wp2
          go_quiet (fail)
          go_wp2
          go_ret
          exact ⟨ret_bool' (HD.out HE.out).symm, bdrew HW.out _⟩
      · obtain rfl : n = k := by omega
        have hE : l = l' := List.ext_getElem (by rw [HL.out, HL'.out]) fun j h h' => HN.out j h h' (by rw [HL.out] at h; exact h)
        have HE := Go.Lib.hid (show true = decide (l = l') from (decide_eq_true hE).symm)
        clear hE
        go_wp2
        go_ret
        exact ⟨ret_bool' HE.out, HW.out⟩
  · have HE := Go.Lib.hid (show false = decide (l = l') from (decide_eq_false fun h => hnm (by rw [← HL.out, ← HL'.out, h])).symm)
    go_enter Try.func46, Try.ntmps46
    go_wp2
    go_ret
    exact ⟨ret_bool' HE.out, Below.refl _ _⟩
theorem runs_inj (l l' : List Int) : decide (runs l = runs l') = decide (l = l') := by
  by_cases h : l = l'
  · subst h; simp
  · rw [decide_eq_false h, decide_eq_false]
    intro e
    have := congrArg vals e
    rw [(runs_ok l).2.2, (runs_ok l').2.2] at this
    exact h this
set_option maxRecDepth 100000 in
set_option maxHeartbeats 8000000 in
theorem equal_any (b g b' g' : Nat) (l l' : List Int) (w : World) (h : MpG w b g (runs l)) (h' : MpG w b' g' (runs l')) : Calls Try.prog 28 #[.pointer (some ⟨b, 0, none⟩), .pointer (some ⟨b', 0, none⟩)] w (EqB (decide (l = l')) w) := by
  obtain ⟨A, c, x1, x2, x3, x4, x5⟩ := mpG_open h
  obtain ⟨B, d, y1, y2, y3, y4, y5⟩ := mpG_open h'
  have cE := fun w' (hA : RnAt w' A (runs l)) (hB : RnAt w' B (runs l')) => slequal_any A B _ _ c d (runs l) (runs l') rfl rfl ⟨x3, x4⟩ ⟨y3, y4⟩ w' hA hB
  unfold EqB at cE
  rw [runs_inj] at cE
  obtain ⟨n, hn⟩ : ∃ n, (runs l).length = n := ⟨_, rfl⟩
  obtain ⟨m, hm⟩ : ∃ m, (runs l').length = m := ⟨_, rfl⟩
  rw [hn, hm] at cE
  rw [hn] at x1
  rw [hm] at y1
  have hc := x1.cell
  have hd := y1.cell
  have X2 := Go.Lib.hid x2
  have Y2 := Go.Lib.hid y2
  have cE1 := cE w.drew X2.out Y2.out
  have HX := Go.Lib.hid x1.lt
  have HY := Go.Lib.hid y1.lt
  clear cE h h' x1 x2 x3 x4 x5 y1 y2 y3 y4 y5 hn hm
  generalize decide (l = l') = v at cE1
  go_enter Try.func28, Try.ntmps28
  go_wp2_with fail
  go_region_held3 (fun w' => w'.cell? ⟨b, 0, none⟩ = some (.slice A n c) ∧ w'.cell? ⟨b', 0, none⟩ = some (.slice B m d))
    (first
      | go_keep
      | (go_split_ands
         refine ⟨?_, ?_⟩
         · (exact (hb1.cell (p := ⟨b, 0, none⟩) HX.out).trans hc)
         · (exact (hb1.cell (p := ⟨b', 0, none⟩) HY.out).trans hd)))
    ((go_at_call 46; (with_reducible refine cE1.mono ?_); rintro e w1 ⟨rfl, hb1⟩))
  all_goals
    go_wp2
    go_ret
    exact ⟨rfl, (bdrew1 (Below.refl w.heap.size w)).trans hb1⟩

/-- A copy. -/
def CloneR (w : World) (l : List Int) (e : Ending) (w' : World) : Prop := ∃ b, e = .returned (.pointer (some ⟨b, 0, none⟩)) ∧ NewM w l b w'
set_option maxRecDepth 100000 in
set_option maxHeartbeats 4000000 in
theorem clone_any (b g : Nat) (l : List Int) (w : World) (h : MpG w b g (runs l)) (hs : l.length ≤ 1000000) : Calls Try.prog 26 #[.pointer (some ⟨b, 0, none⟩)] w (CloneR w l) := by
  obtain ⟨A, c, x1, x2, x3, x4, x5⟩ := mpG_open h
  have := runs_len l
  have cC := slclone_any A (runs l).length c (runs l) rfl ⟨x3, x4⟩ (by omega) w x2
  have hbc := x1.cell
  unfold OwnRet at cC
  clear h x1 x2 x3 x4 x5
  go_enter Try.func26, Try.ntmps26
  go_wp2_with (go_at_call 39; (with_reducible refine cC.mono ?_); rintro e w1 ⟨B, cb, rfl, hown, hb1⟩)
  go_ret
  obtain ⟨g', k1, k2, k3⟩ := own_G (w := w1.alloc (.cells #[.slice B (runs l).length cb] 84)) (base := w.heap.size) (b := w1.heap.size) (R := runs l) ⟨_, hb1.size, Boxed.new w1 84 _, hown.alloc _⟩
  exact ⟨w1.heap.size, rfl, g', k3, hb1.size, k1, by simp, k2, hb1.alloc hb1.size _⟩
end Go.Proofs.Ytioehncdkdfcmaa
