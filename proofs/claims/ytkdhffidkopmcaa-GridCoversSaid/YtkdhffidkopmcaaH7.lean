/- Layer 12: the law's inside (24); Cover (23) on what is no area of the grid. -/
import Derived.Test.YtkdhffidkopmcaaH3
import Derived.Test.YtkdhffidkopmcaaL5
import Derived.Test.YtkdhffidkopmcaaB2
namespace Go.Proofs.Ytkdhffidkopmcaa
open Go.RowKit Go.Lib Go.Maps
set_option linter.unusedVariables false

/-- An area of the grid. -/
def Ins (t l b r : Int) (N wd : Nat) : Prop := 0 ≤ t ∧ t < b ∧ b ≤ (N : Int) ∧ 0 ≤ l ∧ l < r ∧ r ≤ (wd : Int)

attribute [local irreducible] wpQuiet in
set_option maxRecDepth 100000 in
set_option maxHeartbeats 16000000 in
theorem inside_any (T : List (List Cl)) (hT : GoodT T) (A : Option Addr) (N c : Nat) (hN : T.length = N) (hc : N ≤ c ∧ c ≤ maxLen) (t l b r : Int) (w : World) (hA : TbAt w A T) :
    Calls Try.prog 24 #[.slice A N c, arV t l b r] w fun e w' => BoolP (Ins t l b r N (wdt (plT T))) e ∧ Below w.heap.size w w' := by
  unfold arV
  have hB : Below w.heap.size w (w.alloc (.cells #[.int .i64 t, .int .i64 l, .int .i64 b, .int .i64 r] 48)) := (Below.refl _ w).alloc (Nat.le_refl _) _
  have o1 := ObjAt.new w #[.int .i64 t, .int .i64 l, .int .i64 b, .int .i64 r] 48
  have cW := Go.Lib.hid (fun w' (hb : Below w.heap.size w w') => width_any T hT A N c hN hc w' (hA.below hb))
  have O1 := Go.Lib.hid o1
  have hc1 := hc.1
  have hc2 := hc.2
  unfold maxLen at hc2
  have HB := Go.Lib.hid hB
  clear hA hT hN hc o1
  generalize wdt (plT T) = wd at *
  have hsz := hB.size
  clear hB
  by_cases h0 : 0 ≤ t
  case neg =>
    have d0 : decide (0 ≤ t) = false := decide_eq_false h0
    have HX := Go.Lib.hid (BoolP.no (show ¬ Ins t l b r N wd from fun h => by unfold Ins at h; omega))
    go_enter Try.func24, Try.ntmps24
    go_wp2_with fail
    generalize w.alloc (.cells #[.int .i64 t, .int .i64 l, .int .i64 b, .int .i64 r] 48) = W at *
    have y0F : ∀ p : Bw W, p.w.cell? ⟨w.heap.size, 0, none⟩ = some (.int .i64 t) := fun p => (O1.out.below p.h).e0
    have y1F : ∀ p : Bw W, p.w.cell? ⟨w.heap.size, 1, none⟩ = some (.int .i64 l) := fun p => (O1.out.below p.h).e1
    have y2F : ∀ p : Bw W, p.w.cell? ⟨w.heap.size, 2, none⟩ = some (.int .i64 b) := fun p => (O1.out.below p.h).e2
    have y3F : ∀ p : Bw W, p.w.cell? ⟨w.heap.size, 3, none⟩ = some (.int .i64 r) := fun p => (O1.out.below p.h).e3
    refine wp_region_bw (W := W) (by kernel_rfl) (by kernel_rfl) (by first | exact Below.refl _ _ | exact (Below.refl _ _).drew) ?_
    repeat (quiet_step (first
      | (go_at_call 16; exact bw_of (fun p => cW.out p.w (HB.out.trans (p.h.mono hsz))) _)
      | fail))
    refine wpQuiet_nil ?_
    intro w2 hw'
    have kk : Below W.heap.size W w2 := by obtain ⟨p2, rfl⟩ := hw'; exact p2.h
    have KZ := Go.Lib.hid (HB.out.trans (kk.mono hsz))
    clear hw' y0F y1F y2F y3F
    clear kk
    go_wp2
    go_ret
    exact ⟨by simpa using HX.out, KZ.out⟩
  have d0 : decide (0 ≤ t) = true := decide_eq_true h0
  by_cases h1 : t < b
  case neg =>
    have d1 : decide (t < b) = false := decide_eq_false h1
    have HX := Go.Lib.hid (BoolP.no (show ¬ Ins t l b r N wd from fun h => by unfold Ins at h; omega))
    go_enter Try.func24, Try.ntmps24
    go_wp2_with fail
    generalize w.alloc (.cells #[.int .i64 t, .int .i64 l, .int .i64 b, .int .i64 r] 48) = W at *
    have y0F : ∀ p : Bw W, p.w.cell? ⟨w.heap.size, 0, none⟩ = some (.int .i64 t) := fun p => (O1.out.below p.h).e0
    have y1F : ∀ p : Bw W, p.w.cell? ⟨w.heap.size, 1, none⟩ = some (.int .i64 l) := fun p => (O1.out.below p.h).e1
    have y2F : ∀ p : Bw W, p.w.cell? ⟨w.heap.size, 2, none⟩ = some (.int .i64 b) := fun p => (O1.out.below p.h).e2
    have y3F : ∀ p : Bw W, p.w.cell? ⟨w.heap.size, 3, none⟩ = some (.int .i64 r) := fun p => (O1.out.below p.h).e3
    refine wp_region_bw (W := W) (by kernel_rfl) (by kernel_rfl) (by first | exact Below.refl _ _ | exact (Below.refl _ _).drew) ?_
    repeat (quiet_step (first
      | (go_at_call 16; exact bw_of (fun p => cW.out p.w (HB.out.trans (p.h.mono hsz))) _)
      | fail))
    refine wpQuiet_nil ?_
    intro w2 hw'
    have kk : Below W.heap.size W w2 := by obtain ⟨p2, rfl⟩ := hw'; exact p2.h
    have KZ := Go.Lib.hid (HB.out.trans (kk.mono hsz))
    clear hw' y0F y1F y2F y3F
    clear kk
    go_wp2
    go_ret
    exact ⟨by simpa using HX.out, KZ.out⟩
  have d1 : decide (t < b) = true := decide_eq_true h1
  by_cases h2 : b ≤ (N : Int)
  case neg =>
    have d2 : decide (b ≤ (N : Int)) = false := decide_eq_false h2
    have HX := Go.Lib.hid (BoolP.no (show ¬ Ins t l b r N wd from fun h => by unfold Ins at h; omega))
    go_enter Try.func24, Try.ntmps24
    go_wp2_with fail
    generalize w.alloc (.cells #[.int .i64 t, .int .i64 l, .int .i64 b, .int .i64 r] 48) = W at *
    have y0F : ∀ p : Bw W, p.w.cell? ⟨w.heap.size, 0, none⟩ = some (.int .i64 t) := fun p => (O1.out.below p.h).e0
    have y1F : ∀ p : Bw W, p.w.cell? ⟨w.heap.size, 1, none⟩ = some (.int .i64 l) := fun p => (O1.out.below p.h).e1
    have y2F : ∀ p : Bw W, p.w.cell? ⟨w.heap.size, 2, none⟩ = some (.int .i64 b) := fun p => (O1.out.below p.h).e2
    have y3F : ∀ p : Bw W, p.w.cell? ⟨w.heap.size, 3, none⟩ = some (.int .i64 r) := fun p => (O1.out.below p.h).e3
    refine wp_region_bw (W := W) (by kernel_rfl) (by kernel_rfl) (by first | exact Below.refl _ _ | exact (Below.refl _ _).drew) ?_
    repeat (quiet_step (first
      | (go_at_call 16; exact bw_of (fun p => cW.out p.w (HB.out.trans (p.h.mono hsz))) _)
      | fail))
    refine wpQuiet_nil ?_
    intro w2 hw'
    have kk : Below W.heap.size W w2 := by obtain ⟨p2, rfl⟩ := hw'; exact p2.h
    have KZ := Go.Lib.hid (HB.out.trans (kk.mono hsz))
    clear hw' y0F y1F y2F y3F
    clear kk
    go_wp2
    go_ret
    exact ⟨by simpa using HX.out, KZ.out⟩
  have d2 : decide (b ≤ (N : Int)) = true := decide_eq_true h2
  by_cases h3 : 0 ≤ l
  case neg =>
    have d3 : decide (0 ≤ l) = false := decide_eq_false h3
    have HX := Go.Lib.hid (BoolP.no (show ¬ Ins t l b r N wd from fun h => by unfold Ins at h; omega))
    go_enter Try.func24, Try.ntmps24
    go_wp2_with fail
    generalize w.alloc (.cells #[.int .i64 t, .int .i64 l, .int .i64 b, .int .i64 r] 48) = W at *
    have y0F : ∀ p : Bw W, p.w.cell? ⟨w.heap.size, 0, none⟩ = some (.int .i64 t) := fun p => (O1.out.below p.h).e0
    have y1F : ∀ p : Bw W, p.w.cell? ⟨w.heap.size, 1, none⟩ = some (.int .i64 l) := fun p => (O1.out.below p.h).e1
    have y2F : ∀ p : Bw W, p.w.cell? ⟨w.heap.size, 2, none⟩ = some (.int .i64 b) := fun p => (O1.out.below p.h).e2
    have y3F : ∀ p : Bw W, p.w.cell? ⟨w.heap.size, 3, none⟩ = some (.int .i64 r) := fun p => (O1.out.below p.h).e3
    refine wp_region_bw (W := W) (by kernel_rfl) (by kernel_rfl) (by first | exact Below.refl _ _ | exact (Below.refl _ _).drew) ?_
    repeat (quiet_step (first
      | (go_at_call 16; exact bw_of (fun p => cW.out p.w (HB.out.trans (p.h.mono hsz))) _)
      | fail))
    refine wpQuiet_nil ?_
    intro w2 hw'
    have kk : Below W.heap.size W w2 := by obtain ⟨p2, rfl⟩ := hw'; exact p2.h
    have KZ := Go.Lib.hid (HB.out.trans (kk.mono hsz))
    clear hw' y0F y1F y2F y3F
    clear kk
    go_wp2
    go_ret
    exact ⟨by simpa using HX.out, KZ.out⟩
  have d3 : decide (0 ≤ l) = true := decide_eq_true h3
  by_cases h4 : l < r
  case neg =>
    have d4 : decide (l < r) = false := decide_eq_false h4
    have HX := Go.Lib.hid (BoolP.no (show ¬ Ins t l b r N wd from fun h => by unfold Ins at h; omega))
    go_enter Try.func24, Try.ntmps24
    go_wp2_with fail
    generalize w.alloc (.cells #[.int .i64 t, .int .i64 l, .int .i64 b, .int .i64 r] 48) = W at *
    have y0F : ∀ p : Bw W, p.w.cell? ⟨w.heap.size, 0, none⟩ = some (.int .i64 t) := fun p => (O1.out.below p.h).e0
    have y1F : ∀ p : Bw W, p.w.cell? ⟨w.heap.size, 1, none⟩ = some (.int .i64 l) := fun p => (O1.out.below p.h).e1
    have y2F : ∀ p : Bw W, p.w.cell? ⟨w.heap.size, 2, none⟩ = some (.int .i64 b) := fun p => (O1.out.below p.h).e2
    have y3F : ∀ p : Bw W, p.w.cell? ⟨w.heap.size, 3, none⟩ = some (.int .i64 r) := fun p => (O1.out.below p.h).e3
    refine wp_region_bw (W := W) (by kernel_rfl) (by kernel_rfl) (by first | exact Below.refl _ _ | exact (Below.refl _ _).drew) ?_
    repeat (quiet_step (first
      | (go_at_call 16; exact bw_of (fun p => cW.out p.w (HB.out.trans (p.h.mono hsz))) _)
      | fail))
    refine wpQuiet_nil ?_
    intro w2 hw'
    have kk : Below W.heap.size W w2 := by obtain ⟨p2, rfl⟩ := hw'; exact p2.h
    have KZ := Go.Lib.hid (HB.out.trans (kk.mono hsz))
    clear hw' y0F y1F y2F y3F
    clear kk
    go_wp2
    go_ret
    exact ⟨by simpa using HX.out, KZ.out⟩
  have d4 : decide (l < r) = true := decide_eq_true h4
  by_cases h5 : r ≤ (wd : Int)
  case neg =>
    have d5 : decide (r ≤ (wd : Int)) = false := decide_eq_false h5
    have HX := Go.Lib.hid (BoolP.no (show ¬ Ins t l b r N wd from fun h => by unfold Ins at h; omega))
    go_enter Try.func24, Try.ntmps24
    go_wp2_with fail
    generalize w.alloc (.cells #[.int .i64 t, .int .i64 l, .int .i64 b, .int .i64 r] 48) = W at *
    have y0F : ∀ p : Bw W, p.w.cell? ⟨w.heap.size, 0, none⟩ = some (.int .i64 t) := fun p => (O1.out.below p.h).e0
    have y1F : ∀ p : Bw W, p.w.cell? ⟨w.heap.size, 1, none⟩ = some (.int .i64 l) := fun p => (O1.out.below p.h).e1
    have y2F : ∀ p : Bw W, p.w.cell? ⟨w.heap.size, 2, none⟩ = some (.int .i64 b) := fun p => (O1.out.below p.h).e2
    have y3F : ∀ p : Bw W, p.w.cell? ⟨w.heap.size, 3, none⟩ = some (.int .i64 r) := fun p => (O1.out.below p.h).e3
    refine wp_region_bw (W := W) (by kernel_rfl) (by kernel_rfl) (by first | exact Below.refl _ _ | exact (Below.refl _ _).drew) ?_
    repeat (quiet_step (first
      | (go_at_call 16; exact bw_of (fun p => cW.out p.w (HB.out.trans (p.h.mono hsz))) _)
      | fail))
    refine wpQuiet_nil ?_
    intro w2 hw'
    have kk : Below W.heap.size W w2 := by obtain ⟨p2, rfl⟩ := hw'; exact p2.h
    have KZ := Go.Lib.hid (HB.out.trans (kk.mono hsz))
    clear hw' y0F y1F y2F y3F
    clear kk
    go_wp2
    go_ret
    exact ⟨by simpa using HX.out, KZ.out⟩
  have d5 : decide (r ≤ (wd : Int)) = true := decide_eq_true h5
  have HX := Go.Lib.hid (BoolP.yes (show Ins t l b r N wd from ⟨h0, h1, h2, h3, h4, h5⟩))
  go_enter Try.func24, Try.ntmps24
  go_wp2_with fail
  generalize w.alloc (.cells #[.int .i64 t, .int .i64 l, .int .i64 b, .int .i64 r] 48) = W at *
  have y0F : ∀ p : Bw W, p.w.cell? ⟨w.heap.size, 0, none⟩ = some (.int .i64 t) := fun p => (O1.out.below p.h).e0
  have y1F : ∀ p : Bw W, p.w.cell? ⟨w.heap.size, 1, none⟩ = some (.int .i64 l) := fun p => (O1.out.below p.h).e1
  have y2F : ∀ p : Bw W, p.w.cell? ⟨w.heap.size, 2, none⟩ = some (.int .i64 b) := fun p => (O1.out.below p.h).e2
  have y3F : ∀ p : Bw W, p.w.cell? ⟨w.heap.size, 3, none⟩ = some (.int .i64 r) := fun p => (O1.out.below p.h).e3
  refine wp_region_bw (W := W) (by kernel_rfl) (by kernel_rfl) (by first | exact Below.refl _ _ | exact (Below.refl _ _).drew) ?_
  repeat (quiet_step (first
    | (go_at_call 16; exact bw_of (fun p => cW.out p.w (HB.out.trans (p.h.mono hsz))) _)
    | fail))
  refine wpQuiet_nil ?_
  intro w2 hw'
  have kk : Below W.heap.size W w2 := by obtain ⟨p2, rfl⟩ := hw'; exact p2.h
  have KZ := Go.Lib.hid (HB.out.trans (kk.mono hsz))
  clear hw' y0F y1F y2F y3F
  clear kk
  go_wp2
  go_ret
  exact ⟨by simpa using HX.out, KZ.out⟩

attribute [local irreducible] wpQuiet in
set_option maxRecDepth 100000 in
set_option maxHeartbeats 16000000 in
theorem gcover_bad (T : List (List Cl)) (hT : GoodT T) (A : Option Addr) (N c : Nat) (hN : T.length = N) (hc : N ≤ c ∧ c ≤ maxLen) (t l b r : Int) (hbad : ¬ Ins t l b r N (wdt (plT T))) (w : World) (hA : TbAt w A T) :
    Calls Try.prog 23 #[.slice A N c, arV t l b r] w fun e w' => e = .returned (.tuple #[arV 0 0 0 0, .int .i64 2]) ∧ Below w.heap.size w w' := by
  unfold arV
  have hB : Below w.heap.size w (w.alloc (.cells #[.int .i64 t, .int .i64 l, .int .i64 b, .int .i64 r] 48)) := (Below.refl _ w).alloc (Nat.le_refl _) _
  have o1 := ObjAt.new w #[.int .i64 t, .int .i64 l, .int .i64 b, .int .i64 r] 48
  have o2 := ObjAt.new (w.alloc (.cells #[.int .i64 t, .int .i64 l, .int .i64 b, .int .i64 r] 48)) #[.int .i64 0, .int .i64 0, .int .i64 0, .int .i64 0] 48
  rw [World.size_alloc] at o2
  have HB := Go.Lib.hid (hB.alloc hB.size (.cells #[.int .i64 0, .int .i64 0, .int .i64 0, .int .i64 0] 48))
  have o1' := o1.alloc (.cells #[.int .i64 0, .int .i64 0, .int .i64 0, .int .i64 0] 48)
  have cW := Go.Lib.hid (fun w' (hb : Below w.heap.size w w') => columns_any T hT A N c hN hc w' (hA.below hb))
  have O1 := Go.Lib.hid o1'
  have O2 := Go.Lib.hid o2
  have hc1 := hc.1
  have hc2 := hc.2
  unfold maxLen at hc2
  clear hA hT hN hc o1 o1' o2 hB
  generalize wdt (plT T) = wd at *
  have HBAD := Go.Lib.hid hbad
  clear hbad
  by_cases h0 : t < 0
  case pos =>
    have d0 : decide (t < 0) = true := decide_eq_true h0
    go_enter Try.func23, Try.ntmps23
    go_wp2_with fail
    generalize (w.alloc (.cells #[.int .i64 t, .int .i64 l, .int .i64 b, .int .i64 r] 48)).alloc (.cells #[.int .i64 0, .int .i64 0, .int .i64 0, .int .i64 0] 48) = W at *
    have hsz := HB.out.size
    have y0F : ∀ p : Bw W, p.w.cell? ⟨w.heap.size, 0, none⟩ = some (.int .i64 t) := fun p => (O1.out.below p.h).e0
    have y1F : ∀ p : Bw W, p.w.cell? ⟨w.heap.size, 1, none⟩ = some (.int .i64 l) := fun p => (O1.out.below p.h).e1
    have y2F : ∀ p : Bw W, p.w.cell? ⟨w.heap.size, 2, none⟩ = some (.int .i64 b) := fun p => (O1.out.below p.h).e2
    have y3F : ∀ p : Bw W, p.w.cell? ⟨w.heap.size, 3, none⟩ = some (.int .i64 r) := fun p => (O1.out.below p.h).e3
    refine wp_region_bw (W := W) (by kernel_rfl) (by kernel_rfl) (by first | exact Below.refl _ _ | exact (Below.refl _ _).drew) ?_
    repeat (quiet_step (first
      | (go_at_call 15; exact bw_of (fun p => cW.out p.w (HB.out.trans (p.h.mono hsz))) _)
      | fail))
    refine wpQuiet_nil ?_
    intro w2 hw'
    have kk : Below W.heap.size W w2 := by obtain ⟨p2, rfl⟩ := hw'; exact p2.h
    have KZ := Go.Lib.hid (HB.out.trans (kk.mono hsz))
    clear hw' y0F y1F y2F y3F
    have O3 := Go.Lib.hid (O2.out.below kk)
    clear kk
    have x0 := O3.out.e0
    have x1 := O3.out.e1
    have x2 := O3.out.e2
    have x3 := O3.out.e3
    have f0 := O3.out.frozen 0
    have f1 := O3.out.frozen 1
    have f2 := O3.out.frozen 2
    have f3 := O3.out.frozen 3
    have O4 := Go.Lib.hid (set4 O3.out (.int .i64 0) (.int .i64 0) (.int .i64 0) (.int .i64 0))
    go_wp2
    have t0 := O4.out.e0
    have t1 := O4.out.e1
    have t2 := O4.out.e2
    have t3 := O4.out.e3
    refine bodyPost_ret (v := .tuple #[arV 0 0 0 0, .int .i64 2]) ?_ rfl ⟨rfl, set4_below (b := w.heap.size + 1) KZ.out (Nat.le_add_right w.heap.size 1)⟩
    unfold arV
    simp [results, Try.results23, go_sem, t0, t1, t2, t3]
  have d0 : decide (t < 0) = false := decide_eq_false h0
  by_cases h1 : b ≤ t
  case pos =>
    have d1 : decide (b ≤ t) = true := decide_eq_true h1
    go_enter Try.func23, Try.ntmps23
    go_wp2_with fail
    generalize (w.alloc (.cells #[.int .i64 t, .int .i64 l, .int .i64 b, .int .i64 r] 48)).alloc (.cells #[.int .i64 0, .int .i64 0, .int .i64 0, .int .i64 0] 48) = W at *
    have hsz := HB.out.size
    have y0F : ∀ p : Bw W, p.w.cell? ⟨w.heap.size, 0, none⟩ = some (.int .i64 t) := fun p => (O1.out.below p.h).e0
    have y1F : ∀ p : Bw W, p.w.cell? ⟨w.heap.size, 1, none⟩ = some (.int .i64 l) := fun p => (O1.out.below p.h).e1
    have y2F : ∀ p : Bw W, p.w.cell? ⟨w.heap.size, 2, none⟩ = some (.int .i64 b) := fun p => (O1.out.below p.h).e2
    have y3F : ∀ p : Bw W, p.w.cell? ⟨w.heap.size, 3, none⟩ = some (.int .i64 r) := fun p => (O1.out.below p.h).e3
    refine wp_region_bw (W := W) (by kernel_rfl) (by kernel_rfl) (by first | exact Below.refl _ _ | exact (Below.refl _ _).drew) ?_
    repeat (quiet_step (first
      | (go_at_call 15; exact bw_of (fun p => cW.out p.w (HB.out.trans (p.h.mono hsz))) _)
      | fail))
    refine wpQuiet_nil ?_
    intro w2 hw'
    have kk : Below W.heap.size W w2 := by obtain ⟨p2, rfl⟩ := hw'; exact p2.h
    have KZ := Go.Lib.hid (HB.out.trans (kk.mono hsz))
    clear hw' y0F y1F y2F y3F
    have O3 := Go.Lib.hid (O2.out.below kk)
    clear kk
    have x0 := O3.out.e0
    have x1 := O3.out.e1
    have x2 := O3.out.e2
    have x3 := O3.out.e3
    have f0 := O3.out.frozen 0
    have f1 := O3.out.frozen 1
    have f2 := O3.out.frozen 2
    have f3 := O3.out.frozen 3
    have O4 := Go.Lib.hid (set4 O3.out (.int .i64 0) (.int .i64 0) (.int .i64 0) (.int .i64 0))
    go_wp2
    have t0 := O4.out.e0
    have t1 := O4.out.e1
    have t2 := O4.out.e2
    have t3 := O4.out.e3
    refine bodyPost_ret (v := .tuple #[arV 0 0 0 0, .int .i64 2]) ?_ rfl ⟨rfl, set4_below (b := w.heap.size + 1) KZ.out (Nat.le_add_right w.heap.size 1)⟩
    unfold arV
    simp [results, Try.results23, go_sem, t0, t1, t2, t3]
  have d1 : decide (b ≤ t) = false := decide_eq_false h1
  by_cases h2 : (N : Int) < b
  case pos =>
    have d2 : decide ((N : Int) < b) = true := decide_eq_true h2
    go_enter Try.func23, Try.ntmps23
    go_wp2_with fail
    generalize (w.alloc (.cells #[.int .i64 t, .int .i64 l, .int .i64 b, .int .i64 r] 48)).alloc (.cells #[.int .i64 0, .int .i64 0, .int .i64 0, .int .i64 0] 48) = W at *
    have hsz := HB.out.size
    have y0F : ∀ p : Bw W, p.w.cell? ⟨w.heap.size, 0, none⟩ = some (.int .i64 t) := fun p => (O1.out.below p.h).e0
    have y1F : ∀ p : Bw W, p.w.cell? ⟨w.heap.size, 1, none⟩ = some (.int .i64 l) := fun p => (O1.out.below p.h).e1
    have y2F : ∀ p : Bw W, p.w.cell? ⟨w.heap.size, 2, none⟩ = some (.int .i64 b) := fun p => (O1.out.below p.h).e2
    have y3F : ∀ p : Bw W, p.w.cell? ⟨w.heap.size, 3, none⟩ = some (.int .i64 r) := fun p => (O1.out.below p.h).e3
    refine wp_region_bw (W := W) (by kernel_rfl) (by kernel_rfl) (by first | exact Below.refl _ _ | exact (Below.refl _ _).drew) ?_
    repeat (quiet_step (first
      | (go_at_call 15; exact bw_of (fun p => cW.out p.w (HB.out.trans (p.h.mono hsz))) _)
      | fail))
    refine wpQuiet_nil ?_
    intro w2 hw'
    have kk : Below W.heap.size W w2 := by obtain ⟨p2, rfl⟩ := hw'; exact p2.h
    have KZ := Go.Lib.hid (HB.out.trans (kk.mono hsz))
    clear hw' y0F y1F y2F y3F
    have O3 := Go.Lib.hid (O2.out.below kk)
    clear kk
    have x0 := O3.out.e0
    have x1 := O3.out.e1
    have x2 := O3.out.e2
    have x3 := O3.out.e3
    have f0 := O3.out.frozen 0
    have f1 := O3.out.frozen 1
    have f2 := O3.out.frozen 2
    have f3 := O3.out.frozen 3
    have O4 := Go.Lib.hid (set4 O3.out (.int .i64 0) (.int .i64 0) (.int .i64 0) (.int .i64 0))
    go_wp2
    have t0 := O4.out.e0
    have t1 := O4.out.e1
    have t2 := O4.out.e2
    have t3 := O4.out.e3
    refine bodyPost_ret (v := .tuple #[arV 0 0 0 0, .int .i64 2]) ?_ rfl ⟨rfl, set4_below (b := w.heap.size + 1) KZ.out (Nat.le_add_right w.heap.size 1)⟩
    unfold arV
    simp [results, Try.results23, go_sem, t0, t1, t2, t3]
  have d2 : decide ((N : Int) < b) = false := decide_eq_false h2
  by_cases h3 : l < 0
  case pos =>
    have d3 : decide (l < 0) = true := decide_eq_true h3
    go_enter Try.func23, Try.ntmps23
    go_wp2_with fail
    generalize (w.alloc (.cells #[.int .i64 t, .int .i64 l, .int .i64 b, .int .i64 r] 48)).alloc (.cells #[.int .i64 0, .int .i64 0, .int .i64 0, .int .i64 0] 48) = W at *
    have hsz := HB.out.size
    have y0F : ∀ p : Bw W, p.w.cell? ⟨w.heap.size, 0, none⟩ = some (.int .i64 t) := fun p => (O1.out.below p.h).e0
    have y1F : ∀ p : Bw W, p.w.cell? ⟨w.heap.size, 1, none⟩ = some (.int .i64 l) := fun p => (O1.out.below p.h).e1
    have y2F : ∀ p : Bw W, p.w.cell? ⟨w.heap.size, 2, none⟩ = some (.int .i64 b) := fun p => (O1.out.below p.h).e2
    have y3F : ∀ p : Bw W, p.w.cell? ⟨w.heap.size, 3, none⟩ = some (.int .i64 r) := fun p => (O1.out.below p.h).e3
    refine wp_region_bw (W := W) (by kernel_rfl) (by kernel_rfl) (by first | exact Below.refl _ _ | exact (Below.refl _ _).drew) ?_
    repeat (quiet_step (first
      | (go_at_call 15; exact bw_of (fun p => cW.out p.w (HB.out.trans (p.h.mono hsz))) _)
      | fail))
    refine wpQuiet_nil ?_
    intro w2 hw'
    have kk : Below W.heap.size W w2 := by obtain ⟨p2, rfl⟩ := hw'; exact p2.h
    have KZ := Go.Lib.hid (HB.out.trans (kk.mono hsz))
    clear hw' y0F y1F y2F y3F
    have O3 := Go.Lib.hid (O2.out.below kk)
    clear kk
    have x0 := O3.out.e0
    have x1 := O3.out.e1
    have x2 := O3.out.e2
    have x3 := O3.out.e3
    have f0 := O3.out.frozen 0
    have f1 := O3.out.frozen 1
    have f2 := O3.out.frozen 2
    have f3 := O3.out.frozen 3
    have O4 := Go.Lib.hid (set4 O3.out (.int .i64 0) (.int .i64 0) (.int .i64 0) (.int .i64 0))
    go_wp2
    have t0 := O4.out.e0
    have t1 := O4.out.e1
    have t2 := O4.out.e2
    have t3 := O4.out.e3
    refine bodyPost_ret (v := .tuple #[arV 0 0 0 0, .int .i64 2]) ?_ rfl ⟨rfl, set4_below (b := w.heap.size + 1) KZ.out (Nat.le_add_right w.heap.size 1)⟩
    unfold arV
    simp [results, Try.results23, go_sem, t0, t1, t2, t3]
  have d3 : decide (l < 0) = false := decide_eq_false h3
  by_cases h4 : r ≤ l
  case pos =>
    have d4 : decide (r ≤ l) = true := decide_eq_true h4
    go_enter Try.func23, Try.ntmps23
    go_wp2_with fail
    generalize (w.alloc (.cells #[.int .i64 t, .int .i64 l, .int .i64 b, .int .i64 r] 48)).alloc (.cells #[.int .i64 0, .int .i64 0, .int .i64 0, .int .i64 0] 48) = W at *
    have hsz := HB.out.size
    have y0F : ∀ p : Bw W, p.w.cell? ⟨w.heap.size, 0, none⟩ = some (.int .i64 t) := fun p => (O1.out.below p.h).e0
    have y1F : ∀ p : Bw W, p.w.cell? ⟨w.heap.size, 1, none⟩ = some (.int .i64 l) := fun p => (O1.out.below p.h).e1
    have y2F : ∀ p : Bw W, p.w.cell? ⟨w.heap.size, 2, none⟩ = some (.int .i64 b) := fun p => (O1.out.below p.h).e2
    have y3F : ∀ p : Bw W, p.w.cell? ⟨w.heap.size, 3, none⟩ = some (.int .i64 r) := fun p => (O1.out.below p.h).e3
    refine wp_region_bw (W := W) (by kernel_rfl) (by kernel_rfl) (by first | exact Below.refl _ _ | exact (Below.refl _ _).drew) ?_
    repeat (quiet_step (first
      | (go_at_call 15; exact bw_of (fun p => cW.out p.w (HB.out.trans (p.h.mono hsz))) _)
      | fail))
    refine wpQuiet_nil ?_
    intro w2 hw'
    have kk : Below W.heap.size W w2 := by obtain ⟨p2, rfl⟩ := hw'; exact p2.h
    have KZ := Go.Lib.hid (HB.out.trans (kk.mono hsz))
    clear hw' y0F y1F y2F y3F
    have O3 := Go.Lib.hid (O2.out.below kk)
    clear kk
    have x0 := O3.out.e0
    have x1 := O3.out.e1
    have x2 := O3.out.e2
    have x3 := O3.out.e3
    have f0 := O3.out.frozen 0
    have f1 := O3.out.frozen 1
    have f2 := O3.out.frozen 2
    have f3 := O3.out.frozen 3
    have O4 := Go.Lib.hid (set4 O3.out (.int .i64 0) (.int .i64 0) (.int .i64 0) (.int .i64 0))
    go_wp2
    have t0 := O4.out.e0
    have t1 := O4.out.e1
    have t2 := O4.out.e2
    have t3 := O4.out.e3
    refine bodyPost_ret (v := .tuple #[arV 0 0 0 0, .int .i64 2]) ?_ rfl ⟨rfl, set4_below (b := w.heap.size + 1) KZ.out (Nat.le_add_right w.heap.size 1)⟩
    unfold arV
    simp [results, Try.results23, go_sem, t0, t1, t2, t3]
  have d4 : decide (r ≤ l) = false := decide_eq_false h4
  by_cases h5 : (wd : Int) < r
  case pos =>
    have d5 : decide ((wd : Int) < r) = true := decide_eq_true h5
    go_enter Try.func23, Try.ntmps23
    go_wp2_with fail
    generalize (w.alloc (.cells #[.int .i64 t, .int .i64 l, .int .i64 b, .int .i64 r] 48)).alloc (.cells #[.int .i64 0, .int .i64 0, .int .i64 0, .int .i64 0] 48) = W at *
    have hsz := HB.out.size
    have y0F : ∀ p : Bw W, p.w.cell? ⟨w.heap.size, 0, none⟩ = some (.int .i64 t) := fun p => (O1.out.below p.h).e0
    have y1F : ∀ p : Bw W, p.w.cell? ⟨w.heap.size, 1, none⟩ = some (.int .i64 l) := fun p => (O1.out.below p.h).e1
    have y2F : ∀ p : Bw W, p.w.cell? ⟨w.heap.size, 2, none⟩ = some (.int .i64 b) := fun p => (O1.out.below p.h).e2
    have y3F : ∀ p : Bw W, p.w.cell? ⟨w.heap.size, 3, none⟩ = some (.int .i64 r) := fun p => (O1.out.below p.h).e3
    refine wp_region_bw (W := W) (by kernel_rfl) (by kernel_rfl) (by first | exact Below.refl _ _ | exact (Below.refl _ _).drew) ?_
    repeat (quiet_step (first
      | (go_at_call 15; exact bw_of (fun p => cW.out p.w (HB.out.trans (p.h.mono hsz))) _)
      | fail))
    refine wpQuiet_nil ?_
    intro w2 hw'
    have kk : Below W.heap.size W w2 := by obtain ⟨p2, rfl⟩ := hw'; exact p2.h
    have KZ := Go.Lib.hid (HB.out.trans (kk.mono hsz))
    clear hw' y0F y1F y2F y3F
    have O3 := Go.Lib.hid (O2.out.below kk)
    clear kk
    have x0 := O3.out.e0
    have x1 := O3.out.e1
    have x2 := O3.out.e2
    have x3 := O3.out.e3
    have f0 := O3.out.frozen 0
    have f1 := O3.out.frozen 1
    have f2 := O3.out.frozen 2
    have f3 := O3.out.frozen 3
    have O4 := Go.Lib.hid (set4 O3.out (.int .i64 0) (.int .i64 0) (.int .i64 0) (.int .i64 0))
    go_wp2
    have t0 := O4.out.e0
    have t1 := O4.out.e1
    have t2 := O4.out.e2
    have t3 := O4.out.e3
    refine bodyPost_ret (v := .tuple #[arV 0 0 0 0, .int .i64 2]) ?_ rfl ⟨rfl, set4_below (b := w.heap.size + 1) KZ.out (Nat.le_add_right w.heap.size 1)⟩
    unfold arV
    simp [results, Try.results23, go_sem, t0, t1, t2, t3]
  have d5 : decide ((wd : Int) < r) = false := decide_eq_false h5
  exact absurd (show Ins t l b r N wd from ⟨by omega, by omega, by omega, by omega, by omega, by omega⟩) HBAD.out
end Go.Proofs.Ytkdhffidkopmcaa
