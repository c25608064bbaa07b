/- Layer 22: cmp.Or (51), the comparison by time and id (50), the stable sort of revisions (49). -/
import Derived.Test.YtmpklkhjipclmaaMSB
import Derived.Test.YtmpklkhjipclmaaV6
import Derived.Deep.RegionWith
import Derived.Deep.RegionHeld3
namespace Go.Proofs.Ytmpklkhjipclmaa
open Go.RowKit Go.Shelf Go.Lib Go.Sort Sm
set_option linter.unusedVariables false

set_option maxRecDepth 100000 in
set_option maxHeartbeats 4000000 in
theorem or_any (g : Nat) (a b : Int) (w : World) (h0 : w.cell? ⟨g, 0, none⟩ = some (.int .i64 a)) (h1 : w.cell? ⟨g, 1, none⟩ = some (.int .i64 b)) :
    Calls Try.prog 51 #[.slice (some ⟨g, 0, none⟩) 2 2] w fun e w' => e = .returned (.int .i64 (if a = 0 then b else a)) ∧ w' = w := by
  have H0 := Lib.hid h0
  have H1 := Lib.hid h1
  clear h0 h1
  generalize hr : (if a = 0 then b else a) = r
  have HR := Lib.hid hr
  clear hr
  go_enter Try.func51, Try.ntmps51
  go_wp2_with fail
  go_loopw [5, 8] (fun _ s8 wr => ∃ k : Nat, k ≤ 2 ∧ s8 = .int .i64 (k : Nat) ∧ Hid ((1 ≤ k → a = 0) ∧ (2 ≤ k → b = 0)) ∧ wr = w) (fun _ s8 _ => 2 - (intOf s8).toNat)
  case atStart => exact ⟨0, Nat.zero_le _, rfl, Lib.hid ⟨fun h => absurd h (by omega), fun h => absurd h (by omega)⟩, rfl⟩
  case round =>
    obtain ⟨k, hk, rfl, HP, rfl⟩ := hrel
    rcases (by omega : k = 0 ∨ k = 1 ∨ k = 2) with rfl | rfl | rfl
    · have z0 := H0.out
      by_cases ha : a = 0
      · have e1 : (a == 0) = true := by rw [ha]; rfl
        have HE := Lib.hid ha
        clear ha
        go_wp2
        go_roundw
        case rel => exact ⟨1, by omega, rfl, Lib.hid ⟨fun _ => HE.out, fun h => absurd h (by omega)⟩, by first | rfl | trivial⟩
        case measure => simp [intOf]
      · have e1 : (a == 0) = false := neB ha
        have HE := Lib.hid (HR.out.symm.trans (if_neg ha))
        clear ha
        go_wp2
        go_ret
        exact ⟨by rw [HE.out]; rfl, rfl⟩
    · have z0 := H1.out
      have HA := Lib.hid (HP.out.1 (Nat.le_refl _))
      by_cases hb : b = 0
      · have e1 : (b == 0) = true := by rw [hb]; rfl
        have HE := Lib.hid hb
        clear hb
        go_wp2
        go_roundw
        case rel => exact ⟨2, by omega, rfl, Lib.hid ⟨fun _ => HA.out, fun _ => HE.out⟩, by first | rfl | trivial⟩
        case measure => simp [intOf]
      · have e1 : (b == 0) = false := neB hb
        have HE := Lib.hid (HR.out.symm.trans (if_pos HA.out))
        clear hb
        go_wp2
        go_ret
        exact ⟨by rw [HE.out]; rfl, rfl⟩
    · have HE := Lib.hid ((HR.out.symm.trans (if_pos (HP.out.1 (by omega)))).trans (HP.out.2 (Nat.le_refl _)))
      go_wp2
      go_ret
      exact ⟨by rw [HE.out]; rfl, rfl⟩
/-- A revision with the place that it began at. -/
abbrev Kd : Type := Rv × Nat
def kdEnc (x : Kd) : List Value := rowR1 x.1
def rvCmp (x y : Rv) : Int := if cmpI x.time y.time = 0 then cmpI x.id y.id else cmpI x.time y.time
def kdCmp (x y : Kd) : Int := rvCmp x.1 y.1
def kdLt (x y : Kd) : Prop := kdCmp x y < 0 ∨ kdCmp x y = 0 ∧ x.2 < y.2
theorem cmpI_lt (x y : Int) : (cmpI x y < 0 ↔ x < y) ∧ (cmpI x y = 0 ↔ x = y) ∧ (0 < cmpI x y ↔ y < x) := by
  refine ⟨cmpI_neg x y, cmpI_zero x y, ?_⟩
  unfold cmpI
  by_cases h : x < y
  · rw [if_pos h]; omega
  · rw [if_neg h]; split <;> omega
/-- What comes ahead: by time, then by id. -/
def Lt2 (x y : Rv) : Prop := x.time < y.time ∨ x.time = y.time ∧ x.id < y.id
theorem rvCmp_lt (x y : Rv) : (rvCmp x y < 0 ↔ Lt2 x y) ∧ (rvCmp x y = 0 ↔ x.time = y.time ∧ x.id = y.id) ∧ (0 < rvCmp x y ↔ Lt2 y x) := by
  unfold rvCmp Lt2
  have h1 := cmpI_lt x.time y.time
  have h2 := cmpI_lt x.id y.id
  split <;> omega
theorem kdOrd : Ord kdLt where
  trans := by
    intro x y z h1 h2
    unfold kdLt kdCmp at *
    have a := rvCmp_lt x.1 y.1
    have b := rvCmp_lt y.1 z.1
    have c := rvCmp_lt x.1 z.1
    unfold Lt2 at a b c
    omega
  irr := by
    intro x h
    unfold kdLt kdCmp at h
    have a := rvCmp_lt x.1 x.1
    unfold Lt2 at a
    omega
theorem kdTot {d : Array Kd} {n : Nat} (h : ∀ i j, i < j → j < n → (Ix d i).2 < (Ix d j).2) : Tot kdLt kdCmp d 0 n := by
  intro i j _ hij hj
  have ht := h i j hij hj
  have a := rvCmp_lt (Ix d j).1 (Ix d i).1
  have b := rvCmp_lt (Ix d i).1 (Ix d j).1
  unfold kdLt kdCmp
  unfold Lt2 at a b
  omega
set_option maxRecDepth 100000 in
set_option maxHeartbeats 4000000 in
theorem closure50 (x y : Kd) (W : World) : Calls Try.prog 50 #[.agg (kdEnc x).toArray, .agg (kdEnc y).toArray] W fun e w' => e = .returned (.int .i64 (kdCmp x y)) ∧ ∃ q os', w' = grow (W.drewN q) os' := by
  obtain ⟨⟨xi, xs, xt⟩, xn⟩ := x
  obtain ⟨⟨yi, ys, yt⟩, yn⟩ := y
  unfold kdCmp rvCmp kdEnc rowR1
  dsimp only
  have c1 := fun W' => cmp_any xt yt W'
  have c2 := fun W' => cmp_any xi yi W'
  generalize cmpI xt yt = r1 at c1 ⊢
  generalize cmpI xi yi = r2 at c2 ⊢
  have O3 := ObjAt.new ((W.alloc (.cells #[.int .i64 xi, .string xs, .int .i64 xt] 23)).alloc (.cells #[.int .i64 yi, .string ys, .int .i64 yt] 23)) #[.int .i64 r1, .int .i64 r2] 3
  rw [World.size_alloc, World.size_alloc] at O3
  have c3 := or_any (W.heap.size + 1 + 1) r1 r2 (((W.alloc (.cells #[.int .i64 xi, .string xs, .int .i64 xt] 23)).alloc (.cells #[.int .i64 yi, .string ys, .int .i64 yt] 23)).alloc (.cells #[.int .i64 r1, .int .i64 r2] 3)).drew (show ObjAt _ _ _ _ from O3).a0 (show ObjAt _ _ _ _ from O3).a1
  clear O3
  have P0 := (ObjAt.new W #[.int .i64 xi, .string xs, .int .i64 xt] 23).alloc (.cells #[.int .i64 yi, .string ys, .int .i64 yt] 23)
  have P1 := ObjAt.new (W.alloc (.cells #[.int .i64 xi, .string xs, .int .i64 xt] 23)) #[.int .i64 yi, .string ys, .int .i64 yt] 23
  rw [World.size_alloc] at P1
  have SA := Lib.hid (⟨(show ObjAt _ _ _ _ from P0).b2, (show ObjAt _ _ _ _ from P1).b2, (show ObjAt _ _ _ _ from P0).b0, (show ObjAt _ _ _ _ from P1).b0⟩ : ((W.alloc (.cells #[.int .i64 xi, .string xs, .int .i64 xt] 23)).alloc (.cells #[.int .i64 yi, .string ys, .int .i64 yt] 23)).drew.cell? ⟨W.heap.size, 2, none⟩ = some (.int .i64 xt) ∧ ((W.alloc (.cells #[.int .i64 xi, .string xs, .int .i64 xt] 23)).alloc (.cells #[.int .i64 yi, .string ys, .int .i64 yt] 23)).drew.cell? ⟨W.heap.size + 1, 2, none⟩ = some (.int .i64 yt) ∧ ((W.alloc (.cells #[.int .i64 xi, .string xs, .int .i64 xt] 23)).alloc (.cells #[.int .i64 yi, .string ys, .int .i64 yt] 23)).drew.cell? ⟨W.heap.size, 0, none⟩ = some (.int .i64 xi) ∧ ((W.alloc (.cells #[.int .i64 xi, .string xs, .int .i64 xt] 23)).alloc (.cells #[.int .i64 yi, .string ys, .int .i64 yt] 23)).drew.cell? ⟨W.heap.size + 1, 0, none⟩ = some (.int .i64 yi))
  have P2 := P0.alloc (.cells #[.int .i64 r1, .int .i64 r2] 3)
  have P3 := P1.alloc (.cells #[.int .i64 r1, .int .i64 r2] 3)
  have SB := Lib.hid (⟨(show ObjAt _ _ _ _ from P2).b2, (show ObjAt _ _ _ _ from P3).b2, (show ObjAt _ _ _ _ from P2).b0, (show ObjAt _ _ _ _ from P3).b0⟩ : (((W.alloc (.cells #[.int .i64 xi, .string xs, .int .i64 xt] 23)).alloc (.cells #[.int .i64 yi, .string ys, .int .i64 yt] 23)).alloc (.cells #[.int .i64 r1, .int .i64 r2] 3)).drew.cell? ⟨W.heap.size, 2, none⟩ = some (.int .i64 xt) ∧ (((W.alloc (.cells #[.int .i64 xi, .string xs, .int .i64 xt] 23)).alloc (.cells #[.int .i64 yi, .string ys, .int .i64 yt] 23)).alloc (.cells #[.int .i64 r1, .int .i64 r2] 3)).drew.cell? ⟨W.heap.size + 1, 2, none⟩ = some (.int .i64 yt) ∧ (((W.alloc (.cells #[.int .i64 xi, .string xs, .int .i64 xt] 23)).alloc (.cells #[.int .i64 yi, .string ys, .int .i64 yt] 23)).alloc (.cells #[.int .i64 r1, .int .i64 r2] 3)).drew.cell? ⟨W.heap.size, 0, none⟩ = some (.int .i64 xi) ∧ (((W.alloc (.cells #[.int .i64 xi, .string xs, .int .i64 xt] 23)).alloc (.cells #[.int .i64 yi, .string ys, .int .i64 yt] 23)).alloc (.cells #[.int .i64 r1, .int .i64 r2] 3)).drew.cell? ⟨W.heap.size + 1, 0, none⟩ = some (.int .i64 yi))
  clear P0 P1 P2 P3
  generalize (if r1 = 0 then r2 else r1) = r3 at c3 ⊢
  go_enter Try.func50, Try.ntmps50
  go_wp2_with fail
  go_region_held3 (fun U => U.cell? ⟨W.heap.size, 2, none⟩ = some (.int .i64 xt) ∧ U.cell? ⟨W.heap.size + 1, 2, none⟩ = some (.int .i64 yt) ∧ U.cell? ⟨W.heap.size, 0, none⟩ = some (.int .i64 xi) ∧ U.cell? ⟨W.heap.size + 1, 0, none⟩ = some (.int .i64 yi)) (first | exact SA.out | exact SB.out) (first
    | (go_at_call 52; (with_reducible refine (c1 _).mono ?_); rintro e w' ⟨rfl, rfl⟩)
    | (go_at_call 52; (with_reducible refine (c2 _).mono ?_); rintro e w' ⟨rfl, rfl⟩)
    | (go_at_call 51; (with_reducible refine c3.mono ?_); rintro e w' ⟨rfl, rfl⟩)
    | fail)
  all_goals
    go_wp2
    go_ret
    exact ⟨rfl, 1, #[.cells #[.int .i64 xi, .string xs, .int .i64 xt] 23, .cells #[.int .i64 yi, .string ys, .int .i64 yt] 23, .cells #[.int .i64 r1, .int .i64 r2] 3], by rw [alloc_eq_grow, alloc_eq_grow, alloc_eq_grow, grow_grow, grow_grow]; rfl⟩
end Go.Proofs.Ytmpklkhjipclmaa
