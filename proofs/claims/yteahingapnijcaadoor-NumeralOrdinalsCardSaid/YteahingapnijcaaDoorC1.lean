/- Layer 9: the maps of writers and readers; Range. -/
import Derived.Test.YteahingapnijcaaDoorA9
import Derived.Maps.Own
import Derived.Maps.OwnSet
import Derived.Maps.Views
namespace Go.Proofs.YteahingapnijcaaDoor
open Go.RowKit Go.Lib Go.Shelf Nu9 Go.Maps

/-- How a function without variables of its own reads. -/
def RF (v : Value) : Option (DataW Unit × List MemPlace) :=
  match v with
  | .func (.func g) a b => if a.size = 0 ∧ b.size = 0 then some (.lit (.int .i64 (g : Nat)), []) else none
  | .nilFunc => some (.lit (.int .i64 (-1)), [])
  | _ => none
theorem RF_mk (g : Nat) : RF (.func (.func g) #[] #[]) = some (.lit (.int .i64 (g : Nat)), []) := rfl
theorem RF_inv {v : Value} {g : Nat} {ps : List MemPlace} (h : RF v = some (.lit (.int .i64 (g : Nat)), ps)) : v = .func (.func g) #[] #[] := by
  unfold RF at h
  split at h
  · rename_i g' a b
    split at h
    · rename_i hab
      injection h with h
      injection h with h1 h2
      injection h1 with h1
      injection h1 with _ h1
      have e1 : a = #[] := Array.eq_empty_of_size_eq_zero hab.1
      have e2 : b = #[] := Array.eq_empty_of_size_eq_zero hab.2
      have e3 : g' = g := Int.ofNat.inj h1
      rw [e1, e2, e3]
    · cases h
  · simp only [Option.some.injEq, Prod.mk.injEq, DataW.lit.injEq, Lit.int.injEq, true_and] at h
    have := h.1
    omega
  · cases h
theorem keyI {x : Int} (h : (Lit.int .i64 x).wf = true) : keyOf Tryd.prog 3 (.int .i64 x) = some (.int .i64 x) := keyOf_int_mk Tryd.underlying3 h
def dF (g : Nat) : DataW Unit := .lit (.int .i64 (g : Nat))
def DW : DataW Unit := (((((((DataW.map []).put (.int .i64 1) (dF 35)).put (.int .i64 2) (dF 36)).put (.int .i64 3) (dF 37)).put (.int .i64 4) (dF 39)).put (.int .i64 5) (dF 40)).put (.int .i64 6) (dF 41)).put (.int .i64 7) (dF 43)
def DR : DataW Unit := ((((((DataW.map []).put (.int .i64 1) (dF 44)).put (.int .i64 2) (dF 45)).put (.int .i64 3) (dF 46)).put (.int .i64 4) (dF 48)).put (.int .i64 5) (dF 49)).put (.int .i64 6) (dF 50)
/-- What hands back a map of functions. -/
def MapR (D : DataW Unit) (w : World) (e : Ending) (w' : World) : Prop := ∃ b n, e = .returned (.map (some b)) ∧ w'.ownsMap Tryd.prog 3 RF b n D ∧ Below w.heap.size w w'
set_option maxRecDepth 100000 in
set_option maxHeartbeats 4000000 in
theorem writers_any (w : World) : Calls Tryd.prog 24 #[] w (MapR DW w) := by
  have o0 := World.ownsMap_made (H := Unit) w Tryd.prog 3 RF
  have b0 := (Below.refl _ w).alloc (Nat.le_refl _) (.map #[] 0)
  obtain ⟨w1, r1, o1, g1⟩ := o0.update (int_keyed Tryd.underlying3) Tryd.underlying44 (by unfold maxLen; omega) (keyI (x := 1) (by decide)) (RF_mk 35)
  have b1 := b0.grown g1 b0.size (fun k e => by cases e; exact Nat.le_refl _)
  obtain ⟨w2, r2, o2, g2⟩ := o1.update (int_keyed Tryd.underlying3) Tryd.underlying44 (by unfold maxLen; omega) (keyI (x := 2) (by decide)) (RF_mk 36)
  have b2 := b1.grown g2 b1.size (fun k e => by cases e; exact Nat.le_refl _)
  obtain ⟨w3, r3, o3, g3⟩ := o2.update (int_keyed Tryd.underlying3) Tryd.underlying44 (by unfold maxLen; omega) (keyI (x := 3) (by decide)) (RF_mk 37)
  have b3 := b2.grown g3 b2.size (fun k e => by cases e; exact Nat.le_refl _)
  obtain ⟨w4, r4, o4, g4⟩ := o3.update (int_keyed Tryd.underlying3) Tryd.underlying44 (by unfold maxLen; omega) (keyI (x := 4) (by decide)) (RF_mk 39)
  have b4 := b3.grown g4 b3.size (fun k e => by cases e; exact Nat.le_refl _)
  obtain ⟨w5, r5, o5, g5⟩ := o4.update (int_keyed Tryd.underlying3) Tryd.underlying44 (by unfold maxLen; omega) (keyI (x := 5) (by decide)) (RF_mk 40)
  have b5 := b4.grown g5 b4.size (fun k e => by cases e; exact Nat.le_refl _)
  obtain ⟨w6, r6, o6, g6⟩ := o5.update (int_keyed Tryd.underlying3) Tryd.underlying44 (by unfold maxLen; omega) (keyI (x := 6) (by decide)) (RF_mk 41)
  have b6 := b5.grown g6 b5.size (fun k e => by cases e; exact Nat.le_refl _)
  obtain ⟨w7, r7, o7, g7⟩ := o6.update (int_keyed Tryd.underlying3) Tryd.underlying44 (by unfold maxLen; omega) (keyI (x := 7) (by decide)) (RF_mk 43)
  have b7 := b6.grown g7 b6.size (fun k e => by cases e; exact Nat.le_refl _)
  have hmk := @run_makeMap Tryd.prog
  go_enter Tryd.func24, Tryd.ntmps24
  go_wp2
  go_ret
  exact ⟨_, _, rfl, o7, b7⟩
set_option maxRecDepth 100000 in
set_option maxHeartbeats 4000000 in
theorem readers_any (w : World) : Calls Tryd.prog 30 #[] w (MapR DR w) := by
  have o0 := World.ownsMap_made (H := Unit) w Tryd.prog 3 RF
  have b0 := (Below.refl _ w).alloc (Nat.le_refl _) (.map #[] 0)
  obtain ⟨w1, r1, o1, g1⟩ := o0.update (int_keyed Tryd.underlying3) Tryd.underlying48 (by unfold maxLen; omega) (keyI (x := 1) (by decide)) (RF_mk 44)
  have b1 := b0.grown g1 b0.size (fun k e => by cases e; exact Nat.le_refl _)
  obtain ⟨w2, r2, o2, g2⟩ := o1.update (int_keyed Tryd.underlying3) Tryd.underlying48 (by unfold maxLen; omega) (keyI (x := 2) (by decide)) (RF_mk 45)
  have b2 := b1.grown g2 b1.size (fun k e => by cases e; exact Nat.le_refl _)
  obtain ⟨w3, r3, o3, g3⟩ := o2.update (int_keyed Tryd.underlying3) Tryd.underlying48 (by unfold maxLen; omega) (keyI (x := 3) (by decide)) (RF_mk 46)
  have b3 := b2.grown g3 b2.size (fun k e => by cases e; exact Nat.le_refl _)
  obtain ⟨w4, r4, o4, g4⟩ := o3.update (int_keyed Tryd.underlying3) Tryd.underlying48 (by unfold maxLen; omega) (keyI (x := 4) (by decide)) (RF_mk 48)
  have b4 := b3.grown g4 b3.size (fun k e => by cases e; exact Nat.le_refl _)
  obtain ⟨w5, r5, o5, g5⟩ := o4.update (int_keyed Tryd.underlying3) Tryd.underlying48 (by unfold maxLen; omega) (keyI (x := 5) (by decide)) (RF_mk 49)
  have b5 := b4.grown g5 b4.size (fun k e => by cases e; exact Nat.le_refl _)
  obtain ⟨w6, r6, o6, g6⟩ := o5.update (int_keyed Tryd.underlying3) Tryd.underlying48 (by unfold maxLen; omega) (keyI (x := 6) (by decide)) (RF_mk 50)
  have b6 := b5.grown g6 b5.size (fun k e => by cases e; exact Nat.le_refl _)
  have hmk := @run_makeMap Tryd.prog
  go_enter Tryd.func30, Tryd.ntmps30
  go_wp2
  go_ret
  exact ⟨_, _, rfl, o6, b6⟩
theorem look_w {w : World} {b n : Nat} (h : w.ownsMap Tryd.prog 3 RF b n DW) {f : Int} (hf : (Lit.int .i64 f).wf = true) {g : Nat} (hg : DW.atKey (.int .i64 f) (.lit (.int .i64 (-1))) = dF g) : (Instr.lookup 44 (.map (some b)) (.int .i64 f) false).run Tryd.prog w = .ok (.func (.func g) #[] #[]) w := by
  obtain ⟨v, ps, hr, hv⟩ := h.lookup (int_keyed Tryd.underlying3) Tryd.underlying44 (Tryd.zeroValue43 w) (zd := .lit (.int .i64 (-1))) (zp := []) rfl (keyI hf)
  rw [hg] at hv
  rw [RF_inv hv] at hr
  exact hr
theorem look_r {w : World} {b n : Nat} (h : w.ownsMap Tryd.prog 3 RF b n DR) {f : Int} (hf : (Lit.int .i64 f).wf = true) {g : Nat} (hg : DR.atKey (.int .i64 f) (.lit (.int .i64 (-1))) = dF g) (hh : Maps.has DR (.int .i64 f) = true) : (Instr.lookup 48 (.map (some b)) (.int .i64 f) true).run Tryd.prog w = .ok (.tuple #[.func (.func g) #[] #[], .bool true]) w := by
  obtain ⟨v, ps, hr, hv⟩ := h.look_ok (int_keyed Tryd.underlying3) Tryd.underlying48 (Tryd.zeroValue46 w) (zd := .lit (.int .i64 (-1))) (zp := []) rfl (keyI hf)
  rw [hg] at hv
  rw [RF_inv hv, hh] at hr
  exact hr
theorem look_rn {w : World} {b n : Nat} (h : w.ownsMap Tryd.prog 3 RF b n DR) {f : Int} (hf : (Lit.int .i64 f).wf = true) (hh : Maps.has DR (.int .i64 f) = false) : ∃ v, (Instr.lookup 48 (.map (some b)) (.int .i64 f) true).run Tryd.prog w = .ok (.tuple #[v, .bool false]) w := by
  obtain ⟨v, ps, hr, hv⟩ := h.look_ok (int_keyed Tryd.underlying3) Tryd.underlying48 (Tryd.zeroValue46 w) (zd := .lit (.int .i64 (-1))) (zp := []) rfl (keyI hf)
  rw [hh] at hr
  exact ⟨v, hr⟩
theorem has_no {f : Int} (h : ¬ (1 ≤ f ∧ f ≤ 6)) : Maps.has DR (.int .i64 f) = false := by
  have hk : ∀ k : Int, 1 ≤ k → k ≤ 6 → (Lit.int .i64 f) ≠ (Lit.int .i64 k) := by
    intro k h1 h2 e
    injection e with _ e
    omega
  unfold DR
  rw [has_put_other (hk 6 (by decide) (by decide)), has_put_other (hk 5 (by decide) (by decide)), has_put_other (hk 4 (by decide) (by decide)), has_put_other (hk 3 (by decide) (by decide)), has_put_other (hk 2 (by decide) (by decide)), has_put_other (hk 1 (by decide) (by decide))]
  rfl
def rngV (f : Int) : Value := .tuple #[.int .i64 (least f), .int .i64 (most f), .int .i64 (if Nu9.kindOk f then 0 else 3)]
def RngR (f : Int) (w : World) (e : Ending) (w' : World) : Prop := e = .returned (rngV f) ∧ w = w'
theorem neB {a b : Int} (h : ¬ a = b) : (a == b) = false := by simpa using h
set_option maxRecDepth 100000 in
theorem range_1 (w : World) : Calls Tryd.prog 12 #[.int .i64 1] w (RngR 1 w) := by
  go_enter Tryd.func12, Tryd.ntmps12
  go_wp2
  go_ret3
  exact ⟨rfl, rfl⟩
set_option maxRecDepth 100000 in
theorem range_2 (w : World) : Calls Tryd.prog 12 #[.int .i64 2] w (RngR 2 w) := by
  go_enter Tryd.func12, Tryd.ntmps12
  go_wp2
  go_ret3
  exact ⟨rfl, rfl⟩
set_option maxRecDepth 100000 in
theorem range_3 (w : World) : Calls Tryd.prog 12 #[.int .i64 3] w (RngR 3 w) := by
  go_enter Tryd.func12, Tryd.ntmps12
  go_wp2
  go_ret3
  exact ⟨rfl, rfl⟩
set_option maxRecDepth 100000 in
theorem range_4 (w : World) : Calls Tryd.prog 12 #[.int .i64 4] w (RngR 4 w) := by
  go_enter Tryd.func12, Tryd.ntmps12
  go_wp2
  go_ret3
  exact ⟨rfl, rfl⟩
set_option maxRecDepth 100000 in
theorem range_5 (w : World) : Calls Tryd.prog 12 #[.int .i64 5] w (RngR 5 w) := by
  go_enter Tryd.func12, Tryd.ntmps12
  go_wp2
  go_ret3
  exact ⟨rfl, rfl⟩
set_option maxRecDepth 100000 in
theorem range_6 (w : World) : Calls Tryd.prog 12 #[.int .i64 6] w (RngR 6 w) := by
  go_enter Tryd.func12, Tryd.ntmps12
  go_wp2
  go_ret3
  exact ⟨rfl, rfl⟩
set_option maxRecDepth 100000 in
theorem range_7 (w : World) : Calls Tryd.prog 12 #[.int .i64 7] w (RngR 7 w) := by
  go_enter Tryd.func12, Tryd.ntmps12
  go_wp2
  go_ret3
  exact ⟨rfl, rfl⟩
theorem rng_no {f : Int} (h : ¬ Nu9.kindOk f) : rngV f = .tuple #[.int .i64 0, .int .i64 0, .int .i64 3] := by
  unfold rngV least most
  have : ¬ (1 ≤ f ∧ f ≤ 7) := h
  rw [if_neg (by omega), if_neg (by omega), if_neg (by omega), if_neg h]
set_option maxRecDepth 100000 in
theorem range_no (f : Int) (h : ¬ Nu9.kindOk f) (w : World) : Calls Tryd.prog 12 #[.int .i64 f] w (RngR f w) := by
  have h' : ¬ (1 ≤ f ∧ f ≤ 7) := h
  have HR := Lib.hid (rng_no h)
  have b1 : (f == 1) = false := neB (by omega)
  have b2 : (f == 2) = false := neB (by omega)
  have b3 : (f == 3) = false := neB (by omega)
  have b4 : (f == 4) = false := neB (by omega)
  have b5 : (f == 5) = false := neB (by omega)
  have b6 : (f == 6) = false := neB (by omega)
  have b7 : (f == 7) = false := neB (by omega)
  clear h h'
  go_enter Tryd.func12, Tryd.ntmps12
  go_wp2
  go_ret3
  unfold RngR
  rw [HR.out]
  exact ⟨rfl, rfl⟩
theorem kind_cases {f : Int} (h : Nu9.kindOk f) : f = 1 ∨ f = 2 ∨ f = 3 ∨ f = 4 ∨ f = 5 ∨ f = 6 ∨ f = 7 := by
  have h' : 1 ≤ f ∧ f ≤ 7 := h
  omega
theorem range_any (f : Int) (w : World) : Calls Tryd.prog 12 #[.int .i64 f] w (RngR f w) := by
  by_cases h : Nu9.kindOk f
  · rcases kind_cases h with rfl | rfl | rfl | rfl | rfl | rfl | rfl
    · exact range_1 w
    · exact range_2 w
    · exact range_3 w
    · exact range_4 w
    · exact range_5 w
    · exact range_6 w
    · exact range_7 w
  · exact range_no f h w
end Go.Proofs.YteahingapnijcaaDoor
