/- Layer 7: Check, the program's and the reference's. -/
import Derived.Test.YtbkpokipibgdfaaJ3
import Derived.Test.YtbkpokipibgdfaaJ6
import Derived.IntWalk
import Derived.Deep.QuietTactic
import Derived.BigQuiet
namespace Go.Proofs.Ytbkpokipibgdfaa
open Go.RowKit Go.Lib

def rowOf (p : Int) : Option Row := tabP.find? (fun r => r.1 == p)
def fitsB (x p : Int) : Bool := match rowOf p with
  | some r => hasG x r.2.2.1
  | none => false
def valOf (p v : Int) : Int := match rowOf p with
  | some r => valE r v
  | none => 4
theorem rowOf_mem {r : Row} (h : r ∈ tabP) : rowOf r.1 = some r := by
  unfold rowOf
  cases hf : tabP.find? (fun r' => r'.1 == r.1) with
  | none =>
    rw [List.find?_eq_none] at hf
    exact absurd (by simp) (hf r h)
  | some r' =>
    have h1 := List.find?_some hf
    have h2 := List.mem_of_find?_eq_some hf
    rw [tab_uniq h2 h (by simpa using h1)]
theorem rowOf_none {p : Int} (h : ¬ ∃ r ∈ tabP, r.1 = p) : rowOf p = none := by
  unfold rowOf
  rw [List.find?_eq_none]
  intro r hr he
  exact h ⟨r, hr, by simpa using he⟩
theorem fits_anyB (x p : Int) (w : World) : Calls Try.prog 71 #[.int .i64 x, .int .i64 p] w fun e w' => e = .returned (.bool (fitsB x p)) ∧ Below w.heap.size w w' := by
  by_cases hx : ∃ r ∈ tabP, r.1 = p
  · obtain ⟨⟨ra, rb, rc, rd, re, rf⟩, hm, rfl⟩ := hx
    have e : fitsB x (ra, rb, rc, rd, re, rf).1 = hasG x rc := by unfold fitsB; rw [rowOf_mem hm]
    rw [e]; exact fits_row ra rb rc rd re rf hm x w
  · have e : fitsB x p = false := by unfold fitsB; rw [rowOf_none hx]
    rw [e]; exact fits_no x p hx w
theorem rfits_anyB (x p : Int) (w : World) : Calls Try.prog 79 #[.int .i64 x, .int .i64 p] w fun e w' => e = .returned (.bool (fitsB x p)) ∧ Below w.heap.size w w' := by
  by_cases hx : ∃ r ∈ tabP, r.1 = p
  · obtain ⟨⟨ra, rb, rc, rd, re, rf⟩, hm, rfl⟩ := hx
    have e : fitsB x (ra, rb, rc, rd, re, rf).1 = hasG x rc := by unfold fitsB; rw [rowOf_mem hm]
    rw [e]; exact rfits_row x ra rb rc rd re rf hm w
  · have e : fitsB x p = false := by unfold fitsB; rw [rowOf_none hx]
    rw [e]; exact rfits_no x p hx w
theorem checkv_anyB (p v : Int) (w : World) : Calls Try.prog 72 #[.int .i64 p, .int .i64 v] w fun e w' => e = .returned (.int .i64 (valOf p v)) ∧ Below w.heap.size w w' := by
  by_cases hx : ∃ r ∈ tabP, r.1 = p
  · obtain ⟨⟨ra, rb, rc, rd, re, rf⟩, hm, rfl⟩ := hx
    have e : valOf (ra, rb, rc, rd, re, rf).1 v = valE (ra, rb, rc, rd, re, rf) v := by unfold valOf; rw [rowOf_mem hm]
    rw [e]; exact checkv_row ra rb rc rd re rf hm v w
  · have e : valOf p v = 4 := by unfold valOf; rw [rowOf_none hx]
    rw [e]; exact checkv_no p v hx w
/-- The lows and highs of a key's row, zero where there is none. -/
def rowZ (p : Int) : Row := (rowOf p).getD (0, ⟨#[]⟩, 0, 0, 0, 0)
theorem of_anyB (p : Int) (w : World) : Calls Try.prog 35 #[.int .i64 p] w fun e w' => (∃ b, e = .returned (.tuple #[.agg #[.int .i64 (rowZ p).1, .int .i64 (rowZ p).2.2.1, .int .i64 (rowZ p).2.2.2.1, .int .i64 (rowZ p).2.2.2.2.1, .int .i64 (rowZ p).2.2.2.2.2, .string (rowZ p).2.1], .bool b])) ∧ Below w.heap.size w w' := by
  by_cases hx : ∃ r ∈ tabP, r.1 = p
  · obtain ⟨⟨ra, rb, rc, rd, re, rf⟩, hm, rfl⟩ := hx
    have e : rowZ (ra, rb, rc, rd, re, rf).1 = (ra, rb, rc, rd, re, rf) := by unfold rowZ; rw [rowOf_mem hm]; rfl
    rw [e]; exact (of_row ra rb rc rd re rf hm w).mono fun _ _ ⟨h1, h2⟩ => ⟨⟨true, h1⟩, h2⟩
  · have e : rowZ p = (0, ⟨#[]⟩, 0, 0, 0, 0) := by unfold rowZ; rw [rowOf_none hx]; rfl
    rw [e]; exact (of_no p hx w).mono fun _ _ ⟨h1, h2⟩ => ⟨⟨false, h1⟩, h2⟩
theorem valOf_row {x p v : Int} (h : fitsB x p = true) : valOf p v = if v < (rowZ p).2.2.2.1 ∨ (rowZ p).2.2.2.2.1 < v then 5 else 0 := by
  unfold fitsB at h
  cases hr : rowOf p with
  | none => rw [hr] at h; cases h
  | some r => unfold valOf rowZ; rw [hr]; rfl
/-- The error of one property of a list. -/
def errK (x : Int) (l : List Pr) (k : Nat) : Int :=
  if fitsB x (l.getD k (0, 0)).1 = false then 4
  else if 0 < k ∧ (l.getD k (0, 0)).1 = (l.getD (k - 1) (0, 0)).1 then 7
  else if 0 < k ∧ (l.getD k (0, 0)).1 < (l.getD (k - 1) (0, 0)).1 then 6
  else valOf (l.getD k (0, 0)).1 (l.getD k (0, 0)).2
/-- The first error of a list. -/
def chkP (x : Int) (l : List Pr) : Int := if x < 1 ∨ 10 < x then 3 else (((List.range l.length).map (errK x l)).find? (fun e => e != 0)).getD 0
theorem chk_find (f : Nat → Int) (n k : Nat) (hk : k < n) (h0 : ∀ j, j < k → f j = 0) (h1 : f k ≠ 0) : (((List.range n).map f).find? (fun e => e != 0)).getD 0 = f k := by
  have : ((List.range n).map f).find? (fun e => e != 0) = some (f k) := by
    rw [List.find?_eq_some_iff_getElem]
    refine ⟨by simpa using h1, k, by simpa using hk, by simp, fun j hj => ?_⟩
    have hj2 : j < n := by omega
    simp [h0 j hj]
  rw [this]; rfl
theorem chk_none (f : Nat → Int) (n : Nat) (h0 : ∀ j, j < n → f j = 0) : (((List.range n).map f).find? (fun e => e != 0)).getD 0 = 0 := by
  have : ((List.range n).map f).find? (fun e => e != 0) = none := by
    rw [List.find?_eq_none]
    intro e he
    obtain ⟨j, hj, rfl⟩ := List.mem_map.1 he
    simp [h0 j (List.mem_range.1 hj)]
  rw [this]; rfl
theorem chk_at {x : Int} {l : List Pr} {k : Nat} (hx : 1 ≤ x ∧ x ≤ 10) (hk : k < l.length) (h0 : ∀ j, j < k → errK x l j = 0) (c : Int) (he : errK x l k = c) (hc : c ≠ 0) : chkP x l = c := by
  unfold chkP
  rw [if_neg (by omega), chk_find (errK x l) l.length k hk h0 (by rw [he]; exact hc), he]
theorem chk_end {x : Int} {l : List Pr} (hx : 1 ≤ x ∧ x ≤ 10) (h0 : ∀ j, j < l.length → errK x l j = 0) : chkP x l = 0 := by
  unfold chkP
  rw [if_neg (by omega), chk_none (errK x l) l.length h0]
theorem chk_bad {x : Int} {l : List Pr} (hx : ¬ (1 ≤ x ∧ x ≤ 10)) : chkP x l = 3 := by
  unfold chkP
  rw [if_pos (by omega)]
theorem errK_4 {x : Int} {l : List Pr} {k : Nat} {y : Pr} (hy : l.getD k (0, 0) = y) (h : fitsB x y.1 = false) : errK x l k = 4 := by unfold errK; rw [hy, if_pos h]
theorem errK_7 {x : Int} {l : List Pr} {k : Nat} {y z : Pr} (hy : l.getD (k + 1) (0, 0) = y) (hz : l.getD k (0, 0) = z) (h : fitsB x y.1 = true) (he : y.1 = z.1) : errK x l (k + 1) = 7 := by
  unfold errK; rw [hy, Nat.add_sub_cancel, hz, if_neg (by rw [h]; decide), if_pos ⟨by omega, he⟩]
theorem errK_6 {x : Int} {l : List Pr} {k : Nat} {y z : Pr} (hy : l.getD (k + 1) (0, 0) = y) (hz : l.getD k (0, 0) = z) (h : fitsB x y.1 = true) (he : y.1 < z.1) : errK x l (k + 1) = 6 := by
  unfold errK; rw [hy, Nat.add_sub_cancel, hz, if_neg (by rw [h]; decide), if_neg (by omega), if_pos ⟨by omega, he⟩]
theorem errK_v {x : Int} {l : List Pr} {k : Nat} {y z : Pr} (hy : l.getD (k + 1) (0, 0) = y) (hz : l.getD k (0, 0) = z) (h : fitsB x y.1 = true) (he : z.1 < y.1) : errK x l (k + 1) = valOf y.1 y.2 := by
  unfold errK; rw [hy, Nat.add_sub_cancel, hz, if_neg (by rw [h]; decide), if_neg (by omega), if_neg (by omega)]
theorem errK_0 {x : Int} {l : List Pr} {y : Pr} (hy : l.getD 0 (0, 0) = y) (h : fitsB x y.1 = true) : errK x l 0 = valOf y.1 y.2 := by
  unfold errK; rw [hy, if_neg (by rw [h]; decide), if_neg (by omega), if_neg (by omega)]
end Go.Proofs.Ytbkpokipibgdfaa
