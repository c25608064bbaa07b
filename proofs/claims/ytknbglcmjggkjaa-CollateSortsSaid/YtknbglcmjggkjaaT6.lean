/- Layer 6: appendPoint (52). -/
import Derived.Test.YtknbglcmjggkjaaT5
namespace Go.Proofs.Ytknbglcmjggkjaa
open Go.RowKit Go.Lib Co

theorem mkC_get (st : Int) (nu ig uf : Bool) (up : Int) (k : Nat) : (mkC st nu ig uf up)[k]? = if k < 5 then (#[Value.int .i64 st, .bool nu, .bool ig, .bool uf, .int .i64 up] : Array Value)[k]? else PT[k - 5]? := by
  unfold mkC
  rw [Array.getElem?_append]
  rfl
/-- The tertiary weight of a capital letter. -/
def upN (uf : Bool) : Nat := if uf then 1 else 3
theorem MkAt.cell {w : World} {b : Nat} {st : Int} {nu ig uf : Bool} (h : MkAt w b st nu ig uf) (k : Nat) : w.cell? ⟨b, k, none⟩ = (mkC st nu ig uf (if uf then 1 else 3))[k]? := by
  unfold MkAt at h
  simp [World.cell?, h]
theorem MkAt.opts {w : World} {b : Nat} {st : Int} {nu ig uf : Bool} (h : MkAt w b st nu ig uf) : w.cell? ⟨b, 1, none⟩ = some (.bool nu) ∧ w.cell? ⟨b, 2, none⟩ = some (.bool ig) ∧ w.cell? ⟨b, 4, none⟩ = some (.int .i64 (upN uf : Nat)) := by
  rw [h.cell, h.cell, h.cell, mkC_get, mkC_get, mkC_get]
  cases uf <;> exact ⟨rfl, rfl, rfl⟩
theorem MkAt.pairs {w : World} {b : Nat} {st : Int} {nu ig uf : Bool} (h : MkAt w b st nu ig uf) {c : Nat} (hc : c < 256) : w.cell? ⟨b, 5 + c * 2, none⟩ = some (.int .i64 ((pairN c).1 : Nat)) ∧ w.cell? ⟨b, 5 + c * 2 + 1, none⟩ = some (.int .i64 ((pairN c).2 : Nat)) := by
  rw [h.cell, h.cell, mkC_get, mkC_get, if_neg (by omega), if_neg (by omega), show 5 + c * 2 - 5 = c * 2 by omega, show 5 + c * 2 + 1 - 5 = c * 2 + 1 by omega, PT_get (by omega), PT_get (by omega)]
  unfold tabF
  rw [if_pos (by omega), if_neg (by omega), show c * 2 / 2 = c by omega, show (c * 2 + 1) / 2 = c by omega]
  exact ⟨rfl, rfl⟩
theorem letter_el (y t : Int) (x : El) (i s : Nat) (hy : y = (i : Nat)) (ht : t = (s : Nat)) (hx : x = (32768 + 4 * i, 32, s)) (hi : i ≤ 1000000) (w : World) : Calls Try.prog 76 #[.int .i64 y, .int .i64 t] w (ElR x w) := by
  subst hy ht hx
  exact letter_any i s w hi
theorem Els.nil {B : Nat} {w : World} {v : Value} {l : List El} {m : List El} (h : Els B w v l) (hm : m = []) : Els B w v (l ++ m) := by
  rw [hm, List.append_nil]; exact h
theorem Els.one {B : Nat} {w : World} {v : Value} {l : List El} {x : El} {m : List El} (h : w.ownsRow B 37 3 v (l.length + 1) (elsC l ++ elC x)) (hm : m = [x]) : Els B w v (l ++ m) := by
  rw [hm]; exact Els.snoc h
theorem built37 (y : Int) : Program.built Try.prog 37 [(1, .int .i64 y)] = some #[.int .i64 0, .int .i64 y, .int .i64 0] := by kernel_rfl
/-- What appending elements hands back. -/
def ElsRet (W0 : World) (l : List El) (e : Ending) (w' : World) : Prop := ∃ v', e = .returned v' ∧ Els W0.heap.size w' v' l ∧ Below W0.heap.size W0 w'
set_option maxRecDepth 100000 in
set_option maxHeartbeats 4000000 in
theorem one_silent {st : Int} {nu ig uf : Bool} {b c : Nat} {v : Value} {l : List El} {W0 : World} (w : World) (hm : MkAt W0 b st nu ig uf) (hb : Below W0.heap.size W0 w) (hv : Els W0.heap.size w v l) (hc : c ≤ 1114111) (hs : silent c = true) :
    Calls Try.prog 52 #[.pointer (some ⟨b, 0, none⟩), v, .int .i64 (c : Nat)] w (ElsRet W0 (l ++ oneE (upN uf) ig c)) := by
  have hg : b < W0.heap.size := (Array.getElem?_eq_some_iff.1 hm).1
  have hs0 := hb.size
  obtain ⟨i0, hi, hz0, hz1, hz2⟩ := info_parts elInfo
  obtain ⟨q1, q2, q4⟩ := hm.opts
  have o2 := (hb.cell (p := ⟨b, 2, none⟩) hg).trans q2
  have o4 := (hb.cell (p := ⟨b, 4, none⟩) hg).trans q4
  clear q1 q2 q4
  have HE := Go.Lib.hid (show oneE (upN uf) ig c = [] by simp [oneE, hs])
  go_enter Try.func52, Try.ntmps52
  go_wp2_with (first
    | (go_at_call 75; (with_reducible refine (silent_any c _ (by omega)).mono ?_); rintro e w4 ⟨rfl, rfl⟩)
    | (go_at_call 73; (with_reducible refine (digit_any c _ (by omega)).mono ?_); rintro e w4 ⟨rfl, rfl⟩))
  go_ret
  exact ⟨_, rfl, Els.nil hv HE.out, hb⟩
set_option maxRecDepth 100000 in
set_option maxHeartbeats 4000000 in
theorem one_digit {st : Int} {nu ig uf : Bool} {b c : Nat} {v : Value} {l : List El} {W0 : World} (w : World) (hm : MkAt W0 b st nu ig uf) (hb : Below W0.heap.size W0 w) (hv : Els W0.heap.size w v l) (hl : l.length ≤ 100000) (hc : c ≤ 1114111) (hdg : dig c = true) (hns : silent c = false) :
    Calls Try.prog 52 #[.pointer (some ⟨b, 0, none⟩), v, .int .i64 (c : Nat)] w (ElsRet W0 (l ++ oneE (upN uf) ig c)) := by
  have hg : b < W0.heap.size := (Array.getElem?_eq_some_iff.1 hm).1
  have hs0 := hb.size
  obtain ⟨i0, hi, hz0, hz1, hz2⟩ := info_parts elInfo
  obtain ⟨q1, q2, q4⟩ := hm.opts
  have o2 := (hb.cell (p := ⟨b, 2, none⟩) hg).trans q2
  have o4 := (hb.cell (p := ⟨b, 4, none⟩) hg).trans q4
  clear q1 q2 q4
  have hd1 : 48 ≤ c ∧ c ≤ 57 := by simpa [dig] using hdg
  obtain ⟨x, hx⟩ : ∃ x : El, x = (512 + (c - 48), 32, 2) := ⟨_, rfl⟩
  have HX := Go.Lib.hid (show (x.1 : Int) = 512 + (c : Int) - 48 ∧ x.2 = (32, 2) by rw [hx]; exact ⟨by simp only []; omega, rfl⟩)
  have HE := Go.Lib.hid (show oneE (upN uf) ig c = [x] by rw [hx]; unfold oneE; rw [if_neg (by simp [hns]), if_pos hdg])
  have m1 : (512 : Int) + (c : Nat) ≤ 9223372036854775807 := by omega
  clear hx
  go_enter Try.func52, Try.ntmps52
  go_wp2_with (first
    | (go_at_call 75; (with_reducible refine (silent_any c _ (by omega)).mono ?_); rintro e w4 ⟨rfl, rfl⟩)
    | (go_at_call 73; (with_reducible refine (digit_any c _ (by omega)).mono ?_); rintro e w4 ⟨rfl, rfl⟩)
    | (go_at_call 74; (with_reducible refine (base_el _ x HX.out _).mono ?_); rintro e w2 ⟨rfl, k2⟩; have hv2 := hv.below k2; have s2 := k2.size; unfold elV)
    | (at_builtin; go_loud (refine wpList_append_own _ rfl _ _ 25 rfl W0.heap.size 37 i0 _ 3 24 Try.underlying25 hi hz0 hz1 hz2 rfl (by decide) _ _ _ rfl (World.ownsRow.alloc hv2 _) ⟨w2.heap.size, 0, none⟩ 1 1 (elC x) rfl rfl (el_new _ x _) (el_one x) (by unfold maxLen; omega) (by omega) (by simp; omega) ?_; intro v1 w1 hown1 hgrow1 _)))
  have HV1 := Go.Lib.hid (Els.one hown1 HE.out)
  have HB1 := Go.Lib.hid (((hb.trans (k2.mono hs0)).alloc (by omega) _).grown hgrow1 (by simp; omega) (fun j e => (World.ownsRow.lt (show World.ownsRow _ _ _ _ _ _ _ from hv2) j e).1))
  clear hown1 hgrow1 hv2 k2 s2
  go_wp2
  go_ret
  exact ⟨_, rfl, HV1.out, HB1.out⟩
set_option maxRecDepth 100000 in
set_option maxHeartbeats 4000000 in
theorem one_small {st : Int} {nu ig uf : Bool} {b c : Nat} {v : Value} {l : List El} {W0 : World} (w : World) (hm : MkAt W0 b st nu ig uf) (hb : Below W0.heap.size W0 w) (hv : Els W0.heap.size w v l) (hl : l.length ≤ 100000) (hc : c ≤ 1114111) (hns : silent c = false) (hnd : dig c = false) (h1 : 97 ≤ c) (h2 : c ≤ 122) :
    Calls Try.prog 52 #[.pointer (some ⟨b, 0, none⟩), v, .int .i64 (c : Nat)] w (ElsRet W0 (l ++ oneE (upN uf) ig c)) := by
  have hg : b < W0.heap.size := (Array.getElem?_eq_some_iff.1 hm).1
  have hs0 := hb.size
  obtain ⟨i0, hi, hz0, hz1, hz2⟩ := info_parts elInfo
  obtain ⟨q1, q2, q4⟩ := hm.opts
  have o2 := (hb.cell (p := ⟨b, 2, none⟩) hg).trans q2
  have o4 := (hb.cell (p := ⟨b, 4, none⟩) hg).trans q4
  clear q1 q2 q4
  have f0 : ((97 : Int) ≤ c) := by omega
  have f1 : ((c : Int) ≤ 122) := by omega
  obtain ⟨x, hx⟩ : ∃ x : El, x = (32768 + 4 * (c - 97), 32, 2) := ⟨_, rfl⟩
  have HX := Go.Lib.hid hx
  have HE := Go.Lib.hid (show oneE (upN uf) ig c = [x] by rw [hx]; unfold oneE; rw [if_neg (by simp [hns]), if_neg (by simp [hnd]), if_pos ⟨h1, h2⟩])
  clear hx
  go_enter Try.func52, Try.ntmps52
  go_wp2_with (first
    | (go_at_call 75; (with_reducible refine (silent_any c _ (by omega)).mono ?_); rintro e w4 ⟨rfl, rfl⟩)
    | (go_at_call 73; (with_reducible refine (digit_any c _ (by omega)).mono ?_); rintro e w4 ⟨rfl, rfl⟩)
    | (go_at_call 76; (with_reducible refine (letter_el _ _ x (c - 97) 2 (by omega) (by simp) HX.out (by omega) _).mono ?_); rintro e w2 ⟨rfl, k2⟩; have hv2 := hv.below k2; have s2 := k2.size; unfold elV)
    | (at_builtin; go_loud (refine wpList_append_own _ rfl _ _ 25 rfl W0.heap.size 37 i0 _ 3 24 Try.underlying25 hi hz0 hz1 hz2 rfl (by decide) _ _ _ rfl (World.ownsRow.alloc hv2 _) ⟨w2.heap.size, 0, none⟩ 1 1 (elC x) rfl rfl (el_new _ x _) (el_one x) (by unfold maxLen; omega) (by omega) (by simp; omega) ?_; intro v1 w1 hown1 hgrow1 _)))
  have HV1 := Go.Lib.hid (Els.one hown1 HE.out)
  have HB1 := Go.Lib.hid (((hb.trans (k2.mono hs0)).alloc (by omega) _).grown hgrow1 (by simp; omega) (fun j e => (World.ownsRow.lt (show World.ownsRow _ _ _ _ _ _ _ from hv2) j e).1))
  clear hown1 hgrow1 hv2 k2 s2
  go_wp2
  go_ret
  exact ⟨_, rfl, HV1.out, HB1.out⟩
set_option maxRecDepth 100000 in
set_option maxHeartbeats 4000000 in
theorem one_capital {st : Int} {nu ig uf : Bool} {b c : Nat} {v : Value} {l : List El} {W0 : World} (w : World) (hm : MkAt W0 b st nu ig uf) (hb : Below W0.heap.size W0 w) (hv : Els W0.heap.size w v l) (hl : l.length ≤ 100000) (hc : c ≤ 1114111) (hns : silent c = false) (hnd : dig c = false) (h1 : 65 ≤ c) (h2 : c ≤ 90) :
    Calls Try.prog 52 #[.pointer (some ⟨b, 0, none⟩), v, .int .i64 (c : Nat)] w (ElsRet W0 (l ++ oneE (upN uf) ig c)) := by
  have hg : b < W0.heap.size := (Array.getElem?_eq_some_iff.1 hm).1
  have hs0 := hb.size
  obtain ⟨i0, hi, hz0, hz1, hz2⟩ := info_parts elInfo
  obtain ⟨q1, q2, q4⟩ := hm.opts
  have o2 := (hb.cell (p := ⟨b, 2, none⟩) hg).trans q2
  have o4 := (hb.cell (p := ⟨b, 4, none⟩) hg).trans q4
  clear q1 q2 q4
  have f0 : ¬ ((97 : Int) ≤ c) := by omega
  have f1 : ((65 : Int) ≤ c) := by omega
  have f2 : ((c : Int) ≤ 90) := by omega
  obtain ⟨x, hx⟩ : ∃ x : El, x = (32768 + 4 * (c - 65), 32, upN uf) := ⟨_, rfl⟩
  have HX := Go.Lib.hid hx
  have HE := Go.Lib.hid (show oneE (upN uf) ig c = [x] by rw [hx]; unfold oneE; rw [if_neg (by simp [hns]), if_neg (by simp [hnd]), if_neg (by omega), if_pos ⟨h1, h2⟩])
  clear hx
  go_enter Try.func52, Try.ntmps52
  go_wp2_with (first
    | (go_at_call 75; (with_reducible refine (silent_any c _ (by omega)).mono ?_); rintro e w4 ⟨rfl, rfl⟩)
    | (go_at_call 73; (with_reducible refine (digit_any c _ (by omega)).mono ?_); rintro e w4 ⟨rfl, rfl⟩)
    | (go_at_call 76; (with_reducible refine (letter_el _ _ x (c - 65) (upN uf) (by omega) rfl HX.out (by omega) _).mono ?_); rintro e w2 ⟨rfl, k2⟩; have hv2 := hv.below k2; have s2 := k2.size; unfold elV)
    | (at_builtin; go_loud (refine wpList_append_own _ rfl _ _ 25 rfl W0.heap.size 37 i0 _ 3 24 Try.underlying25 hi hz0 hz1 hz2 rfl (by decide) _ _ _ rfl (World.ownsRow.alloc hv2 _) ⟨w2.heap.size, 0, none⟩ 1 1 (elC x) rfl rfl (el_new _ x _) (el_one x) (by unfold maxLen; omega) (by omega) (by simp; omega) ?_; intro v1 w1 hown1 hgrow1 _)))
  have HV1 := Go.Lib.hid (Els.one hown1 HE.out)
  have HB1 := Go.Lib.hid (((hb.trans (k2.mono hs0)).alloc (by omega) _).grown hgrow1 (by simp; omega) (fun j e => (World.ownsRow.lt (show World.ownsRow _ _ _ _ _ _ _ from hv2) j e).1))
  clear hown1 hgrow1 hv2 k2 s2
  go_wp2
  go_ret
  exact ⟨_, rfl, HV1.out, HB1.out⟩
set_option maxRecDepth 100000 in
set_option maxHeartbeats 4000000 in
theorem one_sign_low {st : Int} {nu ig uf : Bool} {b c : Nat} {v : Value} {l : List El} {W0 : World} (w : World) (hm : MkAt W0 b st nu ig uf) (hb : Below W0.heap.size W0 w) (hv : Els W0.heap.size w v l) (hl : l.length ≤ 100000) (hc : c ≤ 1114111) (hns : silent c = false) (hnd : dig c = false) (h1 : c < 65) :
    Calls Try.prog 52 #[.pointer (some ⟨b, 0, none⟩), v, .int .i64 (c : Nat)] w (ElsRet W0 (l ++ oneE (upN uf) ig c)) := by
  have hg : b < W0.heap.size := (Array.getElem?_eq_some_iff.1 hm).1
  have hs0 := hb.size
  obtain ⟨i0, hi, hz0, hz1, hz2⟩ := info_parts elInfo
  obtain ⟨q1, q2, q4⟩ := hm.opts
  have o2 := (hb.cell (p := ⟨b, 2, none⟩) hg).trans q2
  have o4 := (hb.cell (p := ⟨b, 4, none⟩) hg).trans q4
  clear q1 q2 q4
  have f0 : ¬ ((97 : Int) ≤ c) := by omega
  have f1 : ¬ ((65 : Int) ≤ c) := by omega
  have f2 : ((c : Int) < 128) := by omega
  obtain ⟨x, hx⟩ : ∃ x : El, x = (256 + c, 32, 2) := ⟨_, rfl⟩
  have HX := Go.Lib.hid (show (x.1 : Int) = 256 + (c : Int) ∧ x.2 = (32, 2) by rw [hx]; exact ⟨by simp only []; omega, rfl⟩)
  have HE1 := Go.Lib.hid (fun (h : ig = false) => (show oneE (upN uf) ig c = [x] by rw [hx, h]; unfold oneE; rw [if_neg (by simp [hns]), if_neg (by simp [hnd]), if_neg (by omega), if_neg (by omega), if_pos (by omega), if_neg (by simp)]))
  have HE0 := Go.Lib.hid (fun (h : ig = true) => (show oneE (upN uf) ig c = [] by rw [h]; unfold oneE; rw [if_neg (by simp [hns]), if_neg (by simp [hnd]), if_neg (by omega), if_neg (by omega), if_pos (by omega), if_pos rfl]))
  clear hx
  cases ig with
  | true =>
    have HE := Go.Lib.hid (HE0.out rfl)
    go_enter Try.func52, Try.ntmps52
    go_wp2_with (first
      | (go_at_call 75; (with_reducible refine (silent_any c _ (by omega)).mono ?_); rintro e w4 ⟨rfl, rfl⟩)
      | (go_at_call 73; (with_reducible refine (digit_any c _ (by omega)).mono ?_); rintro e w4 ⟨rfl, rfl⟩))
    go_ret
    exact ⟨_, rfl, Els.nil hv HE.out, hb⟩
  | false =>
    have HE := Go.Lib.hid (HE1.out rfl)
    go_enter Try.func52, Try.ntmps52
    go_wp2_with (first
      | (go_at_call 75; (with_reducible refine (silent_any c _ (by omega)).mono ?_); rintro e w4 ⟨rfl, rfl⟩)
      | (go_at_call 73; (with_reducible refine (digit_any c _ (by omega)).mono ?_); rintro e w4 ⟨rfl, rfl⟩)
      | (go_at_call 74; (with_reducible refine (base_el _ x HX.out _).mono ?_); rintro e w2 ⟨rfl, k2⟩; have hv2 := hv.below k2; have s2 := k2.size; unfold elV)
      | (at_builtin; go_loud (refine wpList_append_own _ rfl _ _ 25 rfl W0.heap.size 37 i0 _ 3 24 Try.underlying25 hi hz0 hz1 hz2 rfl (by decide) _ _ _ rfl (World.ownsRow.alloc hv2 _) ⟨w2.heap.size, 0, none⟩ 1 1 (elC x) rfl rfl (el_new _ x _) (el_one x) (by unfold maxLen; omega) (by omega) (by simp; omega) ?_; intro v1 w1 hown1 hgrow1 _)))
    have HV1 := Go.Lib.hid (Els.one hown1 HE.out)
    have HB1 := Go.Lib.hid (((hb.trans (k2.mono hs0)).alloc (by omega) _).grown hgrow1 (by simp; omega) (fun j e => (World.ownsRow.lt (show World.ownsRow _ _ _ _ _ _ _ from hv2) j e).1))
    clear hown1 hgrow1 hv2 k2 s2
    go_wp2
    go_ret
    exact ⟨_, rfl, HV1.out, HB1.out⟩
set_option maxRecDepth 100000 in
set_option maxHeartbeats 4000000 in
theorem one_sign_mid {st : Int} {nu ig uf : Bool} {b c : Nat} {v : Value} {l : List El} {W0 : World} (w : World) (hm : MkAt W0 b st nu ig uf) (hb : Below W0.heap.size W0 w) (hv : Els W0.heap.size w v l) (hl : l.length ≤ 100000) (hc : c ≤ 1114111) (hns : silent c = false) (hnd : dig c = false) (h1 : 90 < c) (h2 : c < 97) :
    Calls Try.prog 52 #[.pointer (some ⟨b, 0, none⟩), v, .int .i64 (c : Nat)] w (ElsRet W0 (l ++ oneE (upN uf) ig c)) := by
  have hg : b < W0.heap.size := (Array.getElem?_eq_some_iff.1 hm).1
  have hs0 := hb.size
  obtain ⟨i0, hi, hz0, hz1, hz2⟩ := info_parts elInfo
  obtain ⟨q1, q2, q4⟩ := hm.opts
  have o2 := (hb.cell (p := ⟨b, 2, none⟩) hg).trans q2
  have o4 := (hb.cell (p := ⟨b, 4, none⟩) hg).trans q4
  clear q1 q2 q4
  have f0 : ¬ ((97 : Int) ≤ c) := by omega
  have f1 : ((65 : Int) ≤ c) := by omega
  have f2 : ¬ ((c : Int) ≤ 90) := by omega
  have f3 : ((c : Int) < 128) := by omega
  obtain ⟨x, hx⟩ : ∃ x : El, x = (256 + c, 32, 2) := ⟨_, rfl⟩
  have HX := Go.Lib.hid (show (x.1 : Int) = 256 + (c : Int) ∧ x.2 = (32, 2) by rw [hx]; exact ⟨by simp only []; omega, rfl⟩)
  have HE1 := Go.Lib.hid (fun (h : ig = false) => (show oneE (upN uf) ig c = [x] by rw [hx, h]; unfold oneE; rw [if_neg (by simp [hns]), if_neg (by simp [hnd]), if_neg (by omega), if_neg (by omega), if_pos (by omega), if_neg (by simp)]))
  have HE0 := Go.Lib.hid (fun (h : ig = true) => (show oneE (upN uf) ig c = [] by rw [h]; unfold oneE; rw [if_neg (by simp [hns]), if_neg (by simp [hnd]), if_neg (by omega), if_neg (by omega), if_pos (by omega), if_pos rfl]))
  clear hx
  cases ig with
  | true =>
    have HE := Go.Lib.hid (HE0.out rfl)
    go_enter Try.func52, Try.ntmps52
    go_wp2_with (first
      | (go_at_call 75; (with_reducible refine (silent_any c _ (by omega)).mono ?_); rintro e w4 ⟨rfl, rfl⟩)
      | (go_at_call 73; (with_reducible refine (digit_any c _ (by omega)).mono ?_); rintro e w4 ⟨rfl, rfl⟩))
    go_ret
    exact ⟨_, rfl, Els.nil hv HE.out, hb⟩
  | false =>
    have HE := Go.Lib.hid (HE1.out rfl)
    go_enter Try.func52, Try.ntmps52
    go_wp2_with (first
      | (go_at_call 75; (with_reducible refine (silent_any c _ (by omega)).mono ?_); rintro e w4 ⟨rfl, rfl⟩)
      | (go_at_call 73; (with_reducible refine (digit_any c _ (by omega)).mono ?_); rintro e w4 ⟨rfl, rfl⟩)
      | (go_at_call 74; (with_reducible refine (base_el _ x HX.out _).mono ?_); rintro e w2 ⟨rfl, k2⟩; have hv2 := hv.below k2; have s2 := k2.size; unfold elV)
      | (at_builtin; go_loud (refine wpList_append_own _ rfl _ _ 25 rfl W0.heap.size 37 i0 _ 3 24 Try.underlying25 hi hz0 hz1 hz2 rfl (by decide) _ _ _ rfl (World.ownsRow.alloc hv2 _) ⟨w2.heap.size, 0, none⟩ 1 1 (elC x) rfl rfl (el_new _ x _) (el_one x) (by unfold maxLen; omega) (by omega) (by simp; omega) ?_; intro v1 w1 hown1 hgrow1 _)))
    have HV1 := Go.Lib.hid (Els.one hown1 HE.out)
    have HB1 := Go.Lib.hid (((hb.trans (k2.mono hs0)).alloc (by omega) _).grown hgrow1 (by simp; omega) (fun j e => (World.ownsRow.lt (show World.ownsRow _ _ _ _ _ _ _ from hv2) j e).1))
    clear hown1 hgrow1 hv2 k2 s2
    go_wp2
    go_ret
    exact ⟨_, rfl, HV1.out, HB1.out⟩
set_option maxRecDepth 100000 in
set_option maxHeartbeats 4000000 in
theorem one_sign_high {st : Int} {nu ig uf : Bool} {b c : Nat} {v : Value} {l : List El} {W0 : World} (w : World) (hm : MkAt W0 b st nu ig uf) (hb : Below W0.heap.size W0 w) (hv : Els W0.heap.size w v l) (hl : l.length ≤ 100000) (hc : c ≤ 1114111) (hns : silent c = false) (hnd : dig c = false) (h1 : 122 < c) (h2 : c < 128) :
    Calls Try.prog 52 #[.pointer (some ⟨b, 0, none⟩), v, .int .i64 (c : Nat)] w (ElsRet W0 (l ++ oneE (upN uf) ig c)) := by
  have hg : b < W0.heap.size := (Array.getElem?_eq_some_iff.1 hm).1
  have hs0 := hb.size
  obtain ⟨i0, hi, hz0, hz1, hz2⟩ := info_parts elInfo
  obtain ⟨q1, q2, q4⟩ := hm.opts
  have o2 := (hb.cell (p := ⟨b, 2, none⟩) hg).trans q2
  have o4 := (hb.cell (p := ⟨b, 4, none⟩) hg).trans q4
  clear q1 q2 q4
  have f0 : ((97 : Int) ≤ c) := by omega
  have f1 : ¬ ((c : Int) ≤ 122) := by omega
  have f2 : ((65 : Int) ≤ c) := by omega
  have f3 : ¬ ((c : Int) ≤ 90) := by omega
  have f4 : ((c : Int) < 128) := by omega
  obtain ⟨x, hx⟩ : ∃ x : El, x = (256 + c, 32, 2) := ⟨_, rfl⟩
  have HX := Go.Lib.hid (show (x.1 : Int) = 256 + (c : Int) ∧ x.2 = (32, 2) by rw [hx]; exact ⟨by simp only []; omega, rfl⟩)
  have HE1 := Go.Lib.hid (fun (h : ig = false) => (show oneE (upN uf) ig c = [x] by rw [hx, h]; unfold oneE; rw [if_neg (by simp [hns]), if_neg (by simp [hnd]), if_neg (by omega), if_neg (by omega), if_pos (by omega), if_neg (by simp)]))
  have HE0 := Go.Lib.hid (fun (h : ig = true) => (show oneE (upN uf) ig c = [] by rw [h]; unfold oneE; rw [if_neg (by simp [hns]), if_neg (by simp [hnd]), if_neg (by omega), if_neg (by omega), if_pos (by omega), if_pos rfl]))
  clear hx
  cases ig with
  | true =>
    have HE := Go.Lib.hid (HE0.out rfl)
    go_enter Try.func52, Try.ntmps52
    go_wp2_with (first
      | (go_at_call 75; (with_reducible refine (silent_any c _ (by omega)).mono ?_); rintro e w4 ⟨rfl, rfl⟩)
      | (go_at_call 73; (with_reducible refine (digit_any c _ (by omega)).mono ?_); rintro e w4 ⟨rfl, rfl⟩))
    go_ret
    exact ⟨_, rfl, Els.nil hv HE.out, hb⟩
  | false =>
    have HE := Go.Lib.hid (HE1.out rfl)
    go_enter Try.func52, Try.ntmps52
    go_wp2_with (first
      | (go_at_call 75; (with_reducible refine (silent_any c _ (by omega)).mono ?_); rintro e w4 ⟨rfl, rfl⟩)
      | (go_at_call 73; (with_reducible refine (digit_any c _ (by omega)).mono ?_); rintro e w4 ⟨rfl, rfl⟩)
      | (go_at_call 74; (with_reducible refine (base_el _ x HX.out _).mono ?_); rintro e w2 ⟨rfl, k2⟩; have hv2 := hv.below k2; have s2 := k2.size; unfold elV)
      | (at_builtin; go_loud (refine wpList_append_own _ rfl _ _ 25 rfl W0.heap.size 37 i0 _ 3 24 Try.underlying25 hi hz0 hz1 hz2 rfl (by decide) _ _ _ rfl (World.ownsRow.alloc hv2 _) ⟨w2.heap.size, 0, none⟩ 1 1 (elC x) rfl rfl (el_new _ x _) (el_one x) (by unfold maxLen; omega) (by omega) (by simp; omega) ?_; intro v1 w1 hown1 hgrow1 _)))
    have HV1 := Go.Lib.hid (Els.one hown1 HE.out)
    have HB1 := Go.Lib.hid (((hb.trans (k2.mono hs0)).alloc (by omega) _).grown hgrow1 (by simp; omega) (fun j e => (World.ownsRow.lt (show World.ownsRow _ _ _ _ _ _ _ from hv2) j e).1))
    clear hown1 hgrow1 hv2 k2 s2
    go_wp2
    go_ret
    exact ⟨_, rfl, HV1.out, HB1.out⟩
set_option maxRecDepth 100000 in
set_option maxHeartbeats 4000000 in
theorem one_mark {st : Int} {nu ig uf : Bool} {b c : Nat} {v : Value} {l : List El} {W0 : World} (w : World) (hm : MkAt W0 b st nu ig uf) (hb : Below W0.heap.size W0 w) (hv : Els W0.heap.size w v l) (hl : l.length ≤ 100000) (hc : c ≤ 1114111) (hns : silent c = false) (hnd : dig c = false) (h1 : 768 ≤ c) (h2 : c ≤ 879) :
    Calls Try.prog 52 #[.pointer (some ⟨b, 0, none⟩), v, .int .i64 (c : Nat)] w (ElsRet W0 (l ++ oneE (upN uf) ig c)) := by
  have hg : b < W0.heap.size := (Array.getElem?_eq_some_iff.1 hm).1
  have hs0 := hb.size
  obtain ⟨i0, hi, hz0, hz1, hz2⟩ := info_parts elInfo
  obtain ⟨q1, q2, q4⟩ := hm.opts
  have o2 := (hb.cell (p := ⟨b, 2, none⟩) hg).trans q2
  have o4 := (hb.cell (p := ⟨b, 4, none⟩) hg).trans q4
  clear q1 q2 q4
  have f0 : ((97 : Int) ≤ c) := by omega
  have f1 : ¬ ((c : Int) ≤ 122) := by omega
  have f2 : ((65 : Int) ≤ c) := by omega
  have f3 : ¬ ((c : Int) ≤ 90) := by omega
  have f4 : ¬ ((c : Int) < 128) := by omega
  have f5 : ((768 : Int) ≤ c) := by omega
  have f6 : ((c : Int) ≤ 879) := by omega
  obtain ⟨x, hx⟩ : ∃ x : El, x = (0, 33 + (c - 768), 0) := ⟨_, rfl⟩
  have HE := Go.Lib.hid (show oneE (upN uf) ig c = [x] by rw [hx]; unfold oneE; rw [if_neg (by simp [hns]), if_neg (by simp [hnd]), if_neg (by omega), if_neg (by omega), if_neg (by omega), if_pos ⟨h1, h2⟩])
  have hxe : elC x = [.int .i64 0, .int .i64 (33 + (c : Int) - 768), .int .i64 0] := by rw [hx]; simp only [elC]; congr 2; congr 1; omega
  have HN := Go.Lib.hid (fun (W : World) (t : TypeId) => (show ∀ j u, (elC x)[j]? = some u → (W.alloc (.cells #[.int .i64 0, .int .i64 (33 + (c : Int) - 768), .int .i64 0] t)).cell? ((⟨W.heap.size, 0, none⟩ : Addr).add j) = some u by rw [hxe]; intro j u hj; rw [show ((⟨W.heap.size, 0, none⟩ : Addr).add j) = ⟨W.heap.size, j, none⟩ by simp [Addr.add, eq_comm], World.cell?_alloc_new]; simpa using hj))
  clear hx hxe
  go_enter Try.func52, Try.ntmps52
  go_wp2_with (first
    | (go_at_call 75; (with_reducible refine (silent_any c _ (by omega)).mono ?_); rintro e w4 ⟨rfl, rfl⟩)
    | (go_at_call 73; (with_reducible refine (digit_any c _ (by omega)).mono ?_); rintro e w4 ⟨rfl, rfl⟩)
    | (at_builtin; go_loud (refine wpList_append_own _ rfl _ _ 25 rfl W0.heap.size 37 i0 _ 3 24 Try.underlying25 hi hz0 hz1 hz2 rfl (by decide) _ _ _ rfl (World.ownsRow.alloc hv _) ⟨w4.heap.size, 0, none⟩ 1 1 (elC x) rfl rfl (HN.out _ _) (el_one x) (by unfold maxLen; omega) (by omega) (by simp; omega) ?_; intro v1 w1 hown1 hgrow1 _)))
  have HV1 := Go.Lib.hid (Els.one hown1 HE.out)
  have HB1 := Go.Lib.hid ((hb.alloc (by omega) _).grown hgrow1 (by simp; omega) (fun j e => (World.ownsRow.lt (show World.ownsRow _ _ _ _ _ _ _ from hv) j e).1))
  clear hown1 hgrow1
  go_wp2
  go_ret
  exact ⟨_, rfl, HV1.out, HB1.out⟩
set_option maxRecDepth 100000 in
set_option maxHeartbeats 4000000 in
theorem one_other_tab {st : Int} {nu ig uf : Bool} {b c : Nat} {v : Value} {l : List El} {W0 : World} (w : World) (hm : MkAt W0 b st nu ig uf) (hb : Below W0.heap.size W0 w) (hv : Els W0.heap.size w v l) (hl : l.length ≤ 100000) (hc : c ≤ 1114111) (hns : silent c = false) (hnd : dig c = false) (h1 : 128 ≤ c) (h2 : c < 256) (hpz : pairN c = (0, 0)) :
    Calls Try.prog 52 #[.pointer (some ⟨b, 0, none⟩), v, .int .i64 (c : Nat)] w (ElsRet W0 (l ++ oneE (upN uf) ig c)) := by
  have hg : b < W0.heap.size := (Array.getElem?_eq_some_iff.1 hm).1
  have hs0 := hb.size
  obtain ⟨i0, hi, hz0, hz1, hz2⟩ := info_parts elInfo
  obtain ⟨q1, q2, q4⟩ := hm.opts
  have o2 := (hb.cell (p := ⟨b, 2, none⟩) hg).trans q2
  have o4 := (hb.cell (p := ⟨b, 4, none⟩) hg).trans q4
  clear q1 q2 q4
  have f0 : ((97 : Int) ≤ c) := by omega
  have f1 : ¬ ((c : Int) ≤ 122) := by omega
  have f2 : ((65 : Int) ≤ c) := by omega
  have f3 : ¬ ((c : Int) ≤ 90) := by omega
  have f4 : ¬ ((c : Int) < 128) := by omega
  have f5 : ¬ ((768 : Int) ≤ c) := by omega
  have f6 : ((c : Int) < 256) := by omega
  obtain ⟨q1, q2⟩ := hm.pairs h2
  rw [hpz] at q1 q2
  have o5 := (hb.cell (p := ⟨b, 5 + c * 2, none⟩) hg).trans q1
  have o6 := (hb.cell (p := ⟨b, 5 + c * 2 + 1, none⟩) hg).trans q2
  have z0 : (0 : Int) ≤ (c : Int) := by omega
  clear q1 q2
  obtain ⟨x, hx⟩ : ∃ x : El, x = (65536 + c, 32, 2) := ⟨_, rfl⟩
  have HX := Go.Lib.hid (show (x.1 : Int) = 65536 + (c : Int) ∧ x.2 = (32, 2) by rw [hx]; exact ⟨by simp only []; omega, rfl⟩)
  have HE := Go.Lib.hid (show oneE (upN uf) ig c = [x] by rw [hx]; unfold oneE; rw [if_neg (by simp [hns]), if_neg (by simp [hnd]), if_neg (by omega), if_neg (by omega), if_neg (by omega), if_neg (by omega)])
  have m1 : (65536 : Int) + (c : Nat) ≤ 9223372036854775807 := by omega
  clear hx
  go_enter Try.func52, Try.ntmps52
  go_wp2_with (first
    | (go_at_call 75; (with_reducible refine (silent_any c _ (by omega)).mono ?_); rintro e w4 ⟨rfl, rfl⟩)
    | (go_at_call 73; (with_reducible refine (digit_any c _ (by omega)).mono ?_); rintro e w4 ⟨rfl, rfl⟩)
    | (go_at_call 74; (with_reducible refine (base_el _ x HX.out _).mono ?_); rintro e w2 ⟨rfl, k2⟩; have hv2 := hv.below k2; have s2 := k2.size; unfold elV)
    | (at_builtin; go_loud (refine wpList_append_own _ rfl _ _ 25 rfl W0.heap.size 37 i0 _ 3 24 Try.underlying25 hi hz0 hz1 hz2 rfl (by decide) _ _ _ rfl (World.ownsRow.alloc hv2 _) ⟨w2.heap.size, 0, none⟩ 1 1 (elC x) rfl rfl (el_new _ x _) (el_one x) (by unfold maxLen; omega) (by omega) (by simp; omega) ?_; intro v1 w1 hown1 hgrow1 _)))
  have HV1 := Go.Lib.hid (Els.one hown1 HE.out)
  have HB1 := Go.Lib.hid (((hb.trans (k2.mono hs0)).alloc (by omega) _).grown hgrow1 (by simp; omega) (fun j e => (World.ownsRow.lt (show World.ownsRow _ _ _ _ _ _ _ from hv2) j e).1))
  clear hown1 hgrow1 hv2 k2 s2
  go_wp2
  go_ret
  exact ⟨_, rfl, HV1.out, HB1.out⟩
set_option maxRecDepth 100000 in
set_option maxHeartbeats 4000000 in
theorem one_other_mid {st : Int} {nu ig uf : Bool} {b c : Nat} {v : Value} {l : List El} {W0 : World} (w : World) (hm : MkAt W0 b st nu ig uf) (hb : Below W0.heap.size W0 w) (hv : Els W0.heap.size w v l) (hl : l.length ≤ 100000) (hc : c ≤ 1114111) (hns : silent c = false) (hnd : dig c = false) (h1 : 256 ≤ c) (h2 : c < 768) :
    Calls Try.prog 52 #[.pointer (some ⟨b, 0, none⟩), v, .int .i64 (c : Nat)] w (ElsRet W0 (l ++ oneE (upN uf) ig c)) := by
  have hg : b < W0.heap.size := (Array.getElem?_eq_some_iff.1 hm).1
  have hs0 := hb.size
  obtain ⟨i0, hi, hz0, hz1, hz2⟩ := info_parts elInfo
  obtain ⟨q1, q2, q4⟩ := hm.opts
  have o2 := (hb.cell (p := ⟨b, 2, none⟩) hg).trans q2
  have o4 := (hb.cell (p := ⟨b, 4, none⟩) hg).trans q4
  clear q1 q2 q4
  have f0 : ((97 : Int) ≤ c) := by omega
  have f1 : ¬ ((c : Int) ≤ 122) := by omega
  have f2 : ((65 : Int) ≤ c) := by omega
  have f3 : ¬ ((c : Int) ≤ 90) := by omega
  have f4 : ¬ ((c : Int) < 128) := by omega
  have f5 : ¬ ((768 : Int) ≤ c) := by omega
  have f6 : ¬ ((c : Int) < 256) := by omega
  obtain ⟨x, hx⟩ : ∃ x : El, x = (65536 + c, 32, 2) := ⟨_, rfl⟩
  have HX := Go.Lib.hid (show (x.1 : Int) = 65536 + (c : Int) ∧ x.2 = (32, 2) by rw [hx]; exact ⟨by simp only []; omega, rfl⟩)
  have HE := Go.Lib.hid (show oneE (upN uf) ig c = [x] by rw [hx]; unfold oneE; rw [if_neg (by simp [hns]), if_neg (by simp [hnd]), if_neg (by omega), if_neg (by omega), if_neg (by omega), if_neg (by omega)])
  have m1 : (65536 : Int) + (c : Nat) ≤ 9223372036854775807 := by omega
  clear hx
  go_enter Try.func52, Try.ntmps52
  go_wp2_with (first
    | (go_at_call 75; (with_reducible refine (silent_any c _ (by omega)).mono ?_); rintro e w4 ⟨rfl, rfl⟩)
    | (go_at_call 73; (with_reducible refine (digit_any c _ (by omega)).mono ?_); rintro e w4 ⟨rfl, rfl⟩)
    | (go_at_call 74; (with_reducible refine (base_el _ x HX.out _).mono ?_); rintro e w2 ⟨rfl, k2⟩; have hv2 := hv.below k2; have s2 := k2.size; unfold elV)
    | (at_builtin; go_loud (refine wpList_append_own _ rfl _ _ 25 rfl W0.heap.size 37 i0 _ 3 24 Try.underlying25 hi hz0 hz1 hz2 rfl (by decide) _ _ _ rfl (World.ownsRow.alloc hv2 _) ⟨w2.heap.size, 0, none⟩ 1 1 (elC x) rfl rfl (el_new _ x _) (el_one x) (by unfold maxLen; omega) (by omega) (by simp; omega) ?_; intro v1 w1 hown1 hgrow1 _)))
  have HV1 := Go.Lib.hid (Els.one hown1 HE.out)
  have HB1 := Go.Lib.hid (((hb.trans (k2.mono hs0)).alloc (by omega) _).grown hgrow1 (by simp; omega) (fun j e => (World.ownsRow.lt (show World.ownsRow _ _ _ _ _ _ _ from hv2) j e).1))
  clear hown1 hgrow1 hv2 k2 s2
  go_wp2
  go_ret
  exact ⟨_, rfl, HV1.out, HB1.out⟩
set_option maxRecDepth 100000 in
set_option maxHeartbeats 4000000 in
theorem one_other_high {st : Int} {nu ig uf : Bool} {b c : Nat} {v : Value} {l : List El} {W0 : World} (w : World) (hm : MkAt W0 b st nu ig uf) (hb : Below W0.heap.size W0 w) (hv : Els W0.heap.size w v l) (hl : l.length ≤ 100000) (hc : c ≤ 1114111) (hns : silent c = false) (hnd : dig c = false) (h1 : 879 < c) :
    Calls Try.prog 52 #[.pointer (some ⟨b, 0, none⟩), v, .int .i64 (c : Nat)] w (ElsRet W0 (l ++ oneE (upN uf) ig c)) := by
  have hg : b < W0.heap.size := (Array.getElem?_eq_some_iff.1 hm).1
  have hs0 := hb.size
  obtain ⟨i0, hi, hz0, hz1, hz2⟩ := info_parts elInfo
  obtain ⟨q1, q2, q4⟩ := hm.opts
  have o2 := (hb.cell (p := ⟨b, 2, none⟩) hg).trans q2
  have o4 := (hb.cell (p := ⟨b, 4, none⟩) hg).trans q4
  clear q1 q2 q4
  have f0 : ((97 : Int) ≤ c) := by omega
  have f1 : ¬ ((c : Int) ≤ 122) := by omega
  have f2 : ((65 : Int) ≤ c) := by omega
  have f3 : ¬ ((c : Int) ≤ 90) := by omega
  have f4 : ¬ ((c : Int) < 128) := by omega
  have f5 : ((768 : Int) ≤ c) := by omega
  have f6 : ¬ ((c : Int) ≤ 879) := by omega
  have f7 : ¬ ((c : Int) < 256) := by omega
  obtain ⟨x, hx⟩ : ∃ x : El, x = (65536 + c, 32, 2) := ⟨_, rfl⟩
  have HX := Go.Lib.hid (show (x.1 : Int) = 65536 + (c : Int) ∧ x.2 = (32, 2) by rw [hx]; exact ⟨by simp only []; omega, rfl⟩)
  have HE := Go.Lib.hid (show oneE (upN uf) ig c = [x] by rw [hx]; unfold oneE; rw [if_neg (by simp [hns]), if_neg (by simp [hnd]), if_neg (by omega), if_neg (by omega), if_neg (by omega), if_neg (by omega)])
  have m1 : (65536 : Int) + (c : Nat) ≤ 9223372036854775807 := by omega
  clear hx
  go_enter Try.func52, Try.ntmps52
  go_wp2_with (first
    | (go_at_call 75; (with_reducible refine (silent_any c _ (by omega)).mono ?_); rintro e w4 ⟨rfl, rfl⟩)
    | (go_at_call 73; (with_reducible refine (digit_any c _ (by omega)).mono ?_); rintro e w4 ⟨rfl, rfl⟩)
    | (go_at_call 74; (with_reducible refine (base_el _ x HX.out _).mono ?_); rintro e w2 ⟨rfl, k2⟩; have hv2 := hv.below k2; have s2 := k2.size; unfold elV)
    | (at_builtin; go_loud (refine wpList_append_own _ rfl _ _ 25 rfl W0.heap.size 37 i0 _ 3 24 Try.underlying25 hi hz0 hz1 hz2 rfl (by decide) _ _ _ rfl (World.ownsRow.alloc hv2 _) ⟨w2.heap.size, 0, none⟩ 1 1 (elC x) rfl rfl (el_new _ x _) (el_one x) (by unfold maxLen; omega) (by omega) (by simp; omega) ?_; intro v1 w1 hown1 hgrow1 _)))
  have HV1 := Go.Lib.hid (Els.one hown1 HE.out)
  have HB1 := Go.Lib.hid (((hb.trans (k2.mono hs0)).alloc (by omega) _).grown hgrow1 (by simp; omega) (fun j e => (World.ownsRow.lt (show World.ownsRow _ _ _ _ _ _ _ from hv2) j e).1))
  clear hown1 hgrow1 hv2 k2 s2
  go_wp2
  go_ret
  exact ⟨_, rfl, HV1.out, HB1.out⟩
theorem one_any {st : Int} {nu ig uf : Bool} {b c : Nat} {v : Value} {l : List El} {W0 : World} (w : World) (hm : MkAt W0 b st nu ig uf) (hb : Below W0.heap.size W0 w) (hv : Els W0.heap.size w v l) (hl : l.length ≤ 100000) (hc : c ≤ 1114111) (hpz : pairN c = (0, 0)) :
    Calls Try.prog 52 #[.pointer (some ⟨b, 0, none⟩), v, .int .i64 (c : Nat)] w (ElsRet W0 (l ++ oneE (upN uf) ig c)) := by
  by_cases hs : silent c = true
  · exact one_silent w hm hb hv hc hs
  have hs : silent c = false := by simpa using hs
  by_cases hd : dig c = true
  · exact one_digit w hm hb hv hl hc hd hs
  have hd : dig c = false := by simpa using hd
  by_cases a1 : c < 65
  · exact one_sign_low w hm hb hv hl hc hs hd a1
  by_cases a2 : c ≤ 90
  · exact one_capital w hm hb hv hl hc hs hd (by omega) a2
  by_cases a3 : c < 97
  · exact one_sign_mid w hm hb hv hl hc hs hd (by omega) a3
  by_cases a4 : c ≤ 122
  · exact one_small w hm hb hv hl hc hs hd (by omega) a4
  by_cases a5 : c < 128
  · exact one_sign_high w hm hb hv hl hc hs hd (by omega) a5
  by_cases a6 : c < 256
  · exact one_other_tab w hm hb hv hl hc hs hd (by omega) a6 hpz
  by_cases a7 : c < 768
  · exact one_other_mid w hm hb hv hl hc hs hd (by omega) a7
  by_cases a8 : c ≤ 879
  · exact one_mark w hm hb hv hl hc hs hd (by omega) a8
  exact one_other_high w hm hb hv hl hc hs hd (by omega)
end Go.Proofs.Ytknbglcmjggkjaa
