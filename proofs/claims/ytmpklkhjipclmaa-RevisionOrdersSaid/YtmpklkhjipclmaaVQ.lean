/- Layer 22: the law of merging (8). -/
import Derived.Test.YtmpklkhjipclmaaVP
namespace Go.Proofs.Ytmpklkhjipclmaa
open Go.RowKit Go.Lib Sm
set_option linter.unusedVariables false

/-- Two tables have no conflict. -/
def Comp (a b : List Rv) : Prop := ∀ x ∈ a, ∀ y ∈ b, x.id = y.id → x = y
theorem Comp.symm {a b : List Rv} (h : Comp a b) : Comp b a := fun x hx y hy e => (h y hy x hx e.symm).symm
theorem sort_inj {M : List Rv} (h : SortP M) {x y : Rv} (hx : x ∈ M) (hy : y ∈ M) (e : x.id = y.id) : x = y := by
  obtain ⟨i, hi, rfl⟩ := List.mem_iff_getElem.1 hx
  obtain ⟨j, hj, rfl⟩ := List.mem_iff_getElem.1 hy
  rcases Nat.lt_trichotomy i j with h1 | h1 | h1
  · have := h i j hi hj h1; omega
  · subst h1; rfl
  · have := h j i hj hi h1; omega
/-- What has been merged so far. -/
def MInv (a b M : List Rv) : Prop := SortP M ∧ (∀ x, x ∈ M ↔ x ∈ a ∨ x ∈ b) ∧ Comp a b ∧ M.length ≤ a.length + b.length
theorem minv_none {a : List Rv} (ha : SortP a) : MInv a [] a := ⟨ha, (fun x => by simp), (fun x _ y hy => by cases hy), (by simp)⟩
theorem fresh_in {b : List Rv} (hb : SortP b) {k : Nat} (hk : k < b.length) : ∀ y ∈ b.take k, y.id ≠ b[k].id := by
  intro y hy e
  obtain ⟨j, hj, rfl⟩ := List.mem_iff_getElem.1 hy
  have hjk : j < k := by rw [List.length_take] at hj; omega
  rw [List.getElem_take] at e
  have := hb j k (by omega) hk hjk
  omega
theorem minv_put {a b M : List Rv} (hb : SortP b) {k : Nat} (hk : k < b.length) (h : MInv a (b.take k) M) (hn : ∀ y ∈ a, y.id ≠ b[k].id) : (∀ y ∈ M, y.id ≠ b[k].id) ∧ MInv a (b.take (k + 1)) (putR M b[k]) := by
  obtain ⟨h1, h2, h3, h4⟩ := h
  have hne : ∀ y ∈ M, y.id ≠ b[k].id := fun y hy => by
    rcases (h2 y).1 hy with h | h
    · exact hn y h
    · exact fresh_in hb hk y h
  refine ⟨hne, putR_sort h1, fun x => ?_, fun x hx y hy e => ?_, ?_⟩
  · rw [putR_mem hne, h2, List.take_succ_eq_append_getElem hk, List.mem_append, List.mem_singleton, or_assoc]
  · rw [List.take_succ_eq_append_getElem hk, List.mem_append, List.mem_singleton] at hy
    rcases hy with hy | rfl
    · exact h3 x hx y hy e
    · exact absurd e (hn x hx)
  · rw [putR_len h1 hne]
    have e1 : (b.take k).length = k := by rw [List.length_take]; omega
    have e2 : (b.take (k + 1)).length = k + 1 := by rw [List.length_take]; omega
    omega
theorem minv_same {a b M : List Rv} {k : Nat} (hk : k < b.length) (h : MInv a (b.take k) M) (hin : b[k] ∈ M) : MInv a (b.take (k + 1)) M := by
  obtain ⟨h1, h2, h3, h4⟩ := h
  refine ⟨h1, fun x => ?_, fun x hx y hy e => ?_, ?_⟩
  · rw [h2, List.take_succ_eq_append_getElem hk, List.mem_append, List.mem_singleton]
    constructor
    · rintro (h | h)
      · exact .inl h
      · exact .inr (.inl h)
    · rintro (h | h | rfl)
      · exact .inl h
      · exact .inr h
      · exact (h2 _).1 hin
  · rw [List.take_succ_eq_append_getElem hk, List.mem_append, List.mem_singleton] at hy
    rcases hy with hy | rfl
    · exact h3 x hx y hy e
    · exact sort_inj h1 ((h2 x).2 (.inl hx)) hin e
  · have e1 : (b.take k).length = k := by rw [List.length_take]; omega
    have e2 : (b.take (k + 1)).length = k + 1 := by rw [List.length_take]; omega
    omega
theorem mrg_inv {a b : List Rv} (ha : SortP a) (hb : SortP b) : ∀ k, k ≤ b.length → (∃ M, mrg a (b.take k) = some M ∧ MInv a (b.take k) M) ∨ (mrg a (b.take k) = none ∧ ¬ Comp a b) := by
  intro k
  induction k with
  | zero => intro _; rw [List.take_zero]; exact .inl ⟨a, rfl, minv_none ha⟩
  | succ k ih =>
    intro hk
    have hkb : k < b.length := by omega
    rcases ih (by omega) with ⟨M, h1, h2⟩ | ⟨h1, h2⟩
    · have hst := mrg_step a b k hkb h1
      unfold stepM at hst
      by_cases hin : b[k] ∈ M
      · rw [if_pos hin] at hst
        exact .inl ⟨M, hst, minv_same hkb h2 hin⟩
      · rw [if_neg hin] at hst
        by_cases hex : ∃ y ∈ M, y.id = b[k].id
        · rw [if_pos hex] at hst
          refine .inr ⟨hst, fun hc => ?_⟩
          obtain ⟨y, hy, he⟩ := hex
          rcases (h2.2.1 y).1 hy with h | h
          · have := hc y h b[k] (List.getElem_mem hkb) he
            exact hin (by rw [← this]; exact hy)
          · exact fresh_in hb hkb y h he
        · rw [if_neg hex] at hst
          refine .inl ⟨_, hst, (minv_put hb hkb h2 fun y hy e => hex ⟨y, (h2.2.1 y).2 (.inl hy), e⟩).2⟩
    · refine .inr ⟨?_, h2⟩
      rw [List.take_succ_eq_append_getElem hkb, mrg_snoc, h1]; rfl
theorem mrg_yes {a b : List Rv} (ha : SortP a) (hb : SortP b) (hc : Comp a b) : ∃ M, mrg a b = some M ∧ MInv a b M := by
  rcases mrg_inv ha hb b.length (Nat.le_refl _) with h | ⟨_, h⟩
  · rwa [List.take_length] at h
  · exact absurd hc h
theorem mrg_no {a b : List Rv} (ha : SortP a) (hb : SortP b) (hc : ¬ Comp a b) : mrg a b = none := by
  rcases mrg_inv ha hb b.length (Nat.le_refl _) with ⟨M, h1, h2⟩ | ⟨h, _⟩
  · rw [List.take_length] at h2; exact absurd h2.2.2.1 hc
  · rwa [List.take_length] at h
theorem sorted_eq {M M' : List Rv} (h1 : SortP M) (h2 : SortP M') (h : ∀ x, x ∈ M ↔ x ∈ M') : M = M' := by
  rw [sortp_pw] at h1 h2
  refine sorted_unique (lt := fun x y : Rv => x.id < y.id) ⟨fun h h' => Int.lt_trans h h', fun x => Int.lt_irrefl _⟩ h1 h2 ((List.perm_ext_iff_of_nodup (h1.imp (fun {x y} h e => by subst e; omega)) (h2.imp (fun {x y} h e => by subst e; omega))).2 h)
theorem mrgE_yes {a b M : List Rv} (ha : chkL vld a = 0) (hb : chkL vld b = 0) (h : mrg a b = some M) (hl : M.length ≤ 256) : mrgE a b = 0 := by
  unfold mrgE
  rw [if_neg (by simp [ha]), if_neg (by simp [hb]), h]
  dsimp only
  rw [if_neg (by omega)]
theorem mrgE_no {a b : List Rv} (ha : chkL vld a = 0) (hb : chkL vld b = 0) (h : mrg a b = none) : mrgE a b = 23 := by
  unfold mrgE
  rw [if_neg (by simp [ha]), if_neg (by simp [hb]), h]
theorem mrgE_a {a b : List Rv} (ha : chkL vld a ≠ 0) : mrgE a b = chkL vld a := by unfold mrgE; rw [if_pos ha]
theorem mrgE_b {a b : List Rv} (ha : chkL vld a = 0) (hb : chkL vld b ≠ 0) : mrgE a b = chkL vld b := by unfold mrgE; rw [if_neg (by simp [ha]), if_pos hb]
/-- What is handed back with an error. -/
theorem mrgR_bad {a b : List Rv} {e : Ending} {w : World} {r : Int} (h : MrgR a b e w) (hr : mrgE a b = r) (h0 : r ≠ 0) : e = .returned (.tuple #[.slice none 0 0, .int .i64 r]) := by
  rcases h with ⟨c, h1, _, h3⟩ | ⟨M, A, cb, _, h2, _⟩
  · rw [hr] at h3; rw [h1, ← h3]
  · rw [hr] at h2; exact absurd h2 h0
theorem mrgR_ok {a b M : List Rv} {e : Ending} {w : World} (h : MrgR a b e w) (hm : mrg a b = some M) (hr : mrgE a b = 0) : ∃ A cb, e = .returned (.tuple #[.slice A M.length cb, .int .i64 0]) ∧ RsAt w A M := by
  rcases h with ⟨c, _, h2, h3⟩ | ⟨M', A, cb, h1, _, h3, _, _, h4⟩
  · rw [hr] at h3; exact absurd h3.symm h2
  · rw [hm] at h3; injection h3 with h3; subst h3; exact ⟨A, cb, h1, h4⟩
/-- How a table is cut by a call. -/
def CutC (w : World) (A : Option Addr) (n c : Nat) (L : List Rv) (m : Nat) : Prop :=
  Calls Try.prog 12 #[.slice A n c] w (fun e w' => ∃ B cb, e = .returned (.slice B m cb) ∧ (RsAt w' B L ∧ (m ≤ cb ∧ cb ≤ maxLen)) ∧ Below w.heap.size w w')
theorem cut_c (l : List Rv) (n : Nat) (hn : l.length = n) (hok : RsOk l) (A : Option Addr) (c : Nat) (hc : n ≤ c ∧ c ≤ maxLen) (w : World) (hA : RsAt w A l) : CutC w A n c (cutL l) (cutL l).length :=
  (cut_any l n hn hok A c hc w hA).mono fun e w' ⟨B, cb, h1, h2, h3, h4, h5, _⟩ => ⟨B, cb, h1, ⟨h4, h2, h3⟩, h5⟩
section
variable (a b : List Rv) (n m : Nat) (hn : a.length = n) (hm : b.length = m) (hn40 : n ≤ 40) (hm40 : m ≤ 40) (hza : SzOk a) (hzb : SzOk b) (A B : Option Addr) (n0 m0 c d : Nat) (w : World)
  (cA : CutC w A n0 c a n) (cB : ∀ w', Below w.heap.size w w' → CutC w' B m0 d b m)
  include hn hm hn40 hm40 hza hzb cA cB
set_option maxRecDepth 100000 in
set_option maxHeartbeats 16000000 in
theorem merges_bad_a (ha : chkL vld a ≠ 0) : Calls Try.prog 8 #[.slice A n0 c, .slice B m0 d] w (TrueW w) := by
  unfold CutC at cA cB
  have CB := Lib.hid cB
  have HN := Lib.hid hn
  have HM := Lib.hid hm
  have HZA := Lib.hid hza
  have HZB := Lib.hid hzb
  clear cB hn hm hza hzb
  have HE1 := Lib.hid (mrgE_a (b := b) ha)
  obtain ⟨r2, hr2, hr20⟩ : ∃ r2, mrgE b a = r2 ∧ r2 ≠ 0 := by
    by_cases hb : chkL vld b = 0
    · exact ⟨_, mrgE_b hb ha, ha⟩
    · exact ⟨_, mrgE_a hb, hb⟩
  have HR2 := Lib.hid hr2
  have hr2' : (r2 == 0) = false := neB hr20
  have HR20 := Lib.hid hr20
  have ha' : (chkL vld a == 0) = false := neB ha
  have HA0 := Lib.hid ha
  clear ha hr2 hr20
  go_enter Try.func8, Try.ntmps8
  go_wp2_with fail
  (with_reducible refine cA.mono ?_)
  rintro e w1 ⟨A', cA', rfl, hLa, k1⟩
  have K1 := Lib.hid k1
  have s1 := k1.size
  have cb := CB.out w1 k1
  have La := Lib.hid hLa.1
  have HCA := Lib.hid hLa.2
  clear cA k1 hLa
  go_wp2_with fail
  (with_reducible refine cb.mono ?_)
  rintro e w2 ⟨B', cB', rfl, hLb, k2⟩
  have K2 := Lib.hid (K1.out.trans (k2.mono s1))
  have s2 := K2.out.size
  have La2 := Lib.hid (La.out.below k2)
  have Lb2 := Lib.hid hLb.1
  have HCB := Lib.hid hLb.2
  clear cb k2 hLb
  have cM := merge_any a b n m HN.out HM.out (by omega) HZA.out HZB.out A' B' cA' cB' HCA.out w2 La2.out Lb2.out
  go_wp2_with fail
  (with_reducible refine cM.mono ?_)
  rintro e w3 ⟨hm1, k3⟩
  have K3 := Lib.hid (K2.out.trans (k3.mono s2))
  have s3 := K3.out.size
  have La3 := Lib.hid (La2.out.below k3)
  have Lb3 := Lib.hid (Lb2.out.below k3)
  clear cM k3
  obtain rfl := mrgR_bad hm1 HE1.out HA0.out
  clear hm1
  have cM2 := merge_any b a m n HM.out HN.out (by omega) HZB.out HZA.out B' A' cB' cA' HCB.out w3 Lb3.out La3.out
  go_wp2_with fail
  (with_reducible refine cM2.mono ?_)
  rintro e w4 ⟨hm2, k4⟩
  have K4 := Lib.hid (K3.out.trans (k4.mono s3))
  have s4 := K4.out.size
  have La4 := Lib.hid (La3.out.below k4)
  have Lb4 := Lib.hid (Lb3.out.below k4)
  obtain rfl := mrgR_bad hm2 HR2.out HR20.out
  clear hm2
  clear cM2 k4
  go_wp2_with fail
  (with_reducible refine (known_any _).mono ?_)
  rintro e w5 ⟨rfl, k5⟩
  have K5 := Lib.hid (K4.out.trans (k5.mono s4))
  have s5 := K5.out.size
  have La5 := Lib.hid (La4.out.below k5)
  have Lb5 := Lib.hid (Lb4.out.below k5)
  clear k5
  have cc := rcheck_any a n HN.out (by omega) HZA.out A' cA' w5 La5.out
  generalize chkL vld a = r at *
  go_wp2_with fail
  (with_reducible refine cc.mono ?_)
  rintro e w6 ⟨rfl, k6⟩
  have K6 := Lib.hid (K5.out.trans (k6.mono s5))
  have s6 := K6.out.size
  clear cc k6
  go_wp2_with fail
  go_loopw [9, 11] (fun s9 s11 wr => s9 = .int .i64 r ∧ s11 = .int .i64 0 ∧ Hid (Below w.heap.size w wr)) (fun _ _ _ => 0)
  case atStart => exact ⟨rfl, rfl, K6⟩
  case round =>
    clear K6
    obtain ⟨rfl, rfl, KR⟩ := hrel
    by_cases hm0 : 0 < m
    · have g : (0 : Int) < (m : Int) := by omega
      go_wp2
      go_ret
      exact ⟨by simp; exact HR20.out, KR.out⟩
    · have g : ¬ (0 : Int) < (m : Int) := by omega
      go_wp2
      go_ret
      exact ⟨by simp; exact HR20.out, KR.out⟩
set_option maxRecDepth 100000 in
set_option maxHeartbeats 16000000 in
theorem merges_bad_b (ha : chkL vld a = 0) (hb : chkL vld b ≠ 0) : Calls Try.prog 8 #[.slice A n0 c, .slice B m0 d] w (TrueW w) := by
  unfold CutC at cA cB
  have CB := Lib.hid cB
  have HN := Lib.hid hn
  have HM := Lib.hid hm
  have HZA := Lib.hid hza
  have HZB := Lib.hid hzb
  clear cB hn hm hza hzb
  have HE1 := Lib.hid (mrgE_b ha hb)
  have HE2 := Lib.hid (mrgE_a (b := a) hb)
  have hb' : (chkL vld b == 0) = false := neB hb
  have HB0 := Lib.hid hb
  have HA0 := Lib.hid ha
  clear ha hb
  go_enter Try.func8, Try.ntmps8
  go_wp2_with fail
  (with_reducible refine cA.mono ?_)
  rintro e w1 ⟨A', cA', rfl, hLa, k1⟩
  have K1 := Lib.hid k1
  have s1 := k1.size
  have cb := CB.out w1 k1
  have La := Lib.hid hLa.1
  have HCA := Lib.hid hLa.2
  clear cA k1 hLa
  go_wp2_with fail
  (with_reducible refine cb.mono ?_)
  rintro e w2 ⟨B', cB', rfl, hLb, k2⟩
  have K2 := Lib.hid (K1.out.trans (k2.mono s1))
  have s2 := K2.out.size
  have La2 := Lib.hid (La.out.below k2)
  have Lb2 := Lib.hid hLb.1
  have HCB := Lib.hid hLb.2
  clear cb k2 hLb
  have cM := merge_any a b n m HN.out HM.out (by omega) HZA.out HZB.out A' B' cA' cB' HCA.out w2 La2.out Lb2.out
  go_wp2_with fail
  (with_reducible refine cM.mono ?_)
  rintro e w3 ⟨hm1, k3⟩
  have K3 := Lib.hid (K2.out.trans (k3.mono s2))
  have s3 := K3.out.size
  have La3 := Lib.hid (La2.out.below k3)
  have Lb3 := Lib.hid (Lb2.out.below k3)
  clear cM k3
  obtain rfl := mrgR_bad hm1 HE1.out HB0.out
  clear hm1
  have cM2 := merge_any b a m n HM.out HN.out (by omega) HZB.out HZA.out B' A' cB' cA' HCB.out w3 Lb3.out La3.out
  go_wp2_with fail
  (with_reducible refine cM2.mono ?_)
  rintro e w4 ⟨hm2, k4⟩
  have K4 := Lib.hid (K3.out.trans (k4.mono s3))
  have s4 := K4.out.size
  have La4 := Lib.hid (La3.out.below k4)
  have Lb4 := Lib.hid (Lb3.out.below k4)
  obtain rfl := mrgR_bad hm2 HE2.out HB0.out
  clear hm2
  clear cM2 k4
  go_wp2_with fail
  (with_reducible refine (known_any _).mono ?_)
  rintro e w5 ⟨rfl, k5⟩
  have K5 := Lib.hid (K4.out.trans (k5.mono s4))
  have s5 := K5.out.size
  have La5 := Lib.hid (La4.out.below k5)
  have Lb5 := Lib.hid (Lb4.out.below k5)
  clear k5
  have cc := rcheck_any a n HN.out (by omega) HZA.out A' cA' w5 La5.out
  rw [HA0.out] at cc
  go_wp2_with fail
  (with_reducible refine cc.mono ?_)
  rintro e w6 ⟨rfl, k6⟩
  have K6 := Lib.hid (K5.out.trans (k6.mono s5))
  have s6 := K6.out.size
  have Lb6 := Lib.hid (Lb5.out.below k6)
  clear cc k6
  have cc := rcheck_any b m HM.out (by omega) HZB.out B' cB' w6 Lb6.out
  generalize chkL vld b = r at *
  go_wp2_with fail
  (with_reducible refine cc.mono ?_)
  rintro e w7 ⟨rfl, k7⟩
  have K7 := Lib.hid (K6.out.trans (k7.mono s6))
  have s7 := K7.out.size
  clear cc k7
  go_wp2_with fail
  go_loopw [9, 11] (fun s9 s11 wr => s9 = .int .i64 r ∧ s11 = .int .i64 0 ∧ Hid (Below w.heap.size w wr)) (fun _ _ _ => 0)
  case atStart => exact ⟨rfl, rfl, K7⟩
  case round =>
    clear K7
    obtain ⟨rfl, rfl, KR⟩ := hrel
    by_cases hm0 : 0 < m
    · have g : (0 : Int) < (m : Int) := by omega
      go_wp2
      go_ret
      exact ⟨by simp, KR.out⟩
    · have g : ¬ (0 : Int) < (m : Int) := by omega
      go_wp2
      go_ret
      exact ⟨by simp, KR.out⟩
attribute [local irreducible] wpQuiet in
set_option maxRecDepth 100000 in
set_option maxHeartbeats 16000000 in
theorem merges_ok (ha : chkL vld a = 0) (hb : chkL vld b = 0) (hcomp : Comp a b) : Calls Try.prog 8 #[.slice A n0 c, .slice B m0 d] w (TrueW w) := by
  unfold CutC at cA cB
  have CB := Lib.hid cB
  have HN := Lib.hid hn
  have HM := Lib.hid hm
  have HZA := Lib.hid hza
  have HZB := Lib.hid hzb
  clear cB hn hm hza hzb
  have HSA := Lib.hid (chk_sort ha)
  have HSB := Lib.hid (chk_sort hb)
  obtain ⟨M, hM, hMI⟩ := mrg_yes HSA.out HSB.out hcomp
  obtain ⟨M2, hM2, hMI2⟩ := mrg_yes HSB.out HSA.out hcomp.symm
  have HE1 := Lib.hid (mrgE_yes ha hb hM (by have := hMI.2.2.2; have := HN.out; have := HM.out; omega))
  have HE2 := Lib.hid (mrgE_yes hb ha hM2 (by have := hMI2.2.2.2; have := HN.out; have := HM.out; omega))
  have HMM := Lib.hid hM
  have HMM2 := Lib.hid hM2
  have HMI := Lib.hid hMI
  have HMI2 := Lib.hid hMI2
  have HA0 := Lib.hid ha
  have HB0 := Lib.hid hb
  have HCOMP := Lib.hid hcomp
  clear ha hb hM hM2 hMI hMI2 hcomp
  go_enter Try.func8, Try.ntmps8
  go_wp2_with fail
  (with_reducible refine cA.mono ?_)
  rintro e w1 ⟨A', cA', rfl, hLa, k1⟩
  have K1 := Lib.hid k1
  have s1 := k1.size
  have cb := CB.out w1 k1
  have La := Lib.hid hLa.1
  have HCA := Lib.hid hLa.2
  clear cA k1 hLa
  go_wp2_with fail
  (with_reducible refine cb.mono ?_)
  rintro e w2 ⟨B', cB', rfl, hLb, k2⟩
  have K2 := Lib.hid (K1.out.trans (k2.mono s1))
  have s2 := K2.out.size
  have La2 := Lib.hid (La.out.below k2)
  have Lb2 := Lib.hid hLb.1
  have HCB := Lib.hid hLb.2
  clear cb k2 hLb
  have cM := merge_any a b n m HN.out HM.out (by omega) HZA.out HZB.out A' B' cA' cB' HCA.out w2 La2.out Lb2.out
  go_wp2_with fail
  (with_reducible refine cM.mono ?_)
  rintro e w3 ⟨hm1, k3⟩
  have K3 := Lib.hid (K2.out.trans (k3.mono s2))
  have s3 := K3.out.size
  have La3 := Lib.hid (La2.out.below k3)
  have Lb3 := Lib.hid (Lb2.out.below k3)
  clear cM k3
  obtain ⟨AQ, cbQ, rfl, hmq⟩ := mrgR_ok hm1 HMM.out HE1.out
  have HM3 := Lib.hid hmq
  clear hm1 hmq
  have cM2 := merge_any b a m n HM.out HN.out (by omega) HZB.out HZA.out B' A' cB' cA' HCB.out w3 Lb3.out La3.out
  go_wp2_with fail
  (with_reducible refine cM2.mono ?_)
  rintro e w4 ⟨hm2, k4⟩
  have K4 := Lib.hid (K3.out.trans (k4.mono s3))
  have s4 := K4.out.size
  have La4 := Lib.hid (La3.out.below k4)
  have Lb4 := Lib.hid (Lb3.out.below k4)
  obtain ⟨AQ2, cbQ2, rfl, hmq2⟩ := mrgR_ok hm2 HMM2.out HE2.out
  have HM4 := Lib.hid (HM3.out.below k4)
  have HM24 := Lib.hid hmq2
  clear hm2 hmq2
  clear cM2 k4
  go_wp2_with fail
  (with_reducible refine (known_any _).mono ?_)
  rintro e w5 ⟨rfl, k5⟩
  have K5 := Lib.hid (K4.out.trans (k5.mono s4))
  have s5 := K5.out.size
  have La5 := Lib.hid (La4.out.below k5)
  have Lb5 := Lib.hid (Lb4.out.below k5)
  have HM5 := Lib.hid (HM4.out.below k5)
  have HM25 := Lib.hid (HM24.out.below k5)
  clear k5
  have cc := rcheck_any a n HN.out (by omega) HZA.out A' cA' w5 La5.out
  rw [HA0.out] at cc
  go_wp2_with fail
  (with_reducible refine cc.mono ?_)
  rintro e w6 ⟨rfl, k6⟩
  have K6 := Lib.hid (K5.out.trans (k6.mono s5))
  have s6 := K6.out.size
  have La6 := Lib.hid (La5.out.below k6)
  have Lb6 := Lib.hid (Lb5.out.below k6)
  have HM6 := Lib.hid (HM5.out.below k6)
  have HM26 := Lib.hid (HM25.out.below k6)
  clear cc k6
  have cc := rcheck_any b m HM.out (by omega) HZB.out B' cB' w6 Lb6.out
  rw [HB0.out] at cc
  go_wp2_with fail
  (with_reducible refine cc.mono ?_)
  rintro e w7 ⟨rfl, k7⟩
  have K7 := Lib.hid (K6.out.trans (k7.mono s6))
  have s7 := K7.out.size
  have La7 := Lib.hid (La6.out.below k7)
  have Lb7 := Lib.hid (Lb6.out.below k7)
  have HM7 := Lib.hid (HM6.out.below k7)
  have HM27 := Lib.hid (HM26.out.below k7)
  clear cc k7
  have hbr := Lib.hid (Below.refl w7.heap.size w7)
  go_wp2_with fail
  go_loopw [9, 10, 11, 12] (fun s9 s10 s11 _ wr => s9 = .int .i64 0 ∧ ∃ i : Nat, i ≤ m ∧ s11 = .int .i64 (i : Nat) ∧ Hid (Below w7.heap.size w7 wr) ∧ ∃ (W : List Rv) (BW : Option Addr) (q cW : Nat), s10 = .slice BW q cW ∧ Hid (W.length = q) ∧ Hid (q ≤ cW ∧ cW ≤ maxLen) ∧ Hid (RsAt wr BW W) ∧ Hid (MInv a (b.take i) W)) (fun _ _ s11 _ _ => m - (intOf s11).toNat)
  case atStart => exact ⟨rfl, 0, Nat.zero_le _, rfl, hbr, a, A', n, cA', rfl, HN, HCA, La7, Lib.hid (minv_none HSA.out)⟩
  case round =>
    clear hbr
    obtain ⟨rfl, i, him, rfl, HBR, W, BW, q, cW, rfl, HWQ, HCW, HRW, HINV⟩ := hrel
    have sR := HBR.out.size
    by_cases hlt : i < m
    case neg =>
      obtain rfl : i = m := by omega
      have HEW := Lib.hid (by
        have h := HINV.out
        rw [List.take_of_length_le (show b.length ≤ i by rw [HM.out]; exact Nat.le_refl _)] at h
        exact sorted_eq HMI.out.1 h.1 fun x => (HMI.out.2.1 x).trans (h.2.1 x).symm : M = W)
      have HEW2 := Lib.hid (by
        have h := HINV.out
        rw [List.take_of_length_le (show b.length ≤ i by rw [HM.out]; exact Nat.le_refl _)] at h
        exact sorted_eq HMI2.out.1 h.1 fun x => (HMI2.out.2.1 x).trans ((or_comm).trans (h.2.1 x).symm) : M2 = W)
      have hq80 : q ≤ 1000 := by have := HINV.out.2.2.2; have := HWQ.out; have := HN.out; rw [List.length_take] at *; omega
      have cs := samerevs_any M W M.length q rfl HWQ.out (by rw [HEW.out, HWQ.out]; exact hq80) hq80 AQ BW cbQ cW wr (HM7.out.below HBR.out) HRW.out
      rw [decide_eq_true HEW.out] at cs
      clear HINV
      go_wp2_with fail
      (with_reducible refine cs.mono ?_)
      rintro e w8 ⟨rfl, k8⟩
      have B8 := Lib.hid (HBR.out.trans (k8.mono sR))
      have s8 := B8.out.size
      have cs2 := samerevs_any M2 W M2.length q rfl HWQ.out (by rw [HEW2.out, HWQ.out]; exact hq80) hq80 AQ2 BW cbQ2 cW w8 (HM27.out.below B8.out) (HRW.out.below k8)
      rw [decide_eq_true HEW2.out] at cs2
      clear cs k8
      go_wp2_with fail
      (with_reducible refine cs2.mono ?_)
      rintro e w9 ⟨rfl, k9⟩
      have K9 := Lib.hid (K7.out.trans ((B8.out.trans (k9.mono s8)).mono s7))
      clear cs2 k9
      go_wp2
      go_ret
      exact ⟨rfl, K9.out⟩
    have hib : i < b.length := by rw [HM.out]; exact hlt
    have f1 : (i : Int) < (m : Int) := by omega
    obtain ⟨g, o, rfl, hg, hcl⟩ := Lb7.out.pos (by omega)
    obtain ⟨c0, c1, c2⟩ := hcl i hib
    have z0 := (HBR.out.cell (p := ⟨g, o + i * 3, none⟩) hg).trans c0
    have cF := rfind_any a n HN.out (by omega) A' cA' b[i].id wr (La7.out.below HBR.out)
    have HFO := Lib.hid (fnd_or b[i].id a)
    have HPUT := Lib.hid (fun hn' => minv_put HSB.out hib HINV.out hn')
    have HSAME := Lib.hid (fun hin => minv_same hib HINV.out hin)
    have HBI := Lib.hid (List.getElem_mem hib)
    have C0 := Lib.hid c0
    have C1 := Lib.hid c1
    have C2 := Lib.hid c2
    have HQI := Lib.hid HINV.out.2.2.2
    have HSM := Lib.hid HINV.out.1
    have HAM := Lib.hid (fun y (hy : y ∈ a) => (HINV.out.2.1 y).2 (.inl hy))
    clear hcl c0 c1 c2 HINV
    generalize hx : b[i] = x at z0 cF HFO HPUT HSAME HBI C0 C1 C2
    clear hx
    obtain ⟨xa, xs, xt⟩ := x
    dsimp only at z0 cF HFO C0 C1 C2
    rcases HFO.out with ⟨k, hk, hfk, hke, _⟩ | ⟨hfk, hno⟩
    case inr =>
      rw [hfk] at cF
      obtain ⟨hne, hinv⟩ := HPUT.out (fun y hy => by
        obtain ⟨j, hj, rfl⟩ := List.mem_iff_getElem.1 hy
        exact hno j hj)
      have HI := Lib.hid hinv
      have HNE := Lib.hid hne
      clear hfk hno hne hinv HPUT HSAME HFO
      go_wp2_with fail
      (with_reducible refine cF.mono ?_)
      rintro e w8 ⟨rfl, k8⟩
      have B8 := Lib.hid (HBR.out.trans (k8.mono sR))
      have s8 := B8.out.size
      have z0' := (B8.out.cell (p := ⟨g, o + i * 3, none⟩) hg).trans C0.out
      have z1' := (B8.out.cell (p := ⟨g, o + i * 3 + 1, none⟩) hg).trans C1.out
      have z2' := (B8.out.cell (p := ⟨g, o + i * 3 + 2, none⟩) hg).trans C2.out
      have cP := put_all W q HWQ.out (by have := HQI.out; have := HWQ.out; have := HN.out; rw [List.length_take] at *; omega) HSM.out ⟨xa, xs, xt⟩ HNE.out BW cW HCW.out w8 (HRW.out.below k8)
      have HL9 := Lib.hid (putR_len (x := ⟨xa, xs, xt⟩) HSM.out HNE.out)
      clear cF k8 z0
      go_wp2_with fail
      (with_reducible refine cP.mono ?_)
      rintro e w9 ⟨B9, c9, rfl, h91, h92, hR9, k9⟩
      have B9' := Lib.hid (B8.out.trans (k9.mono s8))
      have HC9 := Lib.hid (And.intro h91 h92)
      have R9 := Lib.hid hR9
      clear cP k9 h91 h92 hR9
      go_wp2
      go_roundw
      case rel => exact ⟨rfl, i + 1, by omega, by first | rfl | go_num, B9', putR W ⟨xa, xs, xt⟩, B9, _, c9, rfl, Lib.hid rfl, HC9, R9, HI⟩
      case measure => simp [intOf]; omega
    case inl =>
      rw [hfk] at cF
      obtain ⟨ga, oa, rfl, hga, hca⟩ := La7.out.pos (by omega)
      obtain ⟨a0, a1, a2⟩ := hca k hk
      have hkn : k < n := by rw [← HN.out]; exact hk
      have g0 : (0 : Int) ≤ (k : Int) := by omega
      have g1 : (k : Int) < (n : Int) := by omega
      have g3 : ¬ (k : Int) < 0 := by omega
      have HAK := Lib.hid (List.getElem_mem hk)
      have HKE := Lib.hid hke
      have A0 := Lib.hid a0
      have A1 := Lib.hid a1
      have A2 := Lib.hid a2
      clear hfk hca a0 a1 a2 HPUT HFO hke
      generalize hu : a[k] = u at HAK HKE A0 A1 A2
      clear hu
      obtain ⟨ua, us, ut⟩ := u
      dsimp only at HKE A0 A1 A2
      go_wp2_with fail
      (with_reducible refine cF.mono ?_)
      rintro e w8 ⟨rfl, k8⟩
      have B8 := Lib.hid (HBR.out.trans (k8.mono sR))
      have s8 := B8.out.size
      have z0' := (B8.out.cell (p := ⟨g, o + i * 3, none⟩) hg).trans C0.out
      have z1' := (B8.out.cell (p := ⟨g, o + i * 3 + 1, none⟩) hg).trans C1.out
      have z2' := (B8.out.cell (p := ⟨g, o + i * 3 + 2, none⟩) hg).trans C2.out
      have y0' := (B8.out.cell (p := ⟨ga, oa + k * 3, none⟩) hga).trans A0.out
      have y1' := (B8.out.cell (p := ⟨ga, oa + k * 3 + 1, none⟩) hga).trans A1.out
      have y2' := (B8.out.cell (p := ⟨ga, oa + k * 3 + 2, none⟩) hga).trans A2.out
      have RW8 := Lib.hid (HRW.out.below k8)
      clear cF k8 z0
      by_cases h1 : ua = xa
      case neg => exact absurd HKE.out h1
      by_cases h2 : us = xs
      case neg =>
        have e1 : (ua == xa) = true := by rw [h1]; exact beq_self_eq_true xa
        have e2 : (us.toList == xs.toList) = false := str_neB h2
        have HNQ := Lib.hid (show (⟨ua, us, ut⟩ : Rv) ≠ ⟨xa, xs, xt⟩ from fun h => h2 (congrArg Rv.author h))
        clear h1 h2
        exact absurd (HCOMP.out _ HAK.out _ HBI.out HKE.out) HNQ.out
      by_cases h3 : ut = xt
      case neg =>
        have e1 : (ua == xa) = true := by rw [h1]; exact beq_self_eq_true xa
        have e2 : (us.toList == xs.toList) = true := str_eqB h2
        have e3 : (ut == xt) = false := neB h3
        have HNQ := Lib.hid (show (⟨ua, us, ut⟩ : Rv) ≠ ⟨xa, xs, xt⟩ from fun h => h3 (congrArg Rv.time h))
        clear h1 h2 h3
        exact absurd (HCOMP.out _ HAK.out _ HBI.out HKE.out) HNQ.out
      have e1 : (ua == xa) = true := by rw [h1]; exact beq_self_eq_true xa
      have e2 : (us.toList == xs.toList) = true := str_eqB h2
      have e3 : (ut == xt) = true := by rw [h3]; exact beq_self_eq_true xt
      have HEQ := Lib.hid (show (⟨ua, us, ut⟩ : Rv) = ⟨xa, xs, xt⟩ by rw [h1, h2, h3])
      clear h1 h2 h3
      go_wp2
      go_quiet (fail)
      go_wp2
      go_roundw
      case rel => exact ⟨rfl, i + 1, by omega, by first | rfl | go_num, Lib.hid (bdrew B8.out _), W, BW, q, cW, rfl, HWQ, HCW, Lib.hid RW8.out, Lib.hid (HSAME.out (by have h1 : (⟨ua, us, ut⟩ : Rv) ∈ W := HAM.out _ HAK.out; rw [HEQ.out] at h1; exact h1))⟩
      case measure => simp [intOf]; omega

attribute [local irreducible] wpQuiet in
set_option maxRecDepth 100000 in
set_option maxHeartbeats 16000000 in
theorem merges_no (ha : chkL vld a = 0) (hb : chkL vld b = 0) (hcomp : ¬ Comp a b) : Calls Try.prog 8 #[.slice A n0 c, .slice B m0 d] w (TrueW w) := by
  unfold CutC at cA cB
  have CB := Lib.hid cB
  have HN := Lib.hid hn
  have HM := Lib.hid hm
  have HZA := Lib.hid hza
  have HZB := Lib.hid hzb
  clear cB hn hm hza hzb
  have HSA := Lib.hid (chk_sort ha)
  have HSB := Lib.hid (chk_sort hb)
  have HE1 := Lib.hid (mrgE_no ha hb (mrg_no HSA.out HSB.out hcomp))
  have HE2 := Lib.hid (mrgE_no hb ha (mrg_no HSB.out HSA.out (fun h => hcomp h.symm)))
  have HA0 := Lib.hid ha
  have HB0 := Lib.hid hb
  have HCOMP := Lib.hid hcomp
  clear ha hb hcomp
  go_enter Try.func8, Try.ntmps8
  go_wp2_with fail
  (with_reducible refine cA.mono ?_)
  rintro e w1 ⟨A', cA', rfl, hLa, k1⟩
  have K1 := Lib.hid k1
  have s1 := k1.size
  have cb := CB.out w1 k1
  have La := Lib.hid hLa.1
  have HCA := Lib.hid hLa.2
  clear cA k1 hLa
  go_wp2_with fail
  (with_reducible refine cb.mono ?_)
  rintro e w2 ⟨B', cB', rfl, hLb, k2⟩
  have K2 := Lib.hid (K1.out.trans (k2.mono s1))
  have s2 := K2.out.size
  have La2 := Lib.hid (La.out.below k2)
  have Lb2 := Lib.hid hLb.1
  have HCB := Lib.hid hLb.2
  clear cb k2 hLb
  have cM := merge_any a b n m HN.out HM.out (by omega) HZA.out HZB.out A' B' cA' cB' HCA.out w2 La2.out Lb2.out
  go_wp2_with fail
  (with_reducible refine cM.mono ?_)
  rintro e w3 ⟨hm1, k3⟩
  have K3 := Lib.hid (K2.out.trans (k3.mono s2))
  have s3 := K3.out.size
  have La3 := Lib.hid (La2.out.below k3)
  have Lb3 := Lib.hid (Lb2.out.below k3)
  clear cM k3
  obtain rfl := mrgR_bad hm1 HE1.out (by decide)
  clear hm1
  have cM2 := merge_any b a m n HM.out HN.out (by omega) HZB.out HZA.out B' A' cB' cA' HCB.out w3 Lb3.out La3.out
  go_wp2_with fail
  (with_reducible refine cM2.mono ?_)
  rintro e w4 ⟨hm2, k4⟩
  have K4 := Lib.hid (K3.out.trans (k4.mono s3))
  have s4 := K4.out.size
  have La4 := Lib.hid (La3.out.below k4)
  have Lb4 := Lib.hid (Lb3.out.below k4)
  obtain rfl := mrgR_bad hm2 HE2.out (by decide)
  clear hm2
  clear cM2 k4
  go_wp2_with fail
  (with_reducible refine (known_any _).mono ?_)
  rintro e w5 ⟨rfl, k5⟩
  have K5 := Lib.hid (K4.out.trans (k5.mono s4))
  have s5 := K5.out.size
  have La5 := Lib.hid (La4.out.below k5)
  have Lb5 := Lib.hid (Lb4.out.below k5)
  clear k5
  have cc := rcheck_any a n HN.out (by omega) HZA.out A' cA' w5 La5.out
  rw [HA0.out] at cc
  go_wp2_with fail
  (with_reducible refine cc.mono ?_)
  rintro e w6 ⟨rfl, k6⟩
  have K6 := Lib.hid (K5.out.trans (k6.mono s5))
  have s6 := K6.out.size
  have La6 := Lib.hid (La5.out.below k6)
  have Lb6 := Lib.hid (Lb5.out.below k6)
  clear cc k6
  have cc := rcheck_any b m HM.out (by omega) HZB.out B' cB' w6 Lb6.out
  rw [HB0.out] at cc
  go_wp2_with fail
  (with_reducible refine cc.mono ?_)
  rintro e w7 ⟨rfl, k7⟩
  have K7 := Lib.hid (K6.out.trans (k7.mono s6))
  have s7 := K7.out.size
  have La7 := Lib.hid (La6.out.below k7)
  have Lb7 := Lib.hid (Lb6.out.below k7)
  clear cc k7
  have hbr := Lib.hid (Below.refl w7.heap.size w7)
  go_wp2_with fail
  go_loopw [9, 10, 11, 12] (fun s9 s10 s11 _ wr => ∃ i : Nat, i ≤ m ∧ s11 = .int .i64 (i : Nat) ∧ Hid (Below w7.heap.size w7 wr) ∧ ∃ (W : List Rv) (BW : Option Addr) (q cW : Nat), s10 = .slice BW q cW ∧ ((s9 = .int .i64 0 ∧ Hid (W.length = q) ∧ Hid (q ≤ cW ∧ cW ≤ maxLen) ∧ Hid (RsAt wr BW W) ∧ Hid (MInv a (b.take i) W)) ∨ s9 = .int .i64 23)) (fun _ _ s11 _ _ => m - (intOf s11).toNat)
  case atStart => exact ⟨0, Nat.zero_le _, rfl, hbr, a, A', n, cA', rfl, .inl ⟨rfl, HN, HCA, La7, Lib.hid (minv_none HSA.out)⟩⟩
  case round =>
    clear hbr
    obtain ⟨i, him, rfl, HBR, W, BW, q, cW, rfl, hor⟩ := hrel
    have sR := HBR.out.size
    have KR := Lib.hid (K7.out.trans (HBR.out.mono s7))
    rcases hor with ⟨rfl, HWQ, HCW, HRW, HINV⟩ | rfl
    case inr =>
      by_cases hlt : i < m
      · have f1 : (i : Int) < (m : Int) := by omega
        go_wp2
        go_ret
        exact ⟨by simp, KR.out⟩
      · have f1 : ¬ (i : Int) < (m : Int) := by omega
        go_wp2
        go_ret
        exact ⟨by simp, KR.out⟩
    case inl =>
      by_cases hlt : i < m
      case neg =>
        obtain rfl : i = m := by omega
        exact absurd (by have h := HINV.out; rw [List.take_of_length_le (show b.length ≤ i by rw [HM.out]; exact Nat.le_refl _)] at h; exact h.2.2.1) HCOMP.out
      have hib : i < b.length := by rw [HM.out]; exact hlt
      have f1 : (i : Int) < (m : Int) := by omega
      obtain ⟨g, o, rfl, hg, hcl⟩ := Lb7.out.pos (by omega)
      obtain ⟨c0, c1, c2⟩ := hcl i hib
      have z0 := (HBR.out.cell (p := ⟨g, o + i * 3, none⟩) hg).trans c0
      have cF := rfind_any a n HN.out (by omega) A' cA' b[i].id wr (La7.out.below HBR.out)
      have HFO := Lib.hid (fnd_or b[i].id a)
      have HPUT := Lib.hid (fun hn' => minv_put HSB.out hib HINV.out hn')
      have HSAME := Lib.hid (fun hin => minv_same hib HINV.out hin)
      have HBI := Lib.hid (List.getElem_mem hib)
      have C0 := Lib.hid c0
      have C1 := Lib.hid c1
      have C2 := Lib.hid c2
      have HQI := Lib.hid HINV.out.2.2.2
      have HSM := Lib.hid HINV.out.1
      have HAM := Lib.hid (fun y (hy : y ∈ a) => (HINV.out.2.1 y).2 (.inl hy))
      clear hcl c0 c1 c2 HINV
      generalize hx : b[i] = x at z0 cF HFO HPUT HSAME HBI C0 C1 C2
      clear hx
      obtain ⟨xa, xs, xt⟩ := x
      dsimp only at z0 cF HFO C0 C1 C2
      rcases HFO.out with ⟨k, hk, hfk, hke, _⟩ | ⟨hfk, hno⟩
      case inr =>
        rw [hfk] at cF
        obtain ⟨hne, hinv⟩ := HPUT.out (fun y hy => by
          obtain ⟨j, hj, rfl⟩ := List.mem_iff_getElem.1 hy
          exact hno j hj)
        have HI := Lib.hid hinv
        have HNE := Lib.hid hne
        clear hfk hno hne hinv HPUT HSAME HFO
        go_wp2_with fail
        (with_reducible refine cF.mono ?_)
        rintro e w8 ⟨rfl, k8⟩
        have B8 := Lib.hid (HBR.out.trans (k8.mono sR))
        have s8 := B8.out.size
        have z0' := (B8.out.cell (p := ⟨g, o + i * 3, none⟩) hg).trans C0.out
        have z1' := (B8.out.cell (p := ⟨g, o + i * 3 + 1, none⟩) hg).trans C1.out
        have z2' := (B8.out.cell (p := ⟨g, o + i * 3 + 2, none⟩) hg).trans C2.out
        have cP := put_all W q HWQ.out (by have := HQI.out; have := HWQ.out; have := HN.out; rw [List.length_take] at *; omega) HSM.out ⟨xa, xs, xt⟩ HNE.out BW cW HCW.out w8 (HRW.out.below k8)
        have HL9 := Lib.hid (putR_len (x := ⟨xa, xs, xt⟩) HSM.out HNE.out)
        clear cF k8 z0
        go_wp2_with fail
        (with_reducible refine cP.mono ?_)
        rintro e w9 ⟨B9, c9, rfl, h91, h92, hR9, k9⟩
        have B9' := Lib.hid (B8.out.trans (k9.mono s8))
        have HC9 := Lib.hid (And.intro h91 h92)
        have R9 := Lib.hid hR9
        clear cP k9 h91 h92 hR9
        go_wp2
        go_roundw
        case rel => exact ⟨i + 1, by omega, by first | rfl | go_num, B9', putR W ⟨xa, xs, xt⟩, B9, _, c9, rfl, .inl ⟨rfl, Lib.hid rfl, HC9, R9, HI⟩⟩
        case measure => simp [intOf]; omega
      case inl =>
        rw [hfk] at cF
        obtain ⟨ga, oa, rfl, hga, hca⟩ := La7.out.pos (by omega)
        obtain ⟨a0, a1, a2⟩ := hca k hk
        have hkn : k < n := by rw [← HN.out]; exact hk
        have g0 : (0 : Int) ≤ (k : Int) := by omega
        have g1 : (k : Int) < (n : Int) := by omega
        have g3 : ¬ (k : Int) < 0 := by omega
        have HAK := Lib.hid (List.getElem_mem hk)
        have HKE := Lib.hid hke
        have A0 := Lib.hid a0
        have A1 := Lib.hid a1
        have A2 := Lib.hid a2
        clear hfk hca a0 a1 a2 HPUT HFO hke
        generalize hu : a[k] = u at HAK HKE A0 A1 A2
        clear hu
        obtain ⟨ua, us, ut⟩ := u
        dsimp only at HKE A0 A1 A2
        go_wp2_with fail
        (with_reducible refine cF.mono ?_)
        rintro e w8 ⟨rfl, k8⟩
        have B8 := Lib.hid (HBR.out.trans (k8.mono sR))
        have s8 := B8.out.size
        have z0' := (B8.out.cell (p := ⟨g, o + i * 3, none⟩) hg).trans C0.out
        have z1' := (B8.out.cell (p := ⟨g, o + i * 3 + 1, none⟩) hg).trans C1.out
        have z2' := (B8.out.cell (p := ⟨g, o + i * 3 + 2, none⟩) hg).trans C2.out
        have y0' := (B8.out.cell (p := ⟨ga, oa + k * 3, none⟩) hga).trans A0.out
        have y1' := (B8.out.cell (p := ⟨ga, oa + k * 3 + 1, none⟩) hga).trans A1.out
        have y2' := (B8.out.cell (p := ⟨ga, oa + k * 3 + 2, none⟩) hga).trans A2.out
        have RW8 := Lib.hid (HRW.out.below k8)
        clear cF k8 z0
        by_cases h1 : ua = xa
        case neg => exact absurd HKE.out h1
        by_cases h2 : us = xs
        case neg =>
          have e1 : (ua == xa) = true := by rw [h1]; exact beq_self_eq_true xa
          have e2 : (us.toList == xs.toList) = false := str_neB h2
          have HNQ := Lib.hid (show (⟨ua, us, ut⟩ : Rv) ≠ ⟨xa, xs, xt⟩ from fun h => h2 (congrArg Rv.author h))
          clear h1 h2
          go_wp2
          go_quiet (fail)
          go_wp2
          go_roundw
          case rel => exact ⟨i + 1, by omega, by first | rfl | go_num, Lib.hid (bdrew B8.out _), W, BW, q, cW, rfl, .inr rfl⟩
          case measure => simp [intOf]; omega
        by_cases h3 : ut = xt
        case neg =>
          have e1 : (ua == xa) = true := by rw [h1]; exact beq_self_eq_true xa
          have e2 : (us.toList == xs.toList) = true := str_eqB h2
          have e3 : (ut == xt) = false := neB h3
          have HNQ := Lib.hid (show (⟨ua, us, ut⟩ : Rv) ≠ ⟨xa, xs, xt⟩ from fun h => h3 (congrArg Rv.time h))
          clear h1 h2 h3
          go_wp2
          go_quiet (fail)
          go_wp2
          go_roundw
          case rel => exact ⟨i + 1, by omega, by first | rfl | go_num, Lib.hid (bdrew B8.out _), W, BW, q, cW, rfl, .inr rfl⟩
          case measure => simp [intOf]; omega
        have e1 : (ua == xa) = true := by rw [h1]; exact beq_self_eq_true xa
        have e2 : (us.toList == xs.toList) = true := str_eqB h2
        have e3 : (ut == xt) = true := by rw [h3]; exact beq_self_eq_true xt
        have HEQ := Lib.hid (show (⟨ua, us, ut⟩ : Rv) = ⟨xa, xs, xt⟩ by rw [h1, h2, h3])
        clear h1 h2 h3
        go_wp2
        go_quiet (fail)
        go_wp2
        go_roundw
        case rel => exact ⟨i + 1, by omega, by first | rfl | go_num, Lib.hid (bdrew B8.out _), W, BW, q, cW, rfl, .inl ⟨rfl, HWQ, HCW, Lib.hid RW8.out, Lib.hid (HSAME.out (by have h1 : (⟨ua, us, ut⟩ : Rv) ∈ W := HAM.out _ HAK.out; rw [HEQ.out] at h1; exact h1))⟩⟩
        case measure => simp [intOf]; omega

end
theorem law_merges (A : Option Addr) (n c : Nat) (l : List Rv) (hn : l.length = n) (hc : n ≤ c ∧ c ≤ maxLen) (hok : RsOk l) (B : Option Addr) (m d : Nat) (l' : List Rv) (hm : l'.length = m) (hd : m ≤ d ∧ d ≤ maxLen) (hok' : RsOk l') (w : World) (hA : RsAt w A l) (hB : RsAt w B l') :
    Calls Try.prog 8 #[.slice A n c, .slice B m d] w (TrueW w) := by
  have cA := cut_c l n hn hok A c hc w hA
  have cB := fun w' (hb : Below w.heap.size w w') => cut_c l' m hm hok' B d hd w' (hB.below hb)
  by_cases ha : chkL vld (cutL l) = 0
  · by_cases hb : chkL vld (cutL l') = 0
    · by_cases hcomp : Comp (cutL l) (cutL l')
      · exact merges_ok _ _ _ _ rfl rfl (cut_40 l) (cut_40 l') (cut_sz l) (cut_sz l') A B n m c d w cA cB ha hb hcomp
      · exact merges_no _ _ _ _ rfl rfl (cut_40 l) (cut_40 l') (cut_sz l) (cut_sz l') A B n m c d w cA cB ha hb hcomp
    · exact merges_bad_b _ _ _ _ rfl rfl (cut_40 l) (cut_40 l') (cut_sz l) (cut_sz l') A B n m c d w cA cB ha hb
  · exact merges_bad_a _ _ _ _ rfl rfl (cut_40 l) (cut_40 l') (cut_sz l) (cut_sz l') A B n m c d w cA cB ha
end Go.Proofs.Ytmpklkhjipclmaa
