/- Layer 8: Text (31) where nothing is wrong. -/
import Derived.Test.YtbkpokipibgdfaaSQ
import Derived.Test.YtbkpokipibgdfaaSH
import Derived.Test.YtbkpokipibgdfaaSG
namespace Go.Proofs.Ytbkpokipibgdfaa
open Go.RowKit Go.Lib Go.Maps
set_option linter.unusedVariables false

/-- What Text hands back where nothing is wrong. -/
def TxtR (l : List St) (pl ol : List Pr) (w : World) (e : Ending) (w' : World) : Prop :=
  ∃ xs1 xs2 B k cap, (ChP l (plc l (idOf 1 pl)) xs1 ∧ nxt l (plc l (idOf 1 pl)) xs1 = none) ∧ (ChP l (plc l (idOf 2 ol)) xs2 ∧ nxt l (plc l (idOf 2 ol)) xs2 = none) ∧
    e = .returned (.tuple #[.slice B k cap, .int .i64 0]) ∧ (keepP 1 (mergeL (effP l xs1) (mergeL (effP l xs2) ol))).length = k ∧
    w'.ownsRow w.heap.size 55 2 (.slice B k cap) k (rowP (keepP 1 (mergeL (effP l xs1) (mergeL (effP l xs2) ol)))) ∧ Below w.heap.size w w'
set_option maxRecDepth 100000 in
set_option maxHeartbeats 16000000 in
theorem text_good (l : List St) (hok : LsOk l) (hnm : NmsOk l) (hps : PrsOk l) (A : Option Addr) (m d N : Nat) (hm : l.length = m) (hs : m ≤ 1000) (pl ol : List Pr) (C D : Option Addr) (n1 c1 n2 c2 : Nat) (hn1 : pl.length = n1) (hn2 : ol.length = n2) (hc1 : n1 ≤ c1 ∧ c1 ≤ maxLen) (hc2 : n2 ≤ c2 ∧ c2 ≤ maxLen) (h1 : n1 ≤ 1000) (h2 : n2 ≤ 1000)
    (hs1 : SortP pl) (hs2 : SortP ol) (h0 : chkA l = 0) (hcp : chkP 2 pl = 0) (hco : chkP 1 ol = 0) (hi1 : I64 (idOf 1 pl)) (hi2 : I64 (idOf 2 ol)) (hg1 : ¬ (idOf 1 pl ≠ 0 ∧ hasB l 1 (idOf 1 pl) = false)) (hg2 : ¬ (idOf 2 ol ≠ 0 ∧ hasB l 2 (idOf 2 ol) = false))
    (hb1 : Bnd l (plc l (idOf 1 pl)) N) (hb2 : Bnd l (plc l (idOf 2 ol)) N) (hbm : ∀ xs, ChP l (plc l (idOf 2 ol)) xs → (mergeL (effP l xs) ol).length ≤ 1000) (hbm2 : ∀ xs ys, ChP l (plc l (idOf 1 pl)) xs → ChP l (plc l (idOf 2 ol)) ys → (mergeL (effP l xs) (mergeL (effP l ys) ol)).length ≤ 1000)
    (w : World) (hA : LsAt w A l) (hC : PrAt w C pl) (hD : PrAt w D ol) :
    Calls Try.prog 31 #[.slice A m d, .slice C n1 c1, .slice D n2 c2] w (TxtR l pl ol w) := by
  have cO := open_any l hok hnm A m d hm hs w hA
  have C1 := Lib.hid (fun w' (hb : Below w.heap.size w w') => check_in 2 C n1 c1 pl hn1 hc1 (by omega) w' (hC.below hb (Nat.le_refl _)))
  have C2 := Lib.hid (fun w' (hb : Below w.heap.size w w') => check_in 1 D n2 c2 ol hn2 hc2 (by omega) w' (hD.below hb (Nat.le_refl _)))
  have I1 := Lib.hid (fun b w' (hb : Below w.heap.size w w') (h : ShAt w' A m d b l) => inherited_any l hok hps A m d b N 1 pl hs1 C n1 c1 hn1 h1 hc1 hi1 hb1 w' h (hC.below hb (Nat.le_refl _)))
  have I2 := Lib.hid (fun b w' (hb : Below w.heap.size w w') (h : ShAt w' A m d b l) => inherited_any l hok hps A m d b N 2 ol hs2 D n2 c2 hn2 h2 hc2 hi2 hb2 w' h (hD.below hb (Nat.le_refl _)))
  have HD := Lib.hid hD
  have HG := Lib.hid (⟨hg1, hg2⟩ : ¬ (idOf 1 pl ≠ 0 ∧ hasB l 1 (idOf 1 pl) = false) ∧ ¬ (idOf 2 ol ≠ 0 ∧ hasB l 2 (idOf 2 ol) = false))
  have HBM := Lib.hid (⟨hb1, hb2, hbm, hbm2⟩ : Bnd l (plc l (idOf 1 pl)) N ∧ Bnd l (plc l (idOf 2 ol)) N ∧ (∀ xs, ChP l (plc l (idOf 2 ol)) xs → (mergeL (effP l xs) ol).length ≤ 1000) ∧ (∀ xs ys, ChP l (plc l (idOf 1 pl)) xs → ChP l (plc l (idOf 2 ol)) ys → (mergeL (effP l xs) (mergeL (effP l ys) ol)).length ≤ 1000))
  have HN2 := Lib.hid hn2
  have HZ := Lib.hid (⟨hcp, hco⟩ : chkP 2 pl = 0 ∧ chkP 1 ol = 0)
  clear hA hC hD hg1 hg2 hb1 hb2 hbm hbm2 hcp hco hn1 hn2 hok hnm hps hs1 hs2 hi1 hi2
  go_enter Try.func31, Try.ntmps31
  go_wp2_with fail
  (with_reducible refine cO.mono ?_)
  rintro e w1 ⟨⟨v, b, rfl, g1, _⟩, k1⟩
  obtain ⟨rfl, hsh⟩ := g1 h0
  rw [h0]
  have kn := (Below.refl w1.heap.size w1).alloc (Nat.le_refl _) (.cells #[.slice A m d, .map (some b)] 73)
  have SH := Lib.hid (hsh.below kn)
  have O2 := Lib.hid (ObjAt.new w1 #[.slice A m d, .map (some b)] 73)
  have K2 := Lib.hid (k1.alloc k1.size (.cells #[.slice A m d, .map (some b)] 73))
  have s2 := K2.out.size
  have cc := C1.out _ K2.out
  rw [HZ.out.1] at cc
  clear cO g1 hsh kn k1 h0
  go_wp2_with fail
  (with_reducible refine cc.mono ?_)
  rintro e w3 ⟨rfl, k3⟩
  have SH3 := Lib.hid (SH.out.below k3)
  have O3 := Lib.hid (O2.out.below k3)
  have K3 := Lib.hid (K2.out.trans (k3.mono s2))
  have s3 := K3.out.size
  have cc2 := C2.out _ K3.out
  rw [HZ.out.2] at cc2
  clear cc k3
  go_wp2_with fail
  (with_reducible refine cc2.mono ?_)
  rintro e w4 ⟨rfl, k4⟩
  have SH4 := Lib.hid (SH3.out.below k4)
  have O4 := Lib.hid (O3.out.below k4)
  have K4 := Lib.hid (K3.out.trans (k4.mono s3))
  have s4 := K4.out.size
  have ci := I1.out b _ K4.out SH4.out
  have p0 := O4.out.a0
  have p1 := O4.out.a1
  clear cc2 k4
  go_wp2_with fail
  (with_reducible refine ci.mono ?_)
  intro e w5 hR
  unfold InhR at hR
  rw [if_neg HG.out.1] at hR
  obtain ⟨xs1, v1, q1, q2, rfl, hr1, k5⟩ := hR
  obtain ⟨B1, cb1, rfl⟩ := own_form hr1
  have SH5 := Lib.hid (SH4.out.below k5)
  have O5 := Lib.hid (O4.out.below k5)
  have K5 := Lib.hid (K4.out.trans (k5.mono s4))
  have s5 := K5.out.size
  have HR1 := Lib.hid hr1
  have Q1 := Lib.hid (⟨q1, q2⟩ : ChP l (plc l (idOf 1 pl)) xs1 ∧ nxt l (plc l (idOf 1 pl)) xs1 = none)
  have ci2 := I2.out b _ K5.out SH5.out
  clear ci k5 p0 p1 hr1 q1 q2
  have p0 := O5.out.a0
  have p1 := O5.out.a1
  go_wp2_with fail
  (with_reducible refine ci2.mono ?_)
  intro e w6 hR
  unfold InhR at hR
  rw [if_neg HG.out.2] at hR
  obtain ⟨xs2, v2, q1, q2, rfl, hr2, k6⟩ := hR
  obtain ⟨B2, cb2, rfl⟩ := own_form hr2
  have K6 := Lib.hid (K5.out.trans (k6.mono s5))
  have s6 := K6.out.size
  have HR1' := Lib.hid (row_below HR1.out k6)
  have HR2 := Lib.hid hr2
  have Q2 := Lib.hid (⟨q1, q2⟩ : ChP l (plc l (idOf 2 ol)) xs2 ∧ nxt l (plc l (idOf 2 ol)) xs2 = none)
  clear ci2 k6 p0 p1 hr2 q1 q2
  obtain ⟨_, _, he, hx1, hx2, hx3⟩ := PVal.own HR2.out rfl
  injection he with e1 e2 e3
  subst e1 e3
  have cM := merge_any B2 D cb2 c2 (effP l xs2) ol (HBM.out.2.1 _ Q2.out.1).1 (by rw [HN2.out]; exact h2) ⟨hx1, hx2⟩ (by rw [HN2.out]; exact hc2) w6 hx3 (HD.out.below K6.out (Nat.le_refl _))
  rw [HN2.out] at cM
  clear hx1 hx2 hx3 e2
  go_wp2_with fail
  (with_reducible refine cM.mono ?_)
  rintro e w7 ⟨v3, rfl, hr3, k7⟩
  obtain ⟨B3, cb3, rfl⟩ := own_form hr3
  have K7 := Lib.hid (K6.out.trans (k7.mono s6))
  have s7 := K7.out.size
  have HR1s := Lib.hid (row_below HR1'.out k7)
  clear cM k7
  have hl3 : (mergeL (effP l xs2) ol).length = (pairs (effP l xs2) ol).length := by unfold mergeL; rw [List.length_map]
  have hr3' : w7.ownsRow w6.heap.size 55 2 (.slice B3 (pairs (effP l xs2) ol).length cb3) (pairs (effP l xs2) ol).length (rowP (mergeL (effP l xs2) ol)) := hr3
  obtain ⟨_, _, he, hy1, hy2, hy3⟩ := PVal.own hr3' hl3
  injection he with e1 e2 e3
  subst e1 e3
  obtain ⟨_, _, he, hx1, hx2, hx3⟩ := PVal.own HR1s.out rfl
  injection he with e1 e2' e3
  subst e1 e3
  have cM := merge_any B1 B3 cb1 cb3 (effP l xs1) (mergeL (effP l xs2) ol) (HBM.out.1 _ Q1.out.1).1 (HBM.out.2.2.1 _ Q2.out.1) ⟨hx1, hx2⟩ ⟨hy1, hy2⟩ w7 hx3 hy3
  rw [hl3] at cM
  have HL3 := Lib.hid hl3
  clear hx1 hx2 hx3 hy1 hy2 hy3 e2 e2' hr3 hr3' hl3
  go_wp2_with fail
  (with_reducible refine cM.mono ?_)
  rintro e w8 ⟨v4, rfl, hr4, k8⟩
  obtain ⟨B4, cb4, rfl⟩ := own_form hr4
  have K8 := Lib.hid (K7.out.trans (k8.mono s7))
  have s8 := K8.out.size
  clear cM k8
  have hl4 : (mergeL (effP l xs1) (mergeL (effP l xs2) ol)).length = (pairs (effP l xs1) (mergeL (effP l xs2) ol)).length := by rw [mergeL, List.length_map]
  have hr4' : w8.ownsRow w7.heap.size 55 2 (.slice B4 (pairs (effP l xs1) (mergeL (effP l xs2) ol)).length cb4) (pairs (effP l xs1) (mergeL (effP l xs2) ol)).length (rowP (mergeL (effP l xs1) (mergeL (effP l xs2) ol))) := hr4
  obtain ⟨_, _, he, hy1, hy2, hy3⟩ := PVal.own hr4' hl4
  injection he with e1 e2 e3
  subst e1 e3
  have cP := pick_any 1 (mergeL (effP l xs1) (mergeL (effP l xs2) ol)) _ cb4 hl4 (by rw [← hl4]; exact HBM.out.2.2.2 _ _ Q1.out.1 Q2.out.1) B4 ⟨by rw [← hl4]; exact hy1, hy2⟩ w8 hy3
  clear hy1 hy2 hy3 e2 hr4 hr4' hl4
  go_wp2_with fail
  (with_reducible refine cP.mono ?_)
  rintro e w9 ⟨B5, k, cap, rfl, hk, hr5, k9⟩
  clear cP
  go_wp2
  go_ret2
  exact ⟨xs1, xs2, B5, k, cap, Q1.out, Q2.out, rfl, hk, own_lower hr5 s8, K8.out.trans (k9.mono s8)⟩
end Go.Proofs.Ytbkpokipibgdfaa
