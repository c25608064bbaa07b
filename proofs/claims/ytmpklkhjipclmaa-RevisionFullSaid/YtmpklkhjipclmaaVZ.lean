/- Layer 22: the law of adding (5). -/
import Derived.Test.YtmpklkhjipclmaaVY
import Derived.Test.YtmpklkhjipclmaaVQ
namespace Go.Proofs.Ytmpklkhjipclmaa
open Go.RowKit Go.Lib
set_option linter.unusedVariables false

theorem addR_bad {L : List Rv} {x : Rv} {w w' : World} {e : Ending} {r : Int} (h : AddR L x w e w') (hr : addE L x = r) (h0 : r ≠ 0) : e = .returned (.tuple #[.slice none 0 0, .int .i64 r]) := by
  rcases h with ⟨s, h1, _, h2⟩ | ⟨h1, _⟩
  · rw [h2, ← h1, hr]
  · exact absurd (hr.symm.trans h1) h0
theorem addR_ok {L : List Rv} {x : Rv} {w w' : World} {e : Ending} (h : AddR L x w e w') (hr : addE L x = 0) : ∃ B cb, e = .returned (.tuple #[.slice B (L.length + 1) cb, .int .i64 0]) ∧ (L.length + 1 ≤ cb ∧ cb ≤ maxLen) ∧ RsAt w' B (putR L x) := by
  rcases h with ⟨s, h1, h2, _⟩ | ⟨_, h⟩
  · exact absurd (h1.symm.trans hr) h2
  · exact h
theorem chk_of_sort {M : List Rv} (h1 : ∀ x ∈ M, chkR vld x = 0) (h2 : SortP M) (h3 : M.length ≤ 256) : chkL vld M = 0 := by
  refine chkL_ok h3 fun j hj => ?_
  cases j with
  | zero => exact chkAt_head hj (h1 _ (List.getElem_mem hj))
  | succ j =>
    rw [chkAt_next hj (h1 _ (List.getElem_mem hj))]
    have := h2 j (j + 1) (by omega) hj (by omega)
    rw [if_neg (by omega), if_neg (by omega)]
theorem chk_all {L : List Rv} (h : chkL vld L = 0) : ∀ x ∈ L, chkR vld x = 0 := by
  intro x hx
  obtain ⟨j, hj, rfl⟩ := List.mem_iff_getElem.1 hx
  exact (chkAt_zero hj ((chkL_zero h).2 j hj)).1
theorem chk_put {L : List Rv} {x : Rv} (h : chkL vld L = 0) (hx : chkR vld x = 0) (hne : ∀ y ∈ L, y.id ≠ x.id) (hl : L.length < 256) : chkL vld (putR L x) = 0 := by
  refine chk_of_sort (fun y hy => ?_) (putR_sort (chk_sort h)) (by rw [putR_len (chk_sort h) hne]; omega)
  rcases (putR_mem hne y).1 hy with h1 | rfl
  · exact chk_all h y h1
  · exact hx
theorem rem_put {L : List Rv} {x : Rv} (hs : SortP L) (hne : ∀ y ∈ L, y.id ≠ x.id) : remL (putR L x) [x.id] = L := by
  refine sorted_eq ?_ hs fun y => ?_
  · have := putR_sort (x := x) hs
    rw [sortp_pw] at this ⊢
    exact List.Pairwise.filter _ this
  · unfold remL keepR
    rw [List.mem_filter, putR_mem hne]
    constructor
    · rintro ⟨h1 | rfl, h2⟩
      · exact h1
      · simp at h2
    · intro h
      exact ⟨.inl h, by simpa using hne y h⟩
attribute [local irreducible] wpQuiet in
set_option maxRecDepth 100000 in
set_option maxHeartbeats 16000000 in
theorem adds_in (L : List Rv) (m : Nat) (hm : L.length = m) (h40 : m ≤ 40) (hz : SzOk L) (hok : RsOk L) (x : Rv) (hx1 : I64 x.id) (hx2 : I64 x.time) (hx : x.author.size ≤ maxLen) (A0 : Option Addr) (n0 c0 : Nat) (w : World)
    (cU : ∀ w', Below w.heap.size w w' → CutO w' A0 n0 c0 L m) : Calls Try.prog 5 #[.slice A0 n0 c0, rvV x] w (TrueW w) := by
  have b0 := (Below.refl w.heap.size w).alloc (Nat.le_refl _) (.cells #[.int .i64 x.id, .string x.author, .int .i64 x.time] 23)
  have O0 := ObjAt.new w #[.int .i64 x.id, .string x.author, .int .i64 x.time] 23
  have hbx : w.heap.size < (w.alloc (.cells #[.int .i64 x.id, .string x.author, .int .i64 x.time] 23)).heap.size := by simp
  generalize hW : w.alloc (.cells #[.int .i64 x.id, .string x.author, .int .i64 x.time] 23) = W at b0 O0 hbx
  have HW := Lib.hid hW
  have HB0 := Lib.hid b0
  have s0 := b0.size
  have OX := Lib.hid O0
  have HM := Lib.hid hm
  have HOK := Lib.hid hok
  have HZ := Lib.hid hz
  have HI1 := Lib.hid hx1
  have HI2 := Lib.hid hx2
  have c12 := Lib.hid (fun U (hU : Below W.heap.size W U) => ((cU U (b0.trans (hU.mono s0))).mono (fun e U' ⟨B', cb, h1, ⟨h2, h3⟩, h4⟩ => ⟨B', cb, h1, own_lower h2 hU.size, h3, hU.trans (h4.mono hU.size)⟩) :
    Calls Try.prog 12 #[.slice A0 n0 c0] U fun e U' => ∃ B' cb, e = .returned (.slice B' m cb) ∧ U'.ownsRow W.heap.size 23 3 (.slice B' m cb) m (rowR L) ∧ (m ≤ cb ∧ cb ≤ maxLen) ∧ Below W.heap.size W U'))
  have c11 := Lib.hid (fun U B' cb (hU : Below W.heap.size W U) (hr : U.ownsRow W.heap.size 23 3 (.slice B' m cb) m (rowR L)) => ((one_any x hx U).mono (fun e U' ⟨h1, h2⟩ => ⟨h1, row_below hr h2, hU.trans (h2.mono hU.size), ⟨((ObjAt.below (ObjAt.below O0 hU) h2)).frozen 0, ((ObjAt.below (ObjAt.below O0 hU) h2)).frozen 1, ((ObjAt.below (ObjAt.below O0 hU) h2)).frozen 2⟩⟩) :
    Calls Try.prog 11 #[.agg #[.int .i64 x.id, .string x.author, .int .i64 x.time]] U fun e U' => e = .returned (.agg #[.int .i64 (cutR x).id, .string (cutR x).author, .int .i64 (cutR x).time]) ∧ U'.ownsRow W.heap.size 23 3 (.slice B' m cb) m (rowR L) ∧ Below W.heap.size W U' ∧ (U'.frozen? ⟨w.heap.size, 0, none⟩ = false ∧ U'.frozen? ⟨w.heap.size, 1, none⟩ = false ∧ U'.frozen? ⟨w.heap.size, 2, none⟩ = false)))
  have SS := Lib.hid (fun U (hU : Below W.heap.size W U) => (⟨(OX.out.below hU).b0, (OX.out.below hU).b1, (OX.out.below hU).b2⟩ : U.cell? ⟨w.heap.size, 0, none⟩ = some (.int .i64 x.id) ∧ U.cell? ⟨w.heap.size, 1, none⟩ = some (.string x.author) ∧ U.cell? ⟨w.heap.size, 2, none⟩ = some (.int .i64 x.time)))
  have D0 : Below W.heap.size W W.drew := bdrew1 (Below.refl _ _)
  clear hm hok hz b0 O0 cU hx1 hx2
  go_enter Try.func5, Try.ntmps5
  go_wp2_with fail
  obtain ⟨z0, z1, z2⟩ := SS.out W (Below.refl _ _)
  go_region_with (first
    | (go_at_call 12; (with_reducible refine (c12.out _ D0).mono ?_); rintro e U1 ⟨B1, cb1, rfl, hr1, hc1, hU1⟩; obtain ⟨y0, y1, y2⟩ := SS.out U1 hU1)
    | (go_at_call 11; (with_reducible refine (c11.out _ _ _ hU1 hr1).mono ?_); rintro e U2 ⟨rfl, hr2, hU2, t0, t1, t2⟩; obtain ⟨x0, x1, x2⟩ := SS.out U2 hU2)
    | fail)
  all_goals
    have OB := (((ObjAt.below OX.out hU2).set 0 (.int .i64 (cutR x).id)).set 1 (.string (cutR x).author)).set 2 (.int .i64 (cutR x).time)
    have HR := row_setO (row_setO (row_setO hr2 hbx 0 (.int .i64 (cutR x).id)) hbx 1 (.string (cutR x).author)) hbx 2 (.int .i64 (cutR x).time)
    have KU := (((HB0.out.trans (hU2.mono s0)).setCell (p := ⟨w.heap.size, 0, none⟩) (Nat.le_refl _) (.int .i64 (cutR x).id)).setCell (p := ⟨w.heap.size, 1, none⟩) (Nat.le_refl _) (.string (cutR x).author)).setCell (p := ⟨w.heap.size, 2, none⟩) (Nat.le_refl _) (.int .i64 (cutR x).time)
    have q0 := OB.get (k := 0) (v := .int .i64 (cutR x).id) (by simp)
    have q1 := OB.get (k := 1) (v := .string (cutR x).author) (by simp)
    have q2 := OB.get (k := 2) (v := .int .i64 (cutR x).time) (by simp)
    have HBL := OB.lt
    clear OB hr2 hU1 hr1 hU2 t0 t1 t2
    try clear z0 z1 z2
    try clear y0 y1 y2
    try clear x0 x1 x2
    clear SS c12 c11 D0 HW
    generalize ((U2.setCell ⟨w.heap.size, 0, none⟩ (.int .i64 (cutR x).id)).setCell ⟨w.heap.size, 1, none⟩ (.string (cutR x).author)).setCell ⟨w.heap.size, 2, none⟩ (.int .i64 (cutR x).time) = U3 at HR KU q0 q1 q2 HBL ⊢
    obtain ⟨_, _, e9, _, _, hLA⟩ := row_rs HR HM.out
    injection e9 with e91 e92 e93
    subst e91 e93
    have LA := Lib.hid hLA
    have KX := Lib.hid KU
    have sU := KU.size
    have hxs : (cutR x).author.size ≤ 1000000 := by have := cutS_size x.author; show (cutS x.author).size ≤ _; omega
    have hxi : I64 (cutR x).id := HI1.out
    have hxt : I64 (cutR x).time := HI2.out
    clear HR KU hLA e92 HB0 OX hbx hW
    generalize cutR x = X at *
    obtain ⟨xa, xs, xt⟩ := X
    dsimp only at q0 q1 q2 hxs hxi hxt
    have HCB := Lib.hid hc1
    have HXI := Lib.hid hxi
    have HXT := Lib.hid hxt
    have Q0 := Lib.hid q0
    have Q1 := Lib.hid q1
    have Q2 := Lib.hid q2
    have HXS := Lib.hid hxs
    have cA := add_any L m HM.out (by omega) HZ.out ⟨xa, xs, xt⟩ hxs B1 cb1 HCB.out U3 LA.out
    have cK := Lib.hid (fun U => rcheckrev_any ⟨xa, xs, xt⟩ hxs U)
    clear hc1 hxi hxs hxt
    go_wp2_with fail
    (with_reducible refine cA.mono ?_)
    rintro e w4 ⟨hadd, k4⟩
    have B4 := Lib.hid k4
    have s4 := k4.size
    have HADD := Lib.hid hadd
    clear cA k4 hadd q0 q1 q2
    by_cases hcl : chkL vld L = 0
    case neg =>
      have hcl' : (chkL vld L == 0) = false := neB hcl
      have HE := Lib.hid (show addE L ⟨xa, xs, xt⟩ = chkL vld L by unfold addE; rw [if_pos hcl])
      obtain rfl := addR_bad HADD.out HE.out hcl
      clear hcl HADD HE cK
      go_wp2_with fail
      (with_reducible refine (known_any _).mono ?_)
      rintro e w5 ⟨rfl, k5⟩
      have B5 := Lib.hid (B4.out.trans (k5.mono s4))
      have cc := rcheck_any L m HM.out (by omega) HZ.out B1 cb1 w5 (LA.out.below B5.out)
      generalize chkL vld L = r at *
      clear k5
      go_wp2_with fail
      (with_reducible refine cc.mono ?_)
      rintro e w6 ⟨rfl, k6⟩
      have KF := Lib.hid (KX.out.trans ((B5.out.trans (k6.mono B5.out.size)).mono sU))
      clear k6 cc
      go_wp2
      go_ret
      exact ⟨by simp, KF.out⟩
    case pos =>
      have HCL := Lib.hid hcl
      clear hcl
      by_cases hcr : chkR vld ⟨xa, xs, xt⟩ = 0
      case neg =>
        have hcr' : (chkR vld ⟨xa, xs, xt⟩ == 0) = false := neB hcr
        have HE := Lib.hid (show addE L ⟨xa, xs, xt⟩ = chkR vld ⟨xa, xs, xt⟩ by unfold addE; rw [if_neg (by simp [HCL.out]), if_pos hcr])
        obtain rfl := addR_bad HADD.out HE.out hcr
        clear hcr HADD HE
        go_wp2_with fail
        (with_reducible refine (known_any _).mono ?_)
        rintro e w5 ⟨rfl, k5⟩
        have B5 := Lib.hid (B4.out.trans (k5.mono s4))
        have cc := rcheck_any L m HM.out (by omega) HZ.out B1 cb1 w5 (LA.out.below B5.out)
        rw [HCL.out] at cc
        clear k5
        go_wp2_with fail
        (with_reducible refine cc.mono ?_)
        rintro e w6 ⟨rfl, k6⟩
        have B6 := Lib.hid (B5.out.trans (k6.mono B5.out.size))
        have y0 := (B6.out.cell (p := ⟨w.heap.size, 0, none⟩) HBL).trans Q0.out
        have y1 := (B6.out.cell (p := ⟨w.heap.size, 1, none⟩) HBL).trans Q1.out
        have y2 := (B6.out.cell (p := ⟨w.heap.size, 2, none⟩) HBL).trans Q2.out
        have ck := cK.out w6
        clear k6 cc cK
        generalize chkR vld ⟨xa, xs, xt⟩ = r at *
        go_wp2_with fail
        (with_reducible refine ck.mono ?_)
        rintro e w7 ⟨rfl, k7⟩
        have KF := Lib.hid (KX.out.trans ((B6.out.trans (k7.mono B6.out.size)).mono sU))
        clear k7 ck
        go_wp2
        go_ret
        exact ⟨by simp, KF.out⟩
      case pos =>
        have HCR := Lib.hid hcr
        clear hcr
        rcases fnd_or xa L with ⟨k, hk, hf, hke, hkn⟩ | ⟨hf, hno⟩
        · have HE := Lib.hid (show addE L ⟨xa, xs, xt⟩ = 7 by unfold addE; rw [if_neg (by simp [HCL.out]), if_neg (by simp [HCR.out]), if_pos (by show 0 ≤ fnd xa L; omega)])
          obtain rfl := addR_bad HADD.out HE.out (by decide)
          have HF := Lib.hid hf
          clear HADD HE hf hke hkn hk
          go_wp2_with fail
          (with_reducible refine (known_any _).mono ?_)
          rintro e w5 ⟨rfl, k5⟩
          have B5 := Lib.hid (B4.out.trans (k5.mono s4))
          have cc := rcheck_any L m HM.out (by omega) HZ.out B1 cb1 w5 (LA.out.below B5.out)
          rw [HCL.out] at cc
          clear k5
          go_wp2_with fail
          (with_reducible refine cc.mono ?_)
          rintro e w6 ⟨rfl, k6⟩
          have B6 := Lib.hid (B5.out.trans (k6.mono B5.out.size))
          have y0 := (B6.out.cell (p := ⟨w.heap.size, 0, none⟩) HBL).trans Q0.out
          have y1 := (B6.out.cell (p := ⟨w.heap.size, 1, none⟩) HBL).trans Q1.out
          have y2 := (B6.out.cell (p := ⟨w.heap.size, 2, none⟩) HBL).trans Q2.out
          have ck := cK.out w6
          rw [HCR.out] at ck
          clear k6 cc cK
          go_wp2_with fail
          (with_reducible refine ck.mono ?_)
          rintro e w7 ⟨rfl, k7⟩
          have B7 := Lib.hid (B6.out.trans (k7.mono B6.out.size))
          have y0 := (B7.out.cell (p := ⟨w.heap.size, 0, none⟩) HBL).trans Q0.out
          have cN := rfind_any L m HM.out (by omega) B1 cb1 xa w7 (LA.out.below B7.out)
          rw [HF.out] at cN
          clear k7 ck
          go_wp2_with fail
          (with_reducible refine cN.mono ?_)
          rintro e w8 ⟨rfl, k8⟩
          have KF := Lib.hid (KX.out.trans ((B7.out.trans (k8.mono B7.out.size)).mono sU))
          have f0 : (0 : Int) ≤ (k : Int) := by omega
          have f1 : ¬ (k : Int) < 0 := by omega
          clear k8 cN
          go_wp2
          go_ret
          exact ⟨by simp, KF.out⟩
        · have HE := Lib.hid (show addE L ⟨xa, xs, xt⟩ = 0 by unfold addE; rw [if_neg (by simp [HCL.out]), if_neg (by simp [HCR.out]), if_neg (by show ¬ 0 ≤ fnd xa L; omega), if_neg (by rw [HM.out]; omega)])
          obtain ⟨B2, cb2, rfl, hc2, hR2⟩ := addR_ok HADD.out HE.out
          rw [HM.out] at hc2 ⊢
          have HC2 := Lib.hid hc2
          have R4 := Lib.hid hR2
          have HF := Lib.hid hf
          have HNE := Lib.hid (fun y (hy : y ∈ L) => (by
            obtain ⟨j, hj, rfl⟩ := List.mem_iff_getElem.1 hy
            exact hno j hj : y.id ≠ (⟨xa, xs, xt⟩ : Rv).id))
          have HSO := Lib.hid (chk_sort HCL.out)
          have HPL := Lib.hid (putR_len (x := ⟨xa, xs, xt⟩) HSO.out HNE.out)
          have HPC := Lib.hid (chk_put HCL.out HCR.out HNE.out (by rw [HM.out]; omega))
          have HPR := Lib.hid (show remL (putR L ⟨xa, xs, xt⟩) [xa] = L from rem_put (x := ⟨xa, xs, xt⟩) HSO.out HNE.out)
          have HPO := Lib.hid (show RsOk (putR L ⟨xa, xs, xt⟩) from fun y hy => by
            rcases (putR_mem HNE.out y).1 hy with h | rfl
            · exact HOK.out y h
            · exact ⟨HXI.out, HXT.out, by have := HXS.out; unfold maxLen; show xs.size ≤ _; omega⟩)
          have HPZ := Lib.hid (show SzOk (putR L ⟨xa, xs, xt⟩) from fun y hy => by
            rcases (putR_mem HNE.out y).1 hy with h | rfl
            · exact HZ.out y h
            · exact HXS.out)
          clear HADD HE hf hno hc2 hR2
          go_wp2_with fail
          (with_reducible refine (known_any _).mono ?_)
          rintro e w5 ⟨rfl, k5⟩
          have B5 := Lib.hid (B4.out.trans (k5.mono s4))
          have R5 := Lib.hid (R4.out.below k5)
          have cc := rcheck_any L m HM.out (by omega) HZ.out B1 cb1 w5 (LA.out.below B5.out)
          rw [HCL.out] at cc
          clear k5
          go_wp2_with fail
          (with_reducible refine cc.mono ?_)
          rintro e w6 ⟨rfl, k6⟩
          have B6 := Lib.hid (B5.out.trans (k6.mono B5.out.size))
          have R6 := Lib.hid (R5.out.below k6)
          have y0 := (B6.out.cell (p := ⟨w.heap.size, 0, none⟩) HBL).trans Q0.out
          have y1 := (B6.out.cell (p := ⟨w.heap.size, 1, none⟩) HBL).trans Q1.out
          have y2 := (B6.out.cell (p := ⟨w.heap.size, 2, none⟩) HBL).trans Q2.out
          have ck := cK.out w6
          rw [HCR.out] at ck
          clear k6 cc cK
          go_wp2_with fail
          (with_reducible refine ck.mono ?_)
          rintro e w7 ⟨rfl, k7⟩
          have B7 := Lib.hid (B6.out.trans (k7.mono B6.out.size))
          have R7 := Lib.hid (R6.out.below k7)
          have y0 := (B7.out.cell (p := ⟨w.heap.size, 0, none⟩) HBL).trans Q0.out
          have cN := rfind_any L m HM.out (by omega) B1 cb1 xa w7 (LA.out.below B7.out)
          rw [HF.out] at cN
          clear k7 ck
          go_wp2_with fail
          (with_reducible refine cN.mono ?_)
          rintro e w8 ⟨rfl, k8⟩
          have B8 := Lib.hid (B7.out.trans (k8.mono B7.out.size))
          have R8 := Lib.hid (R7.out.below k8)
          have y0 := (B8.out.cell (p := ⟨w.heap.size, 0, none⟩) HBL).trans Q0.out
          have y1 := (B8.out.cell (p := ⟨w.heap.size, 1, none⟩) HBL).trans Q1.out
          have y2 := (B8.out.cell (p := ⟨w.heap.size, 2, none⟩) HBL).trans Q2.out
          have cP := put_all L m HM.out (by omega) HSO.out ⟨xa, xs, xt⟩ HNE.out B1 cb1 HCB.out w8 (LA.out.below B8.out)
          clear k8 cN
          go_wp2_with fail
          (with_reducible refine cP.mono ?_)
          rintro e w9 ⟨B3, cb3, rfl, h91, h92, hR3, k9⟩
          have B9 := Lib.hid (B8.out.trans (k9.mono B8.out.size))
          have R9 := Lib.hid (R8.out.below k9)
          have cS := samerevs_any (putR L ⟨xa, xs, xt⟩) (putR L ⟨xa, xs, xt⟩) (m + 1) (putR L ⟨xa, xs, xt⟩).length (by rw [HPL.out, HM.out]) rfl (by omega) (by rw [HPL.out, HM.out]; omega) B2 B3 cb2 cb3 w9 R9.out hR3
          rw [decide_eq_true rfl] at cS
          clear k9 cP hR3
          go_wp2_with fail
          (with_reducible refine cS.mono ?_)
          rintro e w10 ⟨rfl, k10⟩
          have B10 := Lib.hid (B9.out.trans (k10.mono B9.out.size))
          have R10 := Lib.hid (R9.out.below k10)
          have cc := check_any (putR L ⟨xa, xs, xt⟩) (m + 1) (by rw [HPL.out, HM.out]) (by omega) HPZ.out B2 cb2 w10 R10.out
          rw [HPC.out] at cc
          clear k10 cS
          go_wp2_with fail
          (with_reducible refine cc.mono ?_)
          rintro e w11 ⟨rfl, k11⟩
          have B11 := Lib.hid (B10.out.trans (k11.mono B10.out.size))
          have R11 := Lib.hid (R10.out.below k11)
          have y0 := (B11.out.cell (p := ⟨w.heap.size, 0, none⟩) HBL).trans Q0.out
          have B12 := Lib.hid (B11.out.alloc B11.out.size (.cells #[.int .i64 xa] 3))
          have N12 := Lib.hid (NsAt.of_cells (l := [xa]) (w := w11.alloc (.cells #[.int .i64 xa] 3)) (g := w11.heap.size) (o := 0) (by simp) (by intro j u hj; have h := int_news w11 xa j u hj; rwa [Addr.add_lit] at h))
          have cR := remove_any (putR L ⟨xa, xs, xt⟩) (m + 1) (by rw [HPL.out, HM.out]) (by omega) HPO.out B2 cb2 HC2.out [xa] 1 rfl (by omega) (by intro a ha; rw [List.mem_singleton.1 ha]; exact HXI.out) (some ⟨w11.heap.size, 0, none⟩) 1 (w11.alloc (.cells #[.int .i64 xa] 3)) (R11.out.below ((Below.refl _ _).alloc (Nat.le_refl _) _)) N12.out
          rw [HPR.out, HM.out] at cR
          clear k11 cc
          go_wp2_with fail
          (with_reducible refine cR.mono ?_)
          rintro e w13 ⟨C, capC, rfl, hr13, k13⟩
          have B13 := Lib.hid (B12.out.trans (k13.mono B12.out.size))
          obtain ⟨_, _, e9, _, _, hC⟩ := row_rs hr13 HM.out
          injection e9 with e91 e92 e93
          subst e91 e93
          have cS := samerevs_any L L m m HM.out HM.out (by omega) (by omega) C B1 capC cb1 w13 hC (LA.out.below B13.out)
          rw [decide_eq_true rfl] at cS
          clear k13 cR hr13 hC e92
          go_wp2_with fail
          (with_reducible refine cS.mono ?_)
          rintro e w14 ⟨rfl, k14⟩
          have KF := Lib.hid (KX.out.trans ((B13.out.trans (k14.mono B13.out.size)).mono sU))
          clear k14 cS
          go_wp2
          go_ret
          exact ⟨rfl, KF.out⟩
/-- The law: adds. -/
theorem law_adds (A : Option Addr) (n c : Nat) (l : List Rv) (hn : l.length = n) (hc : n ≤ c ∧ c ≤ maxLen) (hok : RsOk l) (x : Rv) (hx1 : I64 x.id) (hx2 : I64 x.time) (hx : x.author.size ≤ maxLen) (w : World) (hA : RsAt w A l) :
    Calls Try.prog 5 #[.slice A n c, rvV x] w (TrueW w) :=
  adds_in (cutL l) _ rfl (cut_40 l) (cut_sz l) (cutL_ok hok) x hx1 hx2 hx A n c w (fun w' hb => cut_o l n hn hok A c hc w' (hA.below hb))
end Go.Proofs.Ytmpklkhjipclmaa
