/- Layer 8: checkFields (84). -/
import Derived.Test.YtbkpokipibgdfaaSA
import Derived.Test.YtbkpokipibgdfaaS7
namespace Go.Proofs.Ytbkpokipibgdfaa
open Go.RowKit Go.Lib Go.Maps
set_option linter.unusedVariables false

/-- Names are not of any length. -/
def NmsOk (l : List St) : Prop := ∀ x ∈ l, x.name.size ≤ 1000000
set_option maxRecDepth 100000 in
set_option maxHeartbeats 8000000 in
theorem checkfields_any (l : List St) (hok : LsOk l) (hnm : NmsOk l) (A : Option Addr) (m d b : Nat) (w : World) (h : ShAt w A m d b l) :
    Calls Try.prog 84 #[.agg #[.slice A m d, .map (some b)]] w fun e w' => e = .returned (.int .i64 (fldP l)) ∧ Below w.heap.size w w' := by
  have HH := Lib.hid h
  have HO := Lib.hid hok
  have HNM := Lib.hid hnm
  have hmk := fun w' => make123 m w'
  have HB0 := Lib.hid (((Below.refl w.heap.size w).alloc (Nat.le_refl _) (.cells #[.slice A m d, .map (some b)] 73)).alloc (by simp) (.map #[] 0))
  have HT0 := Lib.hid (show TtAt ((w.alloc (.cells #[.slice A m d, .map (some b)] 73)).alloc (.map #[] 0)) (w.heap.size + 1) 0 (seenT l 0) from by
    have := tt_new (w.alloc (.cells #[.slice A m d, .map (some b)] 73))
    rw [World.size_alloc] at this
    exact this.congr fun k s => (seenT_zero l k s).symm)
  have hsm := h.small
  clear h hok hnm
  go_enter Try.func84, Try.ntmps84
  go_wp2_with fail
  go_loopw [4, 16] (fun s4 s16 wr => ∃ k : Nat, k ≤ m ∧ s16 = .int .i64 (k : Nat) ∧ s4 = .int .i64 (lastI l k) ∧ Hid (∀ j, j < k → fldK l j = 0) ∧ Hid (Below w.heap.size w wr) ∧ Hid (TtAt wr (w.heap.size + 1) k (seenT l k))) (fun _ s16 _ => m - (intOf s16).toNat)
  case atStart => exact ⟨0, Nat.zero_le _, rfl, rfl, Lib.hid (fun j h => absurd h (Nat.not_lt_zero _)), HB0, HT0⟩
  case round =>
    clear HB0 HT0 hmk
    obtain ⟨k, hk, rfl, rfl, HM, HB, HT⟩ := hrel
    by_cases hlt : k < m
    · have hkl : k < l.length := by rw [HH.out.len]; exact hlt
      obtain ⟨g, o, rfl, hg, hcl⟩ := HH.out.list.pos (by omega)
      obtain ⟨B, cc, z0, z1, z2, z3, z4, z5, zc1, zc2, zp⟩ := (hcl k hkl)
      replace z0 := (HB.out.cell (p := ⟨g, o + k * 6, none⟩) hg).trans z0
      replace z1 := (HB.out.cell (p := ⟨g, o + k * 6 + 1, none⟩) hg).trans z1
      replace z2 := (HB.out.cell (p := ⟨g, o + k * 6 + 2, none⟩) hg).trans z2
      replace z3 := (HB.out.cell (p := ⟨g, o + k * 6 + 3, none⟩) hg).trans z3
      replace z4 := (HB.out.cell (p := ⟨g, o + k * 6 + 4, none⟩) hg).trans z4
      replace z5 := (HB.out.cell (p := ⟨g, o + k * 6 + 5, none⟩) hg).trans z5
      have HY := Lib.hid (fun (c : Int) (h : fldX l[k] (lastI l k) (seenT l k l[k].kind l[k].name) = c) (hc : c ≠ 0) => show fldP l = c from by
        rw [← fldK_at l k hkl] at h
        unfold fldP
        rw [chk_find (fldK l) l.length k hkl HM.out (by rw [h]; exact hc)]; exact h)
      have HX := Lib.hid (fun (h : fldX l[k] (lastI l k) (seenT l k l[k].kind l[k].name) = 0) => show ∀ j, j < k + 1 → fldK l j = 0 from fun j hj => if e : j = k then by subst e; rw [fldK_at l j hkl]; exact h else HM.out j (by omega))
      have HI := Lib.hid (HO.out l[k] (List.getElem_mem hkl))
      have HST := Lib.hid (fun kd s => seenT_step l k hkl kd s)
      have HLS := Lib.hid (lastI_succ l k hkl)
      have hna := HNM.out l[k] (List.getElem_mem hkl)
      have hs := HB.out.size
      have hlt2 := HT.out.lt
      have CC := Lib.hid (fun w' (hb : Below w.heap.size w w') => checkprops_any l[k].kind l[k].props l[k].props.length rfl B cc ⟨zc1, zc2⟩ w' (zp.below hb (Nat.le_refl _)))
      clear hcl zc1 zc2 zp
      generalize lastI l k = la at HY HX
      generalize hsq : seenT l k l[k].kind l[k].name = sn at HY HX
      have HSN := Lib.hid hsq
      clear hsq
      generalize l[k] = x at z0 z1 z2 z3 z4 z5 HY HX HI HST HLS hna CC HSN
      obtain ⟨a1, a2, a3, a4, a5, ps⟩ := x
      dsimp only at z0 z1 z2 z3 z4 z5 HY HX HI HST HLS hna CC HSN
      have HIk := Lib.hid HI.out.2.1
      have HMX := Lib.hid (show a3.size ≤ maxLen from by unfold maxLen; omega)
      obtain ⟨W1, hW1⟩ : ∃ W1, W1 = (wr.alloc (.cells #[.int .i64 a1, .int .i64 a2, .string a3, .int .i64 a4, .int .i64 a5, .slice B ps.length cc] 28)).alloc (.cells #[.int .i64 a2, .string a3] 125) := ⟨_, rfl⟩
      have K1 := Lib.hid (show Below w.heap.size w W1 from by rw [hW1]; exact (HB.out.alloc hs _).alloc (by simp; omega) _)
      have T1 := Lib.hid (show TtAt W1 (w.heap.size + 1) k (seenT l k) from by rw [hW1]; exact (HT.out.kept (World.grownBy_alloc _ _ none) (by simp)).kept (World.grownBy_alloc _ _ none) (by simp))
      have O1 := Lib.hid (show ObjAt W1 wr.heap.size #[.int .i64 a1, .int .i64 a2, .string a3, .int .i64 a4, .int .i64 a5, .slice B ps.length cc] 28 from by rw [hW1]; exact (ObjAt.new wr _ 28).alloc _)
      have Q1 := Lib.hid (show ObjAt W1 (wr.heap.size + 1) #[.int .i64 a2, .string a3] 125 from by rw [hW1]; have := ObjAt.new (wr.alloc (.cells #[.int .i64 a1, .int .i64 a2, .string a3, .int .i64 a4, .int .i64 a5, .slice B ps.length cc] 28)) #[.int .i64 a2, .string a3] 125; rw [World.size_alloc] at this; exact this)
      subst hW1
      by_cases h1 : a1 < 1
      · have e1 : decide (a1 < 1) = true := decide_eq_true h1
        have HE := Lib.hid (HY.out 18 (by unfold fldX; simp [h1]) (by omega))
        clear HY HX
        go_wp2
        go_ret
        exact ⟨by rw [HE.out]; rfl, K1.out⟩
      have e1 : decide (a1 < 1) = false := decide_eq_false h1
      by_cases h2 : 1073741824 < a1
      · have e2 : decide (1073741824 < a1) = true := decide_eq_true h2
        have HE := Lib.hid (HY.out 18 (by unfold fldX; simp [h2]) (by omega))
        clear HY HX
        go_wp2
        go_ret
        exact ⟨by rw [HE.out]; rfl, K1.out⟩
      have e2 : decide (1073741824 < a1) = false := decide_eq_false h2
      by_cases h3 : a1 = la
      · have e3 : (a1 == la) = true := by simpa using h3
        have HE := Lib.hid (HY.out 7 (by unfold fldX; dsimp only; rw [if_neg (by omega), if_pos h3]) (by omega))
        clear HY HX h3
        go_wp2
        go_ret
        exact ⟨by rw [HE.out]; rfl, K1.out⟩
      have e3 : (a1 == la) = false := by simpa using h3
      by_cases h4 : a1 < la
      · have e4 : decide (a1 < la) = true := decide_eq_true h4
        have HE := Lib.hid (HY.out 6 (by unfold fldX; dsimp only; rw [if_neg (by omega), if_neg h3, if_pos h4]) (by omega))
        clear HY HX
        go_wp2
        go_ret
        exact ⟨by rw [HE.out]; rfl, K1.out⟩
      have e4 : decide (a1 < la) = false := decide_eq_false h4
      by_cases h5 : a2 ≠ 1 ∧ a2 ≠ 2
      · have e5 : (a2 != 1) = true := by simpa using h5.1
        have e6 : (a2 != 2) = true := by simpa using h5.2
        have HE := Lib.hid (HY.out 3 (by unfold fldX; dsimp only; rw [if_neg (by omega), if_neg h3, if_neg h4, if_pos h5]) (by omega))
        clear HY HX
        go_wp2
        go_ret
        exact ⟨by rw [HE.out]; rfl, K1.out⟩
      have H5 := Lib.hid (show fldX ⟨a1, a2, a3, a4, a5, ps⟩ la sn = (if nmB a3 = false then 13 else if sn = true then 7 else ckP a2 ps) from by unfold fldX; dsimp only; rw [if_neg (by omega), if_neg h3, if_neg h4, if_neg h5])
      rcases Classical.em (a2 = 1) with rfl | hk1
      · have e5 : ((1 : Int) != 1) = false := rfl
        clear h5
        cases hnm : nmB a3 with
        | false =>
          have cN := fun w' => isname_any a3 hna w'
          simp only [hnm] at cN
          have HE := Lib.hid (HY.out 13 (by rw [H5.out, if_pos hnm]) (by omega))
          clear HY HX
          go_wp2_with fail
          (with_reducible refine (cN _).mono ?_)
          rintro e w7 ⟨rfl, rfl⟩
          go_wp2
          go_ret
          exact ⟨by rw [HE.out]; rfl, K1.out⟩
        | true =>
          have cN := fun w' => isname_any a3 hna w'
          simp only [hnm] at cN
          cases hsn : sn with
          | true =>
            have hlk := tt_look T1.out HIk.out HMX.out
            rw [HSN.out, hsn] at hlk
            have HE := Lib.hid (HY.out 7 (by rw [H5.out, hnm, if_neg (by simp), if_pos hsn]) (by omega))
            clear HY HX
            go_wp2_with fail
            (with_reducible refine (cN _).mono ?_)
            rintro e w7 ⟨rfl, rfl⟩
            go_wp2
            go_ret
            exact ⟨by rw [HE.out]; rfl, K1.out⟩
          | false =>
            have hlk := tt_look T1.out HIk.out HMX.out
            rw [HSN.out, hsn] at hlk
            have cC := CC.out _ K1.out
            have H6 := Lib.hid (show fldX ⟨a1, 1, a3, a4, a5, ps⟩ la sn = ckP 1 ps from by rw [H5.out, hnm, hsn]; rfl)
            go_wp2_with fail
            (with_reducible refine (cN _).mono ?_)
            rintro e w7 ⟨rfl, rfl⟩
            clear cN
            go_wp2_with fail
            (with_reducible refine cC.mono ?_)
            rintro e w8 ⟨rfl, k8⟩
            have hs1 := K1.out.size
            have K8 := Lib.hid (K1.out.trans (k8.mono hs1))
            have T8 := T1.out.below T1.out.lt k8
            have O8 := O1.out.below k8
            have Q8 := Q1.out.below k8
            have hw8 := K8.out.size
            clear cC k8 hlk z0 z1 z2 z3 z4 z5
            by_cases hc : ckP 1 ps = 0
            · have e8 : (ckP 1 ps != 0) = false := by simpa using hc
              obtain ⟨w9, hrun, T9, hg9⟩ := tt_put T8 (by unfold maxLen; omega) HIk.out HMX.out
              have q0 := Q8.a0
              have q1 := Q8.a1
              have y0 := (O8.kept hg9 (by simp; omega)).s0
              have K9 := Lib.hid (K8.out.grown hg9 hw8 (fun j e => by cases e; omega))
              have HN := Lib.hid (HX.out (by rw [H6.out, hc]))
              have T9' := Lib.hid (T9.congr (fun kd s => (HST.out kd s).symm))
              clear HY HX T8 O8 Q8 T9 hg9 hc
              go_wp2
              go_roundw
              case rel => exact ⟨k + 1, by omega, by go_num, by rw [HLS.out], HN, K9, T9'⟩
              case measure => simp [intOf]; omega
            · have e8 : (ckP 1 ps != 0) = true := by simpa using hc
              have HE := Lib.hid (HY.out (ckP 1 ps) H6.out hc)
              clear HY HX hc T8 O8 Q8
              go_wp2
              go_ret
              exact ⟨by rw [HE.out]; rfl, K8.out⟩
      · have e5 : (a2 != 1) = true := by simpa using hk1
        obtain rfl : a2 = 2 := by omega
        have e6 : ((2 : Int) != 2) = false := rfl
        clear h5
        cases hnm : nmB a3 with
        | false =>
          have cN := fun w' => isname_any a3 hna w'
          simp only [hnm] at cN
          have HE := Lib.hid (HY.out 13 (by rw [H5.out, if_pos hnm]) (by omega))
          clear HY HX
          go_wp2_with fail
          (with_reducible refine (cN _).mono ?_)
          rintro e w7 ⟨rfl, rfl⟩
          go_wp2
          go_ret
          exact ⟨by rw [HE.out]; rfl, K1.out⟩
        | true =>
          have cN := fun w' => isname_any a3 hna w'
          simp only [hnm] at cN
          cases hsn : sn with
          | true =>
            have hlk := tt_look T1.out HIk.out HMX.out
            rw [HSN.out, hsn] at hlk
            have HE := Lib.hid (HY.out 7 (by rw [H5.out, hnm, if_neg (by simp), if_pos hsn]) (by omega))
            clear HY HX
            go_wp2_with fail
            (with_reducible refine (cN _).mono ?_)
            rintro e w7 ⟨rfl, rfl⟩
            go_wp2
            go_ret
            exact ⟨by rw [HE.out]; rfl, K1.out⟩
          | false =>
            have hlk := tt_look T1.out HIk.out HMX.out
            rw [HSN.out, hsn] at hlk
            have cC := CC.out _ K1.out
            have H6 := Lib.hid (show fldX ⟨a1, 2, a3, a4, a5, ps⟩ la sn = ckP 2 ps from by rw [H5.out, hnm, hsn]; rfl)
            go_wp2_with fail
            (with_reducible refine (cN _).mono ?_)
            rintro e w7 ⟨rfl, rfl⟩
            clear cN
            go_wp2_with fail
            (with_reducible refine cC.mono ?_)
            rintro e w8 ⟨rfl, k8⟩
            have hs1 := K1.out.size
            have K8 := Lib.hid (K1.out.trans (k8.mono hs1))
            have T8 := T1.out.below T1.out.lt k8
            have O8 := O1.out.below k8
            have Q8 := Q1.out.below k8
            have hw8 := K8.out.size
            clear cC k8 hlk z0 z1 z2 z3 z4 z5
            by_cases hc : ckP 2 ps = 0
            · have e8 : (ckP 2 ps != 0) = false := by simpa using hc
              obtain ⟨w9, hrun, T9, hg9⟩ := tt_put T8 (by unfold maxLen; omega) HIk.out HMX.out
              have q0 := Q8.a0
              have q1 := Q8.a1
              have y0 := (O8.kept hg9 (by simp; omega)).s0
              have K9 := Lib.hid (K8.out.grown hg9 hw8 (fun j e => by cases e; omega))
              have HN := Lib.hid (HX.out (by rw [H6.out, hc]))
              have T9' := Lib.hid (T9.congr (fun kd s => (HST.out kd s).symm))
              clear HY HX T8 O8 Q8 T9 hg9 hc
              go_wp2
              go_roundw
              case rel => exact ⟨k + 1, by omega, by go_num, by rw [HLS.out], HN, K9, T9'⟩
              case measure => simp [intOf]; omega
            · have e8 : (ckP 2 ps != 0) = true := by simpa using hc
              have HE := Lib.hid (HY.out (ckP 2 ps) H6.out hc)
              clear HY HX hc T8 O8 Q8
              go_wp2
              go_ret
              exact ⟨by rw [HE.out]; rfl, K8.out⟩
    · obtain rfl : k = m := by omega
      have HE := Lib.hid (show fldP l = 0 from by unfold fldP; exact chk_none (fldK l) l.length (fun j hj => HM.out j (by rw [← HH.out.len]; exact hj)))
      go_wp2
      go_ret
      exact ⟨by rw [HE.out]; rfl, HB.out⟩
end Go.Proofs.Ytbkpokipibgdfaa
