/- Layer 8: the texts SB SC SD. -/
import Derived.Test.YtbkpokipibgdfaaNH
import Derived.Test.YtbkpokipibgdfaaNE
import Derived.Stop.RegionWithIn

/- Layer 8: checkFields (84). -/
namespace Go.Proofs.Ytbkpokipibgdfaa
open Go.RowKit Go.Lib Go.Maps
set_option linter.unusedVariables false

/-- Names are not of any length. -/
def NmsOk (l : List St) : Prop := ∀ x ∈ l, x.name.size ≤ 1000000
set_option maxRecDepth 100000 in
set_option maxHeartbeats 8000000 in
theorem checkfields_any (l : List St) (hok : LsOk l) (hnm : NmsOk l) (A : Option Addr) (m d b : Nat) (w : World) (h : ShAt w A m d b l) :
    Calls Try.prog 84 #[.agg #[.slice A m d, .map (some b)]] w fun e w' => e = .returned (.int .i64 (fldP l)) ∧ Below w.heap.size w w' := by
  have HH := Lib.hid h
  have HO := Lib.hid hok
  have HNM := Lib.hid hnm
  have hmk := fun w' => make123 m w'
  have HB0 := Lib.hid (((Below.refl w.heap.size w).alloc (Nat.le_refl _) (.cells #[.slice A m d, .map (some b)] 73)).alloc (by simp) (.map #[] 0))
  have HT0 := Lib.hid (show TtAt ((w.alloc (.cells #[.slice A m d, .map (some b)] 73)).alloc (.map #[] 0)) (w.heap.size + 1) 0 (seenT l 0) from by
    have := tt_new (w.alloc (.cells #[.slice A m d, .map (some b)] 73))
    rw [World.size_alloc] at this
    exact this.congr fun k s => (seenT_zero l k s).symm)
  have hsm := h.small
  clear h hok hnm
  go_enter Try.func84, Try.ntmps84
  go_wp2_with fail
  go_loopw [4, 16] (fun s4 s16 wr => ∃ k : Nat, k ≤ m ∧ s16 = .int .i64 (k : Nat) ∧ s4 = .int .i64 (lastI l k) ∧ Hid (∀ j, j < k → fldK l j = 0) ∧ Hid (Below w.heap.size w wr) ∧ Hid (TtAt wr (w.heap.size + 1) k (seenT l k))) (fun _ s16 _ => m - (intOf s16).toNat)
  case atStart => exact ⟨0, Nat.zero_le _, rfl, rfl, Lib.hid (fun j h => absurd h (Nat.not_lt_zero _)), HB0, HT0⟩
  case round =>
    clear HB0 HT0 hmk
    obtain ⟨k, hk, rfl, rfl, HM, HB, HT⟩ := hrel
    by_cases hlt : k < m
    · have hkl : k < l.length := by rw [HH.out.len]; exact hlt
      obtain ⟨g, o, rfl, hg, hcl⟩ := HH.out.list.pos (by omega)
      obtain ⟨B, cc, z0, z1, z2, z3, z4, z5, zc1, zc2, zp⟩ := (hcl k hkl)
      replace z0 := (HB.out.cell (p := ⟨g, o + k * 6, none⟩) hg).trans z0
      replace z1 := (HB.out.cell (p := ⟨g, o + k * 6 + 1, none⟩) hg).trans z1
      replace z2 := (HB.out.cell (p := ⟨g, o + k * 6 + 2, none⟩) hg).trans z2
      replace z3 := (HB.out.cell (p := ⟨g, o + k * 6 + 3, none⟩) hg).trans z3
      replace z4 := (HB.out.cell (p := ⟨g, o + k * 6 + 4, none⟩) hg).trans z4
      replace z5 := (HB.out.cell (p := ⟨g, o + k * 6 + 5, none⟩) hg).trans z5
      have HY := Lib.hid (fun (c : Int) (h : fldX l[k] (lastI l k) (seenT l k l[k].kind l[k].name) = c) (hc : c ≠ 0) => show fldP l = c from by
        rw [← fldK_at l k hkl] at h
        unfold fldP
        rw [chk_find (fldK l) l.length k hkl HM.out (by rw [h]; exact hc)]; exact h)
      have HX := Lib.hid (fun (h : fldX l[k] (lastI l k) (seenT l k l[k].kind l[k].name) = 0) => show ∀ j, j < k + 1 → fldK l j = 0 from fun j hj => if e : j = k then by subst e; rw [fldK_at l j hkl]; exact h else HM.out j (by omega))
      have HI := Lib.hid (HO.out l[k] (List.getElem_mem hkl))
      have HST := Lib.hid (fun kd s => seenT_step l k hkl kd s)
      have HLS := Lib.hid (lastI_succ l k hkl)
      have hna := HNM.out l[k] (List.getElem_mem hkl)
      have hs := HB.out.size
      have hlt2 := HT.out.lt
      have CC := Lib.hid (fun w' (hb : Below w.heap.size w w') => checkprops_any l[k].kind l[k].props l[k].props.length rfl B cc ⟨zc1, zc2⟩ w' (zp.below hb (Nat.le_refl _)))
      clear hcl zc1 zc2 zp
      generalize lastI l k = la at HY HX
      generalize hsq : seenT l k l[k].kind l[k].name = sn at HY HX
      have HSN := Lib.hid hsq
      clear hsq
      generalize l[k] = x at z0 z1 z2 z3 z4 z5 HY HX HI HST HLS hna CC HSN
      obtain ⟨a1, a2, a3, a4, a5, ps⟩ := x
      dsimp only at z0 z1 z2 z3 z4 z5 HY HX HI HST HLS hna CC HSN
      have HIk := Lib.hid HI.out.2.1
      have HMX := Lib.hid (show a3.size ≤ maxLen from by unfold maxLen; omega)
      obtain ⟨W1, hW1⟩ : ∃ W1, W1 = (wr.alloc (.cells #[.int .i64 a1, .int .i64 a2, .string a3, .int .i64 a4, .int .i64 a5, .slice B ps.length cc] 28)).alloc (.cells #[.int .i64 a2, .string a3] 125) := ⟨_, rfl⟩
      have K1 := Lib.hid (show Below w.heap.size w W1 from by rw [hW1]; exact (HB.out.alloc hs _).alloc (by simp; omega) _)
      have T1 := Lib.hid (show TtAt W1 (w.heap.size + 1) k (seenT l k) from by rw [hW1]; exact (HT.out.kept (World.grownBy_alloc _ _ none) (by simp)).kept (World.grownBy_alloc _ _ none) (by simp))
      have O1 := Lib.hid (show ObjAt W1 wr.heap.size #[.int .i64 a1, .int .i64 a2, .string a3, .int .i64 a4, .int .i64 a5, .slice B ps.length cc] 28 from by rw [hW1]; exact (ObjAt.new wr _ 28).alloc _)
      have Q1 := Lib.hid (show ObjAt W1 (wr.heap.size + 1) #[.int .i64 a2, .string a3] 125 from by rw [hW1]; have := ObjAt.new (wr.alloc (.cells #[.int .i64 a1, .int .i64 a2, .string a3, .int .i64 a4, .int .i64 a5, .slice B ps.length cc] 28)) #[.int .i64 a2, .string a3] 125; rw [World.size_alloc] at this; exact this)
      subst hW1
      by_cases h1 : a1 < 1
      · have e1 : decide (a1 < 1) = true := decide_eq_true h1
        have HE := Lib.hid (HY.out 18 (by unfold fldX; simp [h1]) (by omega))
        clear HY HX
        go_wp2
        go_ret
        exact ⟨by rw [HE.out]; rfl, K1.out⟩
      have e1 : decide (a1 < 1) = false := decide_eq_false h1
      by_cases h2 : 1073741824 < a1
      · have e2 : decide (1073741824 < a1) = true := decide_eq_true h2
        have HE := Lib.hid (HY.out 18 (by unfold fldX; simp [h2]) (by omega))
        clear HY HX
        go_wp2
        go_ret
        exact ⟨by rw [HE.out]; rfl, K1.out⟩
      have e2 : decide (1073741824 < a1) = false := decide_eq_false h2
      by_cases h3 : a1 = la
      · have e3 : (a1 == la) = true := by simpa using h3
        have HE := Lib.hid (HY.out 7 (by unfold fldX; dsimp only; rw [if_neg (by omega), if_pos h3]) (by omega))
        clear HY HX h3
        go_wp2
        go_ret
        exact ⟨by rw [HE.out]; rfl, K1.out⟩
      have e3 : (a1 == la) = false := by simpa using h3
      by_cases h4 : a1 < la
      · have e4 : decide (a1 < la) = true := decide_eq_true h4
        have HE := Lib.hid (HY.out 6 (by unfold fldX; dsimp only; rw [if_neg (by omega), if_neg h3, if_pos h4]) (by omega))
        clear HY HX
        go_wp2
        go_ret
        exact ⟨by rw [HE.out]; rfl, K1.out⟩
      have e4 : decide (a1 < la) = false := decide_eq_false h4
      by_cases h5 : a2 ≠ 1 ∧ a2 ≠ 2
      · have e5 : (a2 != 1) = true := by simpa using h5.1
        have e6 : (a2 != 2) = true := by simpa using h5.2
        have HE := Lib.hid (HY.out 3 (by unfold fldX; dsimp only; rw [if_neg (by omega), if_neg h3, if_neg h4, if_pos h5]) (by omega))
        clear HY HX
        go_wp2
        go_ret
        exact ⟨by rw [HE.out]; rfl, K1.out⟩
      have H5 := Lib.hid (show fldX ⟨a1, a2, a3, a4, a5, ps⟩ la sn = (if nmB a3 = false then 13 else if sn = true then 7 else ckP a2 ps) from by unfold fldX; dsimp only; rw [if_neg (by omega), if_neg h3, if_neg h4, if_neg h5])
      rcases Classical.em (a2 = 1) with rfl | hk1
      · have e5 : ((1 : Int) != 1) = false := rfl
        clear h5
        cases hnm : nmB a3 with
        | false =>
          have cN := fun w' => isname_any a3 hna w'
          simp only [hnm] at cN
          have HE := Lib.hid (HY.out 13 (by rw [H5.out, if_pos hnm]) (by omega))
          clear HY HX
          go_wp2_with fail
          (with_reducible refine (cN _).mono ?_)
          rintro e w7 ⟨rfl, rfl⟩
          go_wp2
          go_ret
          exact ⟨by rw [HE.out]; rfl, K1.out⟩
        | true =>
          have cN := fun w' => isname_any a3 hna w'
          simp only [hnm] at cN
          cases hsn : sn with
          | true =>
            have hlk := tt_look T1.out HIk.out HMX.out
            rw [HSN.out, hsn] at hlk
            have HE := Lib.hid (HY.out 7 (by rw [H5.out, hnm, if_neg (by simp), if_pos hsn]) (by omega))
            clear HY HX
            go_wp2_with fail
            (with_reducible refine (cN _).mono ?_)
            rintro e w7 ⟨rfl, rfl⟩
            go_wp2
            go_ret
            exact ⟨by rw [HE.out]; rfl, K1.out⟩
          | false =>
            have hlk := tt_look T1.out HIk.out HMX.out
            rw [HSN.out, hsn] at hlk
            have cC := CC.out _ K1.out
            have H6 := Lib.hid (show fldX ⟨a1, 1, a3, a4, a5, ps⟩ la sn = ckP 1 ps from by rw [H5.out, hnm, hsn]; rfl)
            go_wp2_with fail
            (with_reducible refine (cN _).mono ?_)
            rintro e w7 ⟨rfl, rfl⟩
            clear cN
            go_wp2_with fail
            (with_reducible refine cC.mono ?_)
            rintro e w8 ⟨rfl, k8⟩
            have hs1 := K1.out.size
            have K8 := Lib.hid (K1.out.trans (k8.mono hs1))
            have T8 := T1.out.below T1.out.lt k8
            have O8 := O1.out.below k8
            have Q8 := Q1.out.below k8
            have hw8 := K8.out.size
            clear cC k8 hlk z0 z1 z2 z3 z4 z5
            by_cases hc : ckP 1 ps = 0
            · have e8 : (ckP 1 ps != 0) = false := by simpa using hc
              obtain ⟨w9, hrun, T9, hg9⟩ := tt_put T8 (by unfold maxLen; omega) HIk.out HMX.out
              have q0 := Q8.a0
              have q1 := Q8.a1
              have y0 := (O8.kept hg9 (by simp; omega)).s0
              have K9 := Lib.hid (K8.out.grown hg9 hw8 (fun j e => by cases e; omega))
              have HN := Lib.hid (HX.out (by rw [H6.out, hc]))
              have T9' := Lib.hid (T9.congr (fun kd s => (HST.out kd s).symm))
              clear HY HX T8 O8 Q8 T9 hg9 hc
              go_wp2
              go_roundw
              case rel => exact ⟨k + 1, by omega, by go_num, by rw [HLS.out], HN, K9, T9'⟩
              case measure => simp [intOf]; omega
            · have e8 : (ckP 1 ps != 0) = true := by simpa using hc
              have HE := Lib.hid (HY.out (ckP 1 ps) H6.out hc)
              clear HY HX hc T8 O8 Q8
              go_wp2
              go_ret
              exact ⟨by rw [HE.out]; rfl, K8.out⟩
      · have e5 : (a2 != 1) = true := by simpa using hk1
        obtain rfl : a2 = 2 := by omega
        have e6 : ((2 : Int) != 2) = false := rfl
        clear h5
        cases hnm : nmB a3 with
        | false =>
          have cN := fun w' => isname_any a3 hna w'
          simp only [hnm] at cN
          have HE := Lib.hid (HY.out 13 (by rw [H5.out, if_pos hnm]) (by omega))
          clear HY HX
          go_wp2_with fail
          (with_reducible refine (cN _).mono ?_)
          rintro e w7 ⟨rfl, rfl⟩
          go_wp2
          go_ret
          exact ⟨by rw [HE.out]; rfl, K1.out⟩
        | true =>
          have cN := fun w' => isname_any a3 hna w'
          simp only [hnm] at cN
          cases hsn : sn with
          | true =>
            have hlk := tt_look T1.out HIk.out HMX.out
            rw [HSN.out, hsn] at hlk
            have HE := Lib.hid (HY.out 7 (by rw [H5.out, hnm, if_neg (by simp), if_pos hsn]) (by omega))
            clear HY HX
            go_wp2_with fail
            (with_reducible refine (cN _).mono ?_)
            rintro e w7 ⟨rfl, rfl⟩
            go_wp2
            go_ret
            exact ⟨by rw [HE.out]; rfl, K1.out⟩
          | false =>
            have hlk := tt_look T1.out HIk.out HMX.out
            rw [HSN.out, hsn] at hlk
            have cC := CC.out _ K1.out
            have H6 := Lib.hid (show fldX ⟨a1, 2, a3, a4, a5, ps⟩ la sn = ckP 2 ps from by rw [H5.out, hnm, hsn]; rfl)
            go_wp2_with fail
            (with_reducible refine (cN _).mono ?_)
            rintro e w7 ⟨rfl, rfl⟩
            clear cN
            go_wp2_with fail
            (with_reducible refine cC.mono ?_)
            rintro e w8 ⟨rfl, k8⟩
            have hs1 := K1.out.size
            have K8 := Lib.hid (K1.out.trans (k8.mono hs1))
            have T8 := T1.out.below T1.out.lt k8
            have O8 := O1.out.below k8
            have Q8 := Q1.out.below k8
            have hw8 := K8.out.size
            clear cC k8 hlk z0 z1 z2 z3 z4 z5
            by_cases hc : ckP 2 ps = 0
            · have e8 : (ckP 2 ps != 0) = false := by simpa using hc
              obtain ⟨w9, hrun, T9, hg9⟩ := tt_put T8 (by unfold maxLen; omega) HIk.out HMX.out
              have q0 := Q8.a0
              have q1 := Q8.a1
              have y0 := (O8.kept hg9 (by simp; omega)).s0
              have K9 := Lib.hid (K8.out.grown hg9 hw8 (fun j e => by cases e; omega))
              have HN := Lib.hid (HX.out (by rw [H6.out, hc]))
              have T9' := Lib.hid (T9.congr (fun kd s => (HST.out kd s).symm))
              clear HY HX T8 O8 Q8 T9 hg9 hc
              go_wp2
              go_roundw
              case rel => exact ⟨k + 1, by omega, by go_num, by rw [HLS.out], HN, K9, T9'⟩
              case measure => simp [intOf]; omega
            · have e8 : (ckP 2 ps != 0) = true := by simpa using hc
              have HE := Lib.hid (HY.out (ckP 2 ps) H6.out hc)
              clear HY HX hc T8 O8 Q8
              go_wp2
              go_ret
              exact ⟨by rw [HE.out]; rfl, K8.out⟩
    · obtain rfl : k = m := by omega
      have HE := Lib.hid (show fldP l = 0 from by unfold fldP; exact chk_none (fldK l) l.length (fun j hj => HM.out j (by rw [← HH.out.len]; exact hj)))
      go_wp2
      go_ret
      exact ⟨by rw [HE.out]; rfl, HB.out⟩
end Go.Proofs.Ytbkpokipibgdfaa

/- Layer 8: effective (52). -/
namespace Go.Proofs.Ytbkpokipibgdfaa
open Go.RowKit Go.Shelf Go.Lib Go.Maps
set_option linter.unusedVariables false
attribute [local go_sem] Oper.semAt_some

def mergeL (a b : List Pr) : List Pr := (pairs a b).map mrg
/-- The effective properties behind what has come. -/
def effP (l : List St) (pre : List Nat) : List Pr := pre.foldl (fun acc k => mergeL (l.getD k default).props acc) []
theorem effP_snoc (l : List St) (pre : List Nat) (k : Nat) : effP l (pre ++ [k]) = mergeL (l.getD k default).props (effP l pre) := by unfold effP; rw [List.foldl_append]; rfl
theorem own_set {w : World} {base e size n : Nat} {v : Value} {xs : List Value} (h : w.ownsRow base e size v n xs) {C : Nat} (hC : C < base) (u : Value) : (w.setCell ⟨C, 0, none⟩ u).ownsRow base e size v n xs := by
  refine h.kept (grownBy_setCell' w C u) ?_
  rcases h.2 with ⟨rfl, _⟩ | ⟨g, cap, cur, rfl, hb, _⟩
  · exact .inl rfl
  · exact .inr (by simp [Value.ownBlock]; omega)
/-- What effective hands back. -/
def EffRet (o : List Pr) (w : World) (e : Ending) (w' : World) : Prop := ∃ v, e = .returned v ∧ w'.ownsRow w.heap.size 55 2 v o.length (rowP o) ∧ Below w.heap.size w w'
/-- How long the lists are at most. -/
def Bnd (l : List St) (o : Option Nat) (N : Nat) : Prop := ∀ pre, ChP l o pre → (effP l pre).length ≤ 1000 ∧ pre.length < N
def PrsOk (l : List St) : Prop := ∀ x ∈ l, x.props.length ≤ 1000
set_option maxRecDepth 100000 in
set_option maxHeartbeats 8000000 in
theorem effective_in (l : List St) (hok : LsOk l) (hps : PrsOk l) (A : Option Addr) (m d b N : Nat) (i : Int) (hi : I64 i) (hbd : Bnd l (plc l i) N) (w : World) (h : ShAt w A m d b l) :
    CallsIn Fence.wide 7 Try.prog 52 #[.agg #[.slice A m d, .map (some b)], .int .i64 i] w fun e w' => ∃ xs, ChP l (plc l i) xs ∧ nxt l (plc l i) xs = none ∧ EffRet (effP l xs) w e w' := by
  have HH := Go.Lib.hid h
  have HPS := Go.Lib.hid hps
  have HBD := Go.Lib.hid hbd
  have hsm := h.small
  have cF := fun i w' => chainF_any A m d b i w'
  refine callsIn_of_wp_marks Try.func52 rfl trivial ?_ rfl
  simp only [Try.ntmps52, List.size_toArray, List.length_cons, List.length_nil, Nat.reduceAdd, Nat.reduceSub, Array.replicate_succ, Array.replicate_zero, List.push_toArray, List.append_toArray, List.nil_append, List.cons_append]
  gi_wp2_with (refine ⟨trivial, ?_⟩; gi_at_call 51; refine (callsIn_wide.2 (cF _ _)).mono ?_; rintro e w2 ⟨rfl, rfl⟩)
  have hB0 : Below w.heap.size w ((((w.alloc (.cells #[.slice A m d, .map (some b)] 73)).alloc (.cells #[.slice none 0 0] 26)).alloc (.cells #[.slice A m d, .map (some b)] 73)).alloc (.cells #[.int .i64 i] 3)) := ((((Below.refl _ w).alloc (Nat.le_refl _) _).alloc (by simp) _).alloc (by simp; omega) _).alloc (by simp; omega) _
  have bS := (((ObjAt.new w #[.slice A m d, .map (some b)] 73).alloc (.cells #[.slice none 0 0] 26)).alloc (.cells #[.slice A m d, .map (some b)] 73)).alloc (.cells #[.int .i64 i] 3)
  have bN := ((Boxed.new (w.alloc (.cells #[.slice A m d, .map (some b)] 73)) 26 (.slice none 0 0)).alloc (.cells #[.slice A m d, .map (some b)] 73)).alloc (.cells #[.int .i64 i] 3)
  rw [World.size_alloc] at bN
  have bC := (ObjAt.new ((w.alloc (.cells #[.slice A m d, .map (some b)] 73)).alloc (.cells #[.slice none 0 0] 26)) #[.slice A m d, .map (some b)] 73).alloc (.cells #[.int .i64 i] 3)
  rw [World.size_alloc, World.size_alloc] at bC
  have bI := Boxed.new (((w.alloc (.cells #[.slice A m d, .map (some b)] 73)).alloc (.cells #[.slice none 0 0] 26)).alloc (.cells #[.slice A m d, .map (some b)] 73)) 3 (.int .i64 i)
  rw [World.size_alloc, World.size_alloc, World.size_alloc] at bI
  refine rangeH1 (T := TZ) (Bs := w.heap.size + 1 + 1) (G := fun pre W => pre.length < N ∧ Below w.heap.size w W) rfl (by decide) (gf := 69) (lb := #[.pointer (some ⟨w.heap.size + 1 + 1, 0, none⟩), .pointer (some ⟨w.heap.size + 1 + 1 + 1, 0, none⟩)]) rfl trivial (enters_of Try.func69 (by kernel_rfl) rfl)
    (by simp) (chain_any 6 (by decide) (w.heap.size + 1 + 1) (w.heap.size + 1 + 1 + 1) A m d b N l i hi hok w.heap.size w _ rfl h bC bI)
    (fun (pre : List Nat) W => ((∃ v, Boxed W (w.heap.size + 1) 26 v ∧ W.ownsRow w.heap.size 55 2 v (effP l pre).length (rowP (effP l pre)) ∧ True) ∧ ObjAt W w.heap.size #[.slice A m d, .map (some b)] 73 ∧ ChP l (plc l i) pre) ∧ Below w.heap.size w W) (fun _ _ _ => False) (fun _ _ h => ⟨(HBD.out _ h.1.2.2).2, h.2⟩)
    (OwnT.and (OwnT.and (OwnT.row rfl rfl 2 (fun (pre : List Nat) => (effP l pre).length) (fun (pre : List Nat) => rowP (effP l pre)) (fun _ _ => True)) (OwnT.and (OwnT.obj rfl (fun _ => _)) OwnT.pure)) (OwnT.below (Nat.le_refl _) (by simp; omega))) (fun _ _ _ _ _ hs _ _ => hs)
    ⟨⟨⟨_, bN, World.ownsRow_nil _ _ _ _, trivial⟩, bS, ChP.nil _ _⟩, hB0⟩ ?round ?done ?stop
  case round =>
    clear bN bS bC bI hB0 cF
    rintro L pre k W ⟨⟨⟨v, hv, hrow, _⟩, hsh, hch⟩, hB⟩ hlt hsp hl hlW
    have hW1 := hB.size
    simp only [World.size_alloc] at hl
    have hBs : w.heap.size + 1 + 1 < W.heap.size := by omega
    gi_wp2
    refine ⟨KeepsFrom.refl _ _, Kpt.refl _, ⟨⟨⟨v, hv, hrow, trivial⟩, hsh, hch⟩, hB⟩, ?_⟩
    rintro V hg ⟨⟨⟨u, hu, hro, _⟩, hsV, _⟩, hBV⟩
    have hVs := hg.size
    have hkl := nxt_lt (hsp pre k [] rfl)
    obtain ⟨g, oo, rfl, hgg, hcl⟩ := HH.out.list.pos (by omega)
    obtain ⟨B, c, _, _, _, _, _, h5, hc1, hc2, hpr⟩ := hcl k hkl
    have z5 := (hBV.cell (p := ⟨g, oo + k * 6 + 5, none⟩) hgg).trans h5
    have f1 : (k : Int) < (m : Int) := by have := HH.out.len; omega
    have f0 : (0 : Int) ≤ (k : Int) := by omega
    have hc := hu.cell
    have a0 := hsV.a0
    have a1 := hsV.a1
    have hpl := HPS.out l[k] (List.getElem_mem hkl)
    have HEF := Go.Lib.hid (show effP l (pre ++ [k]) = mergeL l[k].props (effP l pre) from by rw [effP_snoc, List.getD_eq_getElem?_getD, List.getElem?_eq_getElem hkl]; rfl)
    have hel := (HBD.out _ hch).1
    obtain ⟨B2, c2, rfl⟩ := own_form hro
    have HRO := Go.Lib.hid hro
    have hpv := PVal.own hro rfl
    obtain ⟨A3, c3, he3, hc3, hc4, hpr2⟩ := hpv
    injection he3 with q1 q2 q3
    subst q1 q3
    have cM := merge_any B B2 c c2 l[k].props (effP l pre) hpl hel ⟨hc1, hc2⟩ ⟨hc3, hc4⟩ V.drew (hpr.below (bdrew1 hBV) (Nat.le_refl _)) (hpr2.below (bdrew1 (Below.refl _ V)) (Nat.le_refl _))
    clear hv hrow hB hg h5 hcl hpr hpr2
    have U0 : Boxed V.drew (w.heap.size + 1) 26 _ := hu
    gi_wp2
    gi_region_with (refine ⟨trivial, ?_⟩; gi_at_call 56; (with_reducible refine (CallsIn.inRound _ (callsIn_wide.2 cM)).mono ?_); rintro e w8 ⟨v8, rfl, hr8, hb8⟩; obtain ⟨B8, c8, rfl⟩ := own_form hr8; have U8 := boxed_below U0 hb8; have y0 := U8.cell; have y1 := U8.frozen)
    all_goals
      have hVd : V.drew.heap.size = V.heap.size := rfl
      have hbV : Below V.heap.size V w8 := (bdrew1 (Below.refl _ V)).trans (hb8.mono (Nat.le_refl _))
      have hw8 := hbV.size
      refine ⟨(KeepsFrom.of_grownBy (grown_below hbV rfl) (fun j e => by cases e)).trans (KeepsFrom.of_grownBy (grownBy_setCell' w8 _ _) (fun j e => by cases e; simp)), (Kpt.of_grownBy (by omega) (grown_below hbV rfl) (fun r e => by cases e)).trans (Kpt.boxed (by omega) U8 (by omega) rfl _), ⟨⟨⟨_, U8.set _, ?_, trivial⟩, (hsV.below hbV).other (by omega) 0 _, hsp⟩, ?_⟩⟩
      · have h9 := own_set (own_lower hr8 (by omega : w.heap.size + 2 ≤ V.drew.heap.size)) (by omega : w.heap.size + 1 < w.heap.size + 2) (Value.slice B8 (pairs l[k].props (effP l pre)).length c8)
        have h10 := own_lower h9 (by omega : w.heap.size ≤ w.heap.size + 2)
        rw [HEF.out]
        unfold mergeL
        rw [List.length_map]
        exact h10
      · exact (hBV.trans (hbV.mono (by omega))).grown (grownBy_setCell' w8 _ _) (by omega) (fun j e => by cases e; omega)
  case done =>
    rintro D xs W hD hxs ⟨⟨⟨v, hv, hrow, _⟩, hsh, hch⟩, hB⟩ hK
    simp only [World.size_alloc] at hD
    have hc := hv.cell
    gi_wp2
    refine ⟨by simp, .inl ⟨_, _, rfl, run_takeDeferred hK, ?_⟩⟩
    refine ⟨v, by simp [results, Try.results52, go_sem], xs, hxs.1, hxs.2, v, rfl, ownsRow_putObj hrow _ hK rfl, hB.trans (belowK_b (w := w) (Nat.le_refl _) W D _ _ (by omega) hK rfl rfl)⟩
  case stop =>
    rintro D c pre W _ _ h _
    exact h.elim
theorem effective_any (l : List St) (hok : LsOk l) (hps : PrsOk l) (A : Option Addr) (m d b N : Nat) (i : Int) (hi : I64 i) (hbd : Bnd l (plc l i) N) (w : World) (h : ShAt w A m d b l) :
    Calls Try.prog 52 #[.agg #[.slice A m d, .map (some b)], .int .i64 i] w fun e w' => ∃ xs, ChP l (plc l i) xs ∧ nxt l (plc l i) xs = none ∧ EffRet (effP l xs) w e w' := callsIn_wide.1 (effective_in l hok hps A m d b N i hi hbd w h)
end Go.Proofs.Ytbkpokipibgdfaa

/- Layer 8: marks of loops that have ended; chains that end, plainly. -/
namespace Go.Proofs.Ytbkpokipibgdfaa
open Go.RowKit Go.Lib Go.Maps
set_option linter.unusedVariables false

/-- The marks of loops that have ended. -/
def mkD (D : Nat) : Deferred := { target := .collected D, args := #[] }
def Marks (lo : Nat) (Ds : List Nat) (W : World) : Prop := Ds.Nodup ∧ ∀ D ∈ Ds, lo ≤ D ∧ W.heap[D]? = some (.deferred (some []))
theorem leaves_marks {F : Fence} {n : Nat} {P : Program} {fn : Func} {tmps : Array Value} {R : Ending → World → Prop} {lo : Nat} (K : World → Prop) (hK : ∀ W D, K W → lo ≤ D → W.heap[D]? = some (.deferred (some [])) → K (W.putObj D (.deferred none)))
    (hR : ∀ W, K W → LeavesIn F n P fn tmps R [] .returning W) : ∀ (Ds : List Nat) (W : World), K W → Marks lo Ds W → LeavesInM F n P fn tmps R (Ds.map mkD) .returning W := by
  intro Ds
  induction Ds with
  | nil => intro W h _; exact hR W h
  | cons D Ds ih =>
    intro W h hM
    obtain ⟨h1, h2⟩ := hM
    obtain ⟨h3, h4⟩ := h2 D (List.mem_cons_self ..)
    refine ⟨by simp, .inl ⟨D, _, rfl, run_takeDeferred h4, ih _ (hK W D h h3 h4) ⟨(List.nodup_cons.1 h1).2, fun D' hD' => ?_⟩⟩⟩
    obtain ⟨h5, h6⟩ := h2 D' (List.mem_cons_of_mem _ hD')
    have hne : D' ≠ D := fun e => (List.nodup_cons.1 h1).1 (e ▸ hD')
    exact ⟨h5, (World.putObj_heap_other hne).trans h6⟩
theorem Marks.lt {lo : Nat} {Ds : List Nat} {W : World} (h : Marks lo Ds W) : ∀ D ∈ Ds, D < W.heap.size := fun D hD => (Array.getElem?_eq_some_iff.1 (h.2 D hD).2).1
theorem Marks.grown {lo : Nat} {Ds : List Nat} {W W' : World} {row : Option Nat} (h : Marks lo Ds W) (hg : W.grownBy W' row) (hr : ∀ D ∈ Ds, some D ≠ row) : Marks lo Ds W' :=
  ⟨h.1, fun D hD => ⟨(h.2 D hD).1, (hg.block D (h.lt D hD) (hr D hD)).trans (h.2 D hD).2⟩⟩
theorem Marks.alloc {lo : Nat} {Ds : List Nat} {W : World} (h : Marks lo Ds W) (o : Obj) : Marks lo Ds (W.alloc o) := h.grown (World.grownBy_alloc W o none) (fun _ _ e => by cases e)
theorem Marks.below {lo : Nat} {Ds : List Nat} {W W' : World} (h : Marks lo Ds W) (hb : Below W.heap.size W W') : Marks lo Ds W' :=
  h.grown (grown_below hb rfl) (fun _ _ e => by cases e)
theorem Marks.snoc {lo D : Nat} {Ds : List Nat} {W : World} (h : Marks lo Ds W) (hD : lo ≤ D) (hK : W.heap[D]? = some (.deferred (some []))) (hn : D ∉ Ds) : Marks lo (D :: Ds) W :=
  ⟨List.nodup_cons.2 ⟨hn, h.1⟩, fun D' hD' => by
    rcases List.mem_cons.1 hD' with rfl | hD'
    · exact ⟨hD, hK⟩
    · exact h.2 D' hD'⟩
theorem own_marks {T : TypeId → Bool} {B : Nat} {β : Type} {lo : Nat} {Ds : List Nat} (h : ∀ D ∈ Ds, D < B) : OwnT T B (fun (_ : β) W => Marks lo Ds W) := by
  rintro s A C row hM hg hr
  exact hM.grown hg (fun D hD e => by have := (hr D e.symm).1; have := h D hD; omega)
theorem below_putM {B : Nat} {w W : World} {D : Nat} (h : Below B w W) (hD : B ≤ D) (o : Obj) : Below B w (W.putObj D o) :=
  ⟨h.os, h.tape, h.output, by have := h.size; simpa [World.putObj] using this, fun k hk => (World.putObj_heap_other (by omega)).trans (h.block k hk)⟩
theorem ownsRow_putM {w : World} {base : Nat} {v : Value} {n : Nat} {xs : List Value} {e : TypeId} {sz : Nat} (h : w.ownsRow base e sz v n xs) {D : Nat} {o o' : Obj} (hD : w.heap[D]? = some o') (ho : o'.isCells = false) : (w.putObj D o).ownsRow base e sz v n xs := by
  refine h.kept (grownBy_putObj' w D o) ?_
  rcases h.2 with ⟨rfl, _⟩ | ⟨g, cap, cur, rfl, _, hg, _⟩
  · exact .inl rfl
  · refine .inr fun e => ?_
    have : g = D := by simpa [Value.ownBlock] using e
    subst this
    rw [hg] at hD; cases hD; cases ho
theorem obj_putM {w : World} {b : Nat} {c : Array Value} {t : TypeId} (h : ObjAt w b c t) {D : Nat} {o o' : Obj} (hD : w.heap[D]? = some o') (ho : o'.isCells = false) : ObjAt (w.putObj D o) b c t := by
  refine h.kept (grownBy_putObj' w D o) fun e => ?_
  have : b = D := by simpa using e
  subst this
  have h' : w.heap[b]? = some (.cells c t (0, 0)) := h
  rw [h'] at hD; cases hD; cases ho
theorem grown_set (W : World) (b i : Nat) (u : Value) : W.grownBy (W.setCell ⟨b, i, none⟩ u) (some b) :=
  ⟨rfl, rfl, rfl, by simp [World.setCell], fun k hk hne => Below.heap_setCell W ⟨b, i, none⟩ u k (by rintro rfl; exact hne rfl)⟩
theorem marks_set {lo b : Nat} {Ds : List Nat} {W : World} (h : Marks lo Ds W) {c : Array Value} {t : TypeId} (ho : ObjAt W b c t) (i : Nat) (u : Value) : Marks lo Ds (W.setCell ⟨b, i, none⟩ u) := by
  refine h.grown (grown_set _ _ _ _) fun D hD e => ?_
  have : D = b := by simpa using e
  subst this
  have h' : W.heap[D]? = some (.cells c t (0, 0)) := ho
  have := (h.2 D hD).2
  rw [h'] at this; cases this

/-- n steps along a chain. -/
def itr (l : List St) : Nat → Option Nat → Option Nat
  | 0, o => o
  | n + 1, o => itr l n (o.bind (stp l))
theorem itr_none (l : List St) (n : Nat) : itr l n none = none := by
  induction n with
  | zero => rfl
  | succ n ih => exact ih
theorem itr_add (l : List St) (a b : Nat) (o : Option Nat) : itr l (a + b) o = itr l b (itr l a o) := by
  induction a generalizing o with
  | zero => rw [Nat.zero_add]; rfl
  | succ a ih => rw [Nat.succ_add]; exact ih _
/-- A chain that ends. -/
def Ends (l : List St) (o : Option Nat) : Prop := ∃ n, itr l n o = none
theorem Ends.none (l : List St) : Ends l none := ⟨0, rfl⟩
theorem Ends.step {l : List St} {k : Nat} : Ends l (some k) ↔ Ends l (stp l k) := by
  constructor
  · rintro ⟨n, h⟩
    cases n with
    | zero => cases h
    | succ n => exact ⟨n, h⟩
  · rintro ⟨n, h⟩
    exact ⟨n + 1, h⟩
theorem ChP.init {l : List St} {o : Option Nat} {pre : List Nat} {k : Nat} (h : ChP l o (pre ++ [k])) : ChP l o pre ∧ nxt l o pre = some k :=
  ⟨fun q x t e => h q x (t ++ [k]) (by rw [e]; simp), h pre k [] rfl⟩
theorem rev_ind {p : List Nat → Prop} (h0 : p []) (h1 : ∀ q k, p q → p (q ++ [k])) (l : List Nat) : p l := by
  have : ∀ n (l : List Nat), l.length = n → p l := by
    intro n
    induction n with
    | zero => intro l hl; rw [List.eq_nil_of_length_eq_zero hl]; exact h0
    | succ n ih =>
      intro l hl
      rcases List.eq_nil_or_concat l with rfl | ⟨q, k, rfl⟩
      · cases hl
      · rw [List.concat_eq_append] at hl ⊢
        rw [List.length_append] at hl
        exact h1 q k (ih q (by simpa using hl))
  exact this _ l rfl
theorem ends_back {l : List St} {o : Option Nat} : ∀ pre, ChP l o pre → Ends l (nxt l o pre) → Ends l o ∧ ∀ x ∈ pre, Ends l (some x) := by
  refine rev_ind (fun _ h => ⟨h, fun x hx => by cases hx⟩) ?_
  intro q k ih hc he
  obtain ⟨h1, h2⟩ := hc.init
  rw [nxt_snoc] at he
  have hk := Ends.step.2 he
  obtain ⟨i1, i2⟩ := ih h1 (by rw [h2]; exact hk)
  refine ⟨i1, fun x hx => ?_⟩
  rcases List.mem_append.1 hx with hx | hx
  · exact i2 x hx
  · rw [List.mem_singleton.1 hx]; exact hk
theorem ends_fore {l : List St} {o : Option Nat} (h : Ends l o) : ∀ pre, ChP l o pre → Ends l (nxt l o pre) := by
  refine rev_ind (fun _ => h) ?_
  intro q k ih hc
  obtain ⟨h1, h2⟩ := hc.init
  rw [nxt_snoc]
  exact Ends.step.1 (by rw [← h2]; exact ih h1)
theorem itr_ch {l : List St} {o : Option Nat} {q : List Nat} {x : Nat} : ∀ t, ChP l o (q ++ x :: t) → itr l (t.length + 1) (some x) = nxt l o (q ++ x :: t) := by
  refine rev_ind (fun _ => (nxt_snoc l o q x).symm) ?_
  intro t y ih hc
  have e : q ++ x :: (t ++ [y]) = (q ++ x :: t) ++ [y] := by simp
  rw [e] at hc ⊢
  obtain ⟨h1, h2⟩ := hc.init
  rw [nxt_snoc, List.length_append, show t.length + [y].length + 1 = (t.length + 1) + 1 from rfl, itr_add, ih h1, h2]
  rfl
theorem not_ends {l : List St} {o : Option Nat} {pre : List Nat} {x : Nat} (hc : ChP l o pre) (hn : nxt l o pre = some x) (hx : x ∈ pre) : ¬ Ends l o := by
  intro he
  obtain ⟨q, t, rfl⟩ := List.append_of_mem hx
  have h1 := itr_ch t hc
  rw [hn] at h1
  have h2 : Ends l (some x) := (ends_back _ hc (ends_fore he _ hc)).2 x hx
  obtain ⟨n, h3⟩ := h2
  have key : ∀ n, itr l n (some x) ≠ none := by
    intro n
    induction n using Nat.strongRecOn with
    | ind n ih =>
      intro h
      by_cases hlt : n < t.length + 1
      · have := itr_add l n (t.length + 1 - n) (some x)
        rw [show n + (t.length + 1 - n) = t.length + 1 by omega, h, itr_none, h1] at this
        cases this
      · have := itr_add l (t.length + 1) (n - (t.length + 1)) (some x)
        rw [show t.length + 1 + (n - (t.length + 1)) = n by omega, h, h1] at this
        exact ih (n - (t.length + 1)) (by omega) this.symm
  exact key n h3
theorem nodup_le : ∀ (m : Nat) (l : List Nat), l.Nodup → (∀ x ∈ l, x < m) → l.length ≤ m := by
  intro m
  induction m with
  | zero =>
    intro l _ h
    cases l with
    | nil => exact Nat.le_refl _
    | cons x l => exact absurd (h x (by simp)) (Nat.not_lt_zero _)
  | succ m ih =>
    intro l hn h
    by_cases hm : m ∈ l
    · have h1 := List.length_erase_of_mem hm
      have h2 := ih (l.erase m) (hn.erase m) (fun x hx => by
        have hx1 := List.mem_of_mem_erase hx
        have hx2 : x ≠ m := fun e => by subst e; exact (List.Nodup.not_mem_erase hn) hx
        have := h x hx1
        omega)
      omega
    · have := ih l hn (fun x hx => by
        have := h x hx
        have hx2 : x ≠ m := fun e => by subst e; exact hm hx
        omega)
      omega
/-- What the walks have found ahead of the i-th. -/
def WInv (l : List St) (i : Nat) (ws : List Nat) : Prop := ws.length = l.length ∧ (∀ j (h : j < ws.length), ws[j] ≤ i ∧ (ws[j] ≠ 0 → Ends l (some j))) ∧ ∀ j (h : j < ws.length), j < i → ws[j] ≠ 0
theorem WInv.start (l : List St) : WInv l 0 (List.replicate l.length 0) := ⟨by simp, fun j h => by simp, fun j _ h => absurd h (Nat.not_lt_zero _)⟩
theorem WInv.all {l : List St} {ws : List Nat} (h : WInv l l.length ws) : ∀ j, j < l.length → Ends l (some j) := fun j hj => (h.2.1 j (by rw [h.1]; exact hj)).2 (h.2.2 j (by rw [h.1]; exact hj) hj)
/-- What one walk has done. -/
structure Inn (l : List St) (i : Nat) (ws pre ws' : List Nat) : Prop where
  len : ws'.length = l.length
  hit : ∀ j (h : j < ws'.length), j ∈ pre → ws'[j] = i + 1
  old : ∀ j (h : j < ws'.length) (h' : j < ws.length), j ∉ pre → ws'[j] = ws[j]
  nod : pre.Nodup
theorem Inn.start {l : List St} {i : Nat} {ws : List Nat} (h : ws.length = l.length) : Inn l i ws [] ws := ⟨h, (fun j _ hj => by cases hj), fun j _ _ _ => rfl, List.nodup_nil⟩
theorem Inn.seen {l : List St} {i : Nat} {ws pre ws' : List Nat} (h : Inn l i ws pre ws') (hw : WInv l i ws) {x : Nat} (hx : x < ws'.length) (e : ws'[x] = i + 1) : x ∈ pre := by
  apply Classical.byContradiction
  intro hn
  have hx' : x < ws.length := by rw [hw.1, ← h.len]; exact hx
  have h1 := h.old x hx hx' hn
  have h2 := (hw.2.1 x hx').1
  omega
theorem Inn.elder {l : List St} {i : Nat} {ws pre ws' : List Nat} (h : Inn l i ws pre ws') (hw : WInv l i ws) {x : Nat} (hx : x < ws'.length) (e : ws'[x] ≠ i + 1) (e0 : ws'[x] ≠ 0) : Ends l (some x) := by
  have hn : x ∉ pre := fun hm => e (h.hit x hx hm)
  have hx' : x < ws.length := by rw [hw.1, ← h.len]; exact hx
  have h1 := h.old x hx hx' hn
  exact (hw.2.1 x hx').2 (by rw [← h1]; exact e0)
theorem Inn.step {l : List St} {i : Nat} {ws pre ws' : List Nat} (h : Inn l i ws pre ws') {x : Nat} (hx : x < ws'.length) (e : ws'[x] = 0) : Inn l i ws (pre ++ [x]) (ws'.set x (i + 1)) := by
  have hn : x ∉ pre := fun hm => by have := h.hit x hx hm; omega
  refine ⟨by rw [List.length_set]; exact h.len, fun j hj hm => ?_, fun j hj hj' hm => ?_, ?_⟩
  · rw [List.length_set] at hj
    rw [List.getElem_set]
    by_cases e1 : x = j
    · rw [if_pos e1]
    · rw [if_neg e1]
      rcases List.mem_append.1 hm with hm | hm
      · exact h.hit j hj hm
      · exact absurd (List.mem_singleton.1 hm).symm e1
  · rw [List.length_set] at hj
    have e1 : x ≠ j := fun e => hm (by rw [e]; simp)
    rw [List.getElem_set, if_neg e1]
    exact h.old j hj hj' (fun hp => hm (List.mem_append_left _ hp))
  · rw [List.nodup_append]
    exact ⟨h.nod, by simp, fun a ha b hb e => by rw [List.mem_singleton] at hb; exact hn (by rw [← hb, ← e]; exact ha)⟩
theorem Inn.done {l : List St} {i : Nat} {ws pre ws' : List Nat} (h : Inn l i ws pre ws') (hw : WInv l i ws) (he : ∀ x ∈ pre, Ends l (some x)) (hi : i ∈ pre ∨ ∀ h : i < ws.length, ws[i] ≠ 0) : WInv l (i + 1) ws' := by
  refine ⟨h.len, fun j hj => ?_, fun j hj hji => ?_⟩
  · have hj' : j < ws.length := by rw [hw.1, ← h.len]; exact hj
    by_cases hm : j ∈ pre
    · rw [h.hit j hj hm]; exact ⟨Nat.le_refl _, fun _ => he j hm⟩
    · rw [h.old j hj hj' hm]
      exact ⟨Nat.le_succ_of_le (hw.2.1 j hj').1, (hw.2.1 j hj').2⟩
  · have hj' : j < ws.length := by rw [hw.1, ← h.len]; exact hj
    by_cases hm : j ∈ pre
    · rw [h.hit j hj hm]; omega
    · rw [h.old j hj hj' hm]
      by_cases e : j = i
      · subst e
        rcases hi with hi | hi
        · exact absurd hi hm
        · exact hi hj'
      · exact hw.2.2 j hj' (by omega)
/-- Do all chains end? -/
noncomputable def endB (l : List St) : Bool := @decide (∀ j, j < l.length → Ends l (some j)) (Classical.propDecidable _)
theorem endB_yes {l : List St} (h : ∀ j, j < l.length → Ends l (some j)) : endB l = true := by unfold endB; exact @decide_eq_true _ (Classical.propDecidable _) h
theorem endB_no {l : List St} {j : Nat} (hj : j < l.length) (h : ¬ Ends l (some j)) : endB l = false := by unfold endB; exact @decide_eq_false _ (Classical.propDecidable _) (fun k => h (k j hj))
end Go.Proofs.Ytbkpokipibgdfaa
