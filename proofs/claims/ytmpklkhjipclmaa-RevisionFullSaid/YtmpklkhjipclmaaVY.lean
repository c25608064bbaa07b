/- Layer 22: Add (23). -/
import Derived.Test.YtmpklkhjipclmaaVU
namespace Go.Proofs.Ytmpklkhjipclmaa
open Go.RowKit Go.Lib
set_option linter.unusedVariables false

/-- The error of Add. -/
noncomputable def addE (L : List Rv) (x : Rv) : Int := if chkL vld L ≠ 0 then chkL vld L else if chkR vld x ≠ 0 then chkR vld x else if 0 ≤ fnd x.id L then 7 else if 256 ≤ L.length then 9 else 0
/-- A table that is handed back, of one more. -/
def Tb1 (L : List Rv) (n : Nat) (base : Nat) (W : World) (e : Ending) (w' : World) : Prop := ∃ B cb, e = .returned (.slice B n cb) ∧ (n ≤ cb ∧ cb ≤ maxLen) ∧ RsAt w' B L ∧ Below base W w'
theorem tb1_of {base base' n : Nat} {l : List Rv} {w W : World} {e : Ending} {w' : World} (hl : l.length = n) (h : InsRet base n l w e w') (hb : base' ≤ base) (hw : Below base' W w) : Tb1 l n base' W e w' := by
  obtain ⟨B, cb, rfl, hr, hk⟩ := h
  obtain ⟨A2, c2, e2, h1, h2, h3⟩ := row_rs hr hl
  injection e2 with q1 q2 q3
  subst q1 q3
  exact ⟨B, cb, rfl, ⟨h1, h2⟩, h3, hw.trans (hk.mono hb)⟩
theorem ins_a (W U : World) (n i : Nat) (C : Option Addr) (cb : Nat) (L : List Rv) (hn : L.length = n) (hi : i ≤ n) (h1000 : n ≤ 1000) (xa : Int) (xs : ByteArray) (xt : Int) (hU : Below W.heap.size W U) (hr : U.ownsRow W.heap.size 23 3 (.slice C n cb) n (rowR L)) :
    Calls Try.prog 45 #[.slice C n cb, .int .i64 i, .slice (some ⟨U.heap.size, 0, none⟩) 1 1] (U.alloc (.cells #[.int .i64 xa, .string xs, .int .i64 xt] 23)) (Tb1 (L.take i ++ ⟨xa, xs, xt⟩ :: L.drop i) (n + 1) W.heap.size W) := by
  have hb := hU.alloc hU.size (.cells #[.int .i64 xa, .string xs, .int .i64 xt] 23)
  refine (insert_any (U.alloc (.cells #[.int .i64 xa, .string xs, .int .i64 xt] 23)) W.heap.size n i U.heap.size C cb L xa xs xt hn hi h1000 hb.size (hr.kept (World.grownBy_alloc U (.cells #[.int .i64 xa, .string xs, .int .i64 xt] 23) none) (by cases (Value.slice C n cb).ownBlock <;> simp)) (ObjAt.new U _ 23) ?_).mono fun e w' h => tb1_of (by rw [ins_len L i _ (by omega), hn]) h (Nat.le_refl _) hb
  rintro rfl
  rcases hr.2 with ⟨hv, _⟩ | ⟨g, cap, cur, hv, _, hg, _⟩
  · cases hv
  · injection hv with h1 _ _
    injection h1 with h1
    injection h1 with h1 _ _
    have := (Array.getElem?_eq_some_iff.1 hg).1
    omega
theorem ins_b (W V U : World) (v n i : Nat) (C : Option Addr) (cb : Nat) (L : List Rv) (hn : L.length = n) (hi : i ≤ n) (h1000 : n ≤ 1000) (xa : Int) (xs : ByteArray) (xt : Int) (hV : Below W.heap.size W V) (hO : ObjAt V v #[.int .i64 xa, .string xs, .int .i64 xt] 23) (hU : Below V.heap.size V U) (hr : U.ownsRow V.heap.size 23 3 (.slice C n cb) n (rowR L)) :
    Calls Try.prog 45 #[.slice C n cb, .int .i64 i, .slice (some ⟨v, 0, none⟩) 1 1] U (Tb1 (L.take i ++ ⟨xa, xs, xt⟩ :: L.drop i) (n + 1) W.heap.size W) := by
  refine (insert_any U V.heap.size n i v C cb L xa xs xt hn hi h1000 hU.size hr (hO.below hU) ?_).mono fun e w' h => tb1_of (by rw [ins_len L i _ (by omega), hn]) h hV.size (hV.trans (hU.mono hV.size))
  rintro rfl
  have hlt := hO.lt
  rcases hr.2 with ⟨hv, _⟩ | ⟨g, cap, cur, hv, hg, _, _⟩
  · cases hv
  · injection hv with h1 _ _
    injection h1 with h1
    injection h1 with h1 _ _
    omega
/-- What Add hands back. -/
def AddR (L : List Rv) (x : Rv) (w : World) (e : Ending) (w' : World) : Prop :=
  (∃ r : Int, addE L x = r ∧ r ≠ 0 ∧ e = .returned (.tuple #[.slice none 0 0, .int .i64 r])) ∨
  (addE L x = 0 ∧ ∃ B cb, e = .returned (.tuple #[.slice B (L.length + 1) cb, .int .i64 0]) ∧ (L.length + 1 ≤ cb ∧ cb ≤ maxLen) ∧ RsAt w' B (putR L x))
set_option maxRecDepth 100000 in
set_option maxHeartbeats 16000000 in
theorem add_any (L : List Rv) (n : Nat) (hn : L.length = n) (h1000 : n ≤ 1000) (hz : SzOk L) (x : Rv) (hx : x.author.size ≤ 1000000) (A : Option Addr) (c : Nat) (hc : n ≤ c ∧ c ≤ maxLen) (w : World) (hA : RsAt w A L) :
    Calls Try.prog 23 #[.slice A n c, rvV x] w fun e w' => AddR L x w e w' ∧ Below w.heap.size w w' := by
  obtain ⟨xa, xs, xt⟩ := x
  have b0 := (Below.refl w.heap.size w).alloc (Nat.le_refl _) (.cells #[.int .i64 xa, .string xs, .int .i64 xt] 23)
  have O0 := ObjAt.new w #[.int .i64 xa, .string xs, .int .i64 xt] 23
  have hbx : w.heap.size < (w.alloc (.cells #[.int .i64 xa, .string xs, .int .i64 xt] 23)).heap.size := by simp
  have cC := check_any L n hn h1000 hz A c (w.alloc (.cells #[.int .i64 xa, .string xs, .int .i64 xt] 23)) (hA.below b0)
  have HB := Lib.hid b0
  have s0 := b0.size
  have HO := Lib.hid O0
  have HA := Lib.hid hA
  have HN := Lib.hid hn
  have HC := Lib.hid hc
  dsimp only at hx
  clear b0 O0 hA hn hz hc
  by_cases hcl : chkL vld L = 0
  case neg =>
    have hcl' : (chkL vld L == 0) = false := neB hcl
    have HE := Lib.hid (show addE L ⟨xa, xs, xt⟩ = chkL vld L by unfold addE; rw [if_pos hcl])
    have HNE := Lib.hid hcl
    generalize chkL vld L = r at cC hcl' HE HNE
    clear hcl
    go_enter Try.func23, Try.ntmps23
    go_wp2_with fail
    (with_reducible refine cC.mono ?_)
    rintro e w1 ⟨rfl, k1⟩
    have K := Lib.hid (HB.out.trans (k1.mono s0))
    go_wp2
    go_ret2
    exact ⟨.inl ⟨_, HE.out, HNE.out, rfl⟩, K.out⟩
  rw [hcl] at cC
  have HSO := Lib.hid (chk_sort hcl)
  have HCL := Lib.hid hcl
  have cX := fun U => checkrev_any ⟨xa, xs, xt⟩ hx U
  clear hcl
  by_cases hcr : chkR vld ⟨xa, xs, xt⟩ = 0
  case neg =>
    have hcr' : (chkR vld ⟨xa, xs, xt⟩ == 0) = false := neB hcr
    have HE := Lib.hid (show addE L ⟨xa, xs, xt⟩ = chkR vld ⟨xa, xs, xt⟩ by unfold addE; rw [if_neg (by simp [HCL.out]), if_pos hcr])
    have HNE := Lib.hid hcr
    generalize chkR vld ⟨xa, xs, xt⟩ = r at cX hcr' HE HNE
    have CX := Lib.hid cX
    clear hcr cX
    go_enter Try.func23, Try.ntmps23
    go_wp2_with fail
    (with_reducible refine cC.mono ?_)
    rintro e w1 ⟨rfl, k1⟩
    have K1 := Lib.hid (HB.out.trans (k1.mono s0))
    have O1 := HO.out.below k1
    have x0 := O1.b0
    have x1 := O1.b1
    have x2 := O1.b2
    have cX := CX.out w1
    clear O1 k1 cC
    go_wp2_with fail
    (with_reducible refine cX.mono ?_)
    rintro e w2 ⟨rfl, k2⟩
    have K := Lib.hid (K1.out.trans (k2.mono K1.out.size))
    clear cX k2
    go_wp2
    go_ret2
    exact ⟨.inl ⟨_, HE.out, HNE.out, rfl⟩, K.out⟩
  rw [hcr] at cX
  have CX := Lib.hid cX
  have HCR := Lib.hid hcr
  clear hcr cX
  go_enter Try.func23, Try.ntmps23
  go_wp2_with fail
  (with_reducible refine cC.mono ?_)
  rintro e w1 ⟨rfl, k1⟩
  have K1 := Lib.hid (HB.out.trans (k1.mono s0))
  have O1 := HO.out.below k1
  have x0 := O1.b0
  have x1 := O1.b1
  have x2 := O1.b2
  have cX := CX.out w1
  have HO1 := Lib.hid O1
  clear O1 k1 cC CX
  go_wp2_with fail
  (with_reducible refine cX.mono ?_)
  rintro e w2 ⟨rfl, k2⟩
  have K2 := Lib.hid (K1.out.trans (k2.mono K1.out.size))
  have O2 := HO1.out.below k2
  have y0 := O2.b0
  have HO2 := Lib.hid O2
  have cS := search_any L HSO.out A n c HN.out xa w2 h1000 (HA.out.below K2.out)
  clear cX k2 x0 x1 x2 O2
  go_wp2_with fail
  (with_reducible refine cS.mono ?_)
  rintro e w3 ⟨i, hP, k3, rfl⟩
  have K3 := Lib.hid (K2.out.trans (k3.mono K2.out.size))
  have HO3 := Lib.hid (HO2.out.below k3)
  have HP := Lib.hid hP
  have hil : i ≤ n := by rw [← HN.out]; exact hP.1
  clear cS k3 y0
  rcases part_fnd HSO.out hP with ⟨hex, hf⟩ | ⟨hex, hf⟩
  · rw [decide_eq_true hex]
    have HE := Lib.hid (show addE L ⟨xa, xs, xt⟩ = 7 by unfold addE; rw [if_neg (by simp [HCL.out]), if_neg (by simp [HCR.out]), if_pos (by show 0 ≤ fnd xa L; omega)])
    clear hex hf hP
    go_wp2
    go_ret2
    exact ⟨.inl ⟨_, HE.out, by decide, rfl⟩, K3.out⟩
  rw [decide_eq_false hex]
  by_cases h256 : 256 ≤ n
  · have HE := Lib.hid (show addE L ⟨xa, xs, xt⟩ = 9 by unfold addE; rw [if_neg (by simp [HCL.out]), if_neg (by simp [HCR.out]), if_neg (by show ¬ 0 ≤ fnd xa L; omega), if_pos (by rw [HN.out]; exact h256)])
    have g0 : (256 : Int) ≤ (n : Int) := by omega
    have g1 : ¬ (n : Int) < 256 := by omega
    clear hex hf hP
    go_wp2
    go_ret2
    exact ⟨.inl ⟨_, HE.out, by decide, rfl⟩, K3.out⟩
  have HE := Lib.hid (show addE L ⟨xa, xs, xt⟩ = 0 by unfold addE; rw [if_neg (by simp [HCL.out]), if_neg (by simp [HCR.out]), if_neg (by show ¬ 0 ≤ fnd xa L; omega), if_neg (by rw [HN.out]; omega)])
  have HPUT := Lib.hid (put_at (L := L) (x := ⟨xa, xs, xt⟩) (i := i) (fun k h hk => hP.2.1 k h hk) (fun k h hk => by
    have h1 := hP.2.2 k h hk
    have h2 : L[k].id ≠ xa := fun e => by
      rcases fnd_or xa L with ⟨j, hj, hfj, _, _⟩ | ⟨_, hno⟩
      · omega
      · exact hno k h e
    show xa < L[k].id
    omega))
  have g0 : ¬ (256 : Int) ≤ (n : Int) := by omega
  have g1 : (n : Int) < 256 := by omega
  have D0 : Below w3.heap.size w3 w3.drew := bdrew1 (Below.refl _ _)
  have D1 : Below w3.heap.size w3 (w3.alloc (.cells #[.int .i64 xa, .string xs, .int .i64 xt] 23)).drew := bdrew1 ((Below.refl _ _).alloc (Nat.le_refl _) _)
  have HOB := Lib.hid (ObjAt.below (ObjAt.new w3 #[.int .i64 xa, .string xs, .int .i64 xt] 23) (bdrew1 (Below.refl _ _)))
  have SS := Lib.hid (fun U (hU : Below w3.heap.size w3 U) => (⟨(HO3.out.below hU).b0, (HO3.out.below hU).b1, (HO3.out.below hU).b2⟩ : U.cell? ⟨w.heap.size, 0, none⟩ = some (.int .i64 xa) ∧ U.cell? ⟨w.heap.size, 1, none⟩ = some (.string xs) ∧ U.cell? ⟨w.heap.size, 2, none⟩ = some (.int .i64 xt)))
  have c42 := Lib.hid (fun U (hU : Below w3.heap.size w3 U) => clone_any A n c L HN.out HC.out h1000 U (HA.out.below (K3.out.trans (hU.mono K3.out.size))))
  clear hex hf hP
  go_wp2_with fail
  go_region_held3 (fun U => U.cell? ⟨w.heap.size, 0, none⟩ = some (.int .i64 xa) ∧ U.cell? ⟨w.heap.size, 1, none⟩ = some (.string xs) ∧ U.cell? ⟨w.heap.size, 2, none⟩ = some (.int .i64 xt)) (first
    | exact SS.out _ (by assumption)
    | exact SS.out _ (hU1.alloc hU1.size _)) (first
    | (go_at_call 42; (with_reducible refine (c42.out _ D0).mono ?_); rintro e U1 ⟨C, cb, rfl, hr1, hU0⟩; have hU1 := D0.trans (hU0.mono D0.size); have hr2 := own_lower hr1 D0.size)
    | (go_at_call 42; (with_reducible refine (c42.out _ D1).mono ?_); rintro e U1 ⟨C, cb, rfl, hr1, hU0⟩; have hU1 := D1.trans (hU0.mono D1.size))
    | (go_at_call 45; (with_reducible refine (ins_a w3 U1 n i C cb L HN.out hil h1000 xa xs xt hU1 hr2).mono ?_); rintro e U2 ⟨B2, cb2, rfl, hc2, hR2, hU2⟩)
    | (go_at_call 45; (with_reducible refine (ins_b w3 _ U1 _ n i C cb L HN.out hil h1000 xa xs xt D1 HOB.out hU0 hr1).mono ?_); rintro e U2 ⟨B2, cb2, rfl, hc2, hR2, hU2⟩)
    | fail)
  all_goals
    have KF := Lib.hid (K3.out.trans (hU2.mono K3.out.size))
    have HR := Lib.hid hR2
    have HC2 := Lib.hid hc2
    go_wp2
    go_ret2
    exact ⟨.inr ⟨HE.out, B2, cb2, by rw [HN.out]; rfl, by rw [HN.out]; exact HC2.out, by rw [← HPUT.out]; exact HR.out⟩, KF.out⟩
end Go.Proofs.Ytmpklkhjipclmaa
