/- Layer 8: the reference's Is (46), Element (67), own (45). -/
import Derived.Test.YtbkpokipibgdfaaTH
import Derived.Test.YtbkpokipibgdfaaNF
import Derived.Test.YtbkpokipibgdfaaNK
namespace Go.Proofs.Ytbkpokipibgdfaa
open Go.RowKit Go.Lib Go.Maps
set_option linter.unusedVariables false

theorem fnd_plc (l : List St) (i : Int) : fnd (isId i) l = match plc l i with
  | some k => (k : Int)
  | none => -1 := rfl
theorem fnd_some {l : List St} {i : Int} {k : Nat} (h : plc l i = some k) : fnd (isId i) l = (k : Int) := by rw [fnd_plc, h]
theorem fnd_none {l : List St} {i : Int} (h : plc l i = none) : fnd (isId i) l = -1 := by rw [fnd_plc, h]
set_option maxRecDepth 100000 in
set_option maxHeartbeats 8000000 in
theorem ris_any (l : List St) (n : Nat) (hn : l.length = n) (h1000 : n ≤ 1000) (A : Option Addr) (c : Nat) (kd i : Int) (w : World) (hA : LsAt w A l) :
    Calls Try.prog 46 #[.slice A n c, .int .i64 kd, .int .i64 i] w fun e w' => e = .returned (.bool (hasB l kd i)) ∧ Below w.heap.size w w' := by
  have cF := rfind_any l n hn h1000 A c i w hA
  cases hp : plc l i with
  | none =>
    rw [fnd_none hp] at cF
    have HE := Go.Lib.hid (hasB_none (kind := kd) hp)
    clear hp hA hn
    go_enter Try.func46, Try.ntmps46
    go_wp2_with fail
    (with_reducible refine cF.mono ?_)
    rintro e w1 ⟨rfl, k1⟩
    clear cF
    go_wp2
    go_ret
    exact ⟨ret_bool' HE.out.symm, k1⟩
  | some k =>
    rw [fnd_some hp] at cF
    obtain ⟨hk, hid⟩ := plc_lt hp
    have HE := Go.Lib.hid (hasB_some (kind := kd) hp hk)
    obtain ⟨g, o, rfl, hg, hcl⟩ := hA.pos (by omega)
    obtain ⟨B, cc, c0, c1, c2, c3, c4, c5, c6, c7, c8⟩ := hcl k hk
    clear c0 c2 c3 c4 c5 c6 c7 c8
    have f0 : (0 : Int) ≤ (k : Int) := by omega
    have f1 : (k : Int) < (n : Int) := by omega
    generalize l[k].kind = kk at c1 HE
    clear hp hA hn hcl hid hk
    go_enter Try.func46, Try.ntmps46
    go_wp2_with fail
    (with_reducible refine cF.mono ?_)
    rintro e w1 ⟨rfl, k1⟩
    have z1 := (k1.cell (p := ⟨g, o + k * 6 + 1, none⟩) hg).trans c1
    clear cF c1
    go_wp2
    go_ret
    exact ⟨ret_bool' HE.out.symm, k1⟩
theorem elem_one (w : World) : Calls Try.prog 67 #[.int .i64 1] w fun e w' => e = .returned (.int .i64 2) ∧ Below w.heap.size w w' := by
  have hb := Below.refl w.heap.size w
  go_enter Try.func67, Try.ntmps67
  go_wp2
  go_ret
  exact ⟨rfl, hb⟩
theorem elem_two (w : World) : Calls Try.prog 67 #[.int .i64 2] w fun e w' => e = .returned (.int .i64 1) ∧ Below w.heap.size w w' := by
  have hb := Below.refl w.heap.size w
  go_enter Try.func67, Try.ntmps67
  go_wp2
  go_ret
  exact ⟨rfl, hb⟩

theorem isNm_iff {k : Int} {s : ByteArray} {x : St} : isNm k s x = true ↔ x.kind = k ∧ x.name = s := by
  unfold isNm
  simp only [Bool.and_eq_true, beq_iff_eq]
  exact ⟨fun h => ⟨h.1, barr_ext h.2⟩, fun h => ⟨h.1, by rw [h.2]⟩⟩
theorem seen_fnd {l : List St} {k : Nat} (hk : k < l.length) : seenT l k l[k].kind l[k].name = decide (fnd (isNm l[k].kind l[k].name) l < (k : Int)) := by
  rcases fnd_or (isNm l[k].kind l[k].name) l with ⟨j, hj, e1, e2, e3⟩ | ⟨e1, e2⟩
  · rw [e1]
    by_cases h : j < k
    · rw [decide_eq_true (by omega)]
      unfold seenT
      rw [List.any_eq_true]
      refine ⟨l[j], ?_, by simpa using isNm_iff.1 e2⟩
      rw [List.mem_iff_getElem]
      exact ⟨j, by rw [List.length_take]; omega, by rw [List.getElem_take]⟩
    · rw [decide_eq_false (by omega)]
      unfold seenT
      rw [List.any_eq_false]
      intro y hy
      obtain ⟨i, hi, rfl⟩ := List.mem_iff_getElem.1 hy
      rw [List.length_take] at hi
      rw [List.getElem_take]
      have := e3 i (by omega) (by omega)
      intro hh
      rw [isNm_iff.2 (by simpa using hh)] at this
      cases this
  · have := e2 k hk
    rw [isNm_iff.2 ⟨rfl, rfl⟩] at this
    cases this
theorem stP_or (l : List Pr) : stP l = (getB l 20 || getB l 1) := by
  unfold stP getB isSt
  induction l with
  | nil => rfl
  | cons x l ih =>
    simp only [List.any_cons, ih]
    cases (x.1 == 20) <;> cases (x.1 == 1) <;> cases (l.any fun y => y.1 == 20) <;> cases (l.any fun y => y.1 == 1) <;> rfl
theorem drewN_fit {w W : World} {p : Nat} {X : Array Value} (nq : Nat) (h : Below w.heap.size w W ∧ ObjAt W p X 28) : Below w.heap.size w (W.drewN nq) ∧ ObjAt (W.drewN nq) p X 28 := ⟨bdrew h.1 nq, h.2.drewN nq⟩

/-- What own says of the rest of a style. -/
noncomputable def fldT (x2 : Int) (x3 : ByteArray) (ps : List Pr) (seen : Bool) : Int := if x2 ≠ 1 ∧ x2 ≠ 2 then 3 else if nmB x3 = false then 13 else if seen = true then 7 else ckP x2 ps
attribute [local irreducible] wpQuiet in
set_option maxRecDepth 100000 in
set_option maxHeartbeats 8000000 in
theorem own_zero (l : List St) (hnm : NmsOk l) (n : Nat) (hn : l.length = n) (h1000 : n ≤ 1000) (A : Option Addr) (c : Nat) (hk : 0 < l.length) (w : World) (hA : LsAt w A l) :
    Calls Try.prog 45 #[.slice A n c, .int .i64 (0)] w fun e w' => e = .returned (.int .i64 (fldK l (0))) ∧ Below w.heap.size w w' := by
  have HN := Go.Lib.hid hn
  have HA := Go.Lib.hid hA
  obtain ⟨g, o, rfl, hg, hcl⟩ := hA.pos (by omega)
  obtain ⟨B, cc, z0, z1, z2, z3, z4, z5, zc1, zc2, zp⟩ := hcl (0) hk
  have HFK := Go.Lib.hid (fldK_at l (0) hk)
  have HF0 := seen_fnd hk
  have hx3 : l[0].name.size ≤ 1000000 := hnm _ (List.getElem_mem hk)
  have HP := Go.Lib.hid zp
  have hcc := And.intro zc1 zc2
  have f0 : (0 : Int) ≤ 0 := by omega
  have f1 : 0 < (n : Int) := by omega
  have HLI := Go.Lib.hid (show lastI l 0 = 0 from rfl)
  simp only [Nat.zero_mul, Nat.add_zero] at z0 z1 z2 z3 z4 z5
  clear hcl zp zc1 zc2 hA hn hnm
  generalize seenT l (0) l[0].kind l[0].name = sn at HFK HF0
  generalize l[0] = x at z0 z1 z2 z3 z4 z5 HFK HF0 hx3 HP hcc
  obtain ⟨x1, x2, x3, x4, x5, ps⟩ := x
  dsimp only at z0 z1 z2 z3 z4 z5 HFK HF0 hx3 HP hcc
  have HF2 := Go.Lib.hid HF0
  clear HF0
  unfold fldX at HFK
  dsimp only at HFK
  have KB := (Below.refl w.heap.size w).alloc (Nat.le_refl _) (.cells #[.int .i64 x1, .int .i64 x2, .string x3, .int .i64 x4, .int .i64 x5, .slice B ps.length cc] 28)
  have OX := ObjAt.new w #[.int .i64 x1, .int .i64 x2, .string x3, .int .i64 x4, .int .i64 x5, .slice B ps.length cc] 28
  have HKB := Go.Lib.hid KB
  have HOX := Go.Lib.hid OX
  clear KB OX
  by_cases a1 : x1 < 1
  · have HE := Go.Lib.hid (HFK.out.trans (if_pos (Or.inl a1)))
    clear hk
    go_enter Try.func45, Try.ntmps45
    go_wp2
    go_ret
    exact ⟨ret_int' HE.out.symm, HKB.out⟩
  by_cases a2 : 1073741824 < x1
  · have HE := Go.Lib.hid (HFK.out.trans (if_pos (Or.inr a2)))
    clear hk
    go_enter Try.func45, Try.ntmps45
    go_wp2
    go_ret
    exact ⟨ret_int' HE.out.symm, HKB.out⟩
  have HE1 := Go.Lib.hid (HFK.out.trans (if_neg (by omega)))
  have HT := Go.Lib.hid (HE1.out.trans ((if_neg (by rw [HLI.out]; omega)).trans (if_neg (by rw [HLI.out]; omega))) : fldK l 0 = fldT x2 x3 ps sn)
  clear hk
  go_enter Try.func45, Try.ntmps45
  go_wp2_with fail
  generalize w.alloc (.cells #[.int .i64 x1, .int .i64 x2, .string x3, .int .i64 x4, .int .i64 x5, .slice B ps.length cc] 28) = W0 at HKB HOX ⊢
  have b0 := HOX.out.s0
  go_quiet (fail)
  have hq := drewN_fit nq ⟨HKB.out, HOX.out⟩
  generalize W0.drewN nq = W1 at hq ⊢
  clear b0
  go_wp2_with fail
  have b0 := hq.2.s0
  go_quiet (fail)
  have hq2 := drewN_fit nq hq
  generalize W1.drewN nq = W at hq2 ⊢
  clear b0 hq
  obtain ⟨KB, OX⟩ := hq2
  have p1 := OX.s1
  have p2 := OX.s2
  have p5 := OX.s5
  have KH := Go.Lib.hid KB
  have s1 := KB.size
  have OH := Go.Lib.hid OX
  have cN := Go.Lib.hid (fun w' (hb : Below w.heap.size w w') => rfindname_any l n HN.out (by omega) (some ⟨g, o, none⟩) c x2 x3 w' (HA.out.below hb))
  clear KB OX
  by_cases h1 : x2 = 1 ∨ x2 = 2
  case neg =>
    have m1 : (x2 != 1) = true := by rw [bne_iff_ne]; omega
    have m2 : (x2 != 2) = true := by rw [bne_iff_ne]; omega
    have HE := Go.Lib.hid (HT.out.trans (show fldT x2 x3 ps sn = 3 by unfold fldT; rw [if_pos (by omega)]))
    clear h1 cN
    go_wp2
    go_ret
    exact ⟨ret_int' HE.out.symm, KH.out⟩
  have hT1 := Go.Lib.hid (show ¬ (x2 ≠ 1 ∧ x2 ≠ 2) by omega)
  have m0 : ((x2 != 1) = false) ∨ ((x2 != 1) = true ∧ (x2 != 2) = false) := by
    rcases h1 with rfl | rfl
    · left; rfl
    · right; exact ⟨rfl, rfl⟩
  have M0 := Go.Lib.hid m0
  have H1 := Go.Lib.hid h1
  clear h1 m0
  have cI := risname_any x3 hx3 W
  cases hnb : nmB x3 with
  | false =>
    have HE := Go.Lib.hid (HT.out.trans (show fldT x2 x3 ps sn = 13 by unfold fldT; rw [if_neg hT1.out, if_pos hnb]))
    rw [hnb] at cI
    clear hnb
    rcases M0.out with m1 | ⟨m1, m2⟩
    all_goals
      go_wp2_with fail
      (with_reducible refine cI.mono ?_)
      rintro e w2 ⟨rfl, rfl⟩
      go_wp2
      go_ret
      exact ⟨ret_int' HE.out.symm, KH.out⟩
  | true =>
    have hT2 := Go.Lib.hid hnb
    rw [hnb] at cI
    clear hnb
    have cn := cN.out W KH.out
    generalize fnd (isNm x2 x3) l = F at cn HF2
    have cg1 := fun w' (hb : Below w.heap.size w w') => rget_any B ps.length cc ps rfl hcc 20 w' (HP.out.below hb (Nat.le_refl _))
    have cg2 := fun w' (hb : Below w.heap.size w w') => rget_any B ps.length cc ps rfl hcc 1 w' (HP.out.below hb (Nat.le_refl _))
    have CG1 := Go.Lib.hid cg1
    have CG2 := Go.Lib.hid cg2
    clear cg1 cg2
    by_cases hlt : F < 0
    · have hlt' : decide (F < 0) = true := decide_eq_true hlt
      have HE := Go.Lib.hid (HT.out.trans (show fldT x2 x3 ps sn = 7 by unfold fldT; rw [if_neg hT1.out, if_neg (by simp [hT2.out]), if_pos (HF2.out.trans (decide_eq_true hlt))]))
      rcases M0.out with m1 | ⟨m1, m2⟩
      all_goals
        go_wp2_with fail
        (with_reducible refine cI.mono ?_)
        rintro e w2 ⟨rfl, rfl⟩
        go_wp2_with fail
        (with_reducible refine cn.mono ?_)
        rintro e w3 ⟨rfl, k3⟩
        have K3 := Go.Lib.hid (KH.out.trans (k3.mono s1))
        clear k3
        go_wp2
        go_ret
        exact ⟨ret_int' HE.out.symm, K3.out⟩
    · have hlt' : decide (F < 0) = false := decide_eq_false hlt
      have HE0 := Go.Lib.hid (HT.out.trans (show fldT x2 x3 ps sn = ckP x2 ps by unfold fldT; rw [if_neg hT1.out, if_neg (by simp [hT2.out]), if_neg (by rw [HF2.out]; exact fun h => hlt (by have := of_decide_eq_true h; omega))]))
      have HSP := Go.Lib.hid (stP_or ps)
      rcases M0.out with m1 | ⟨m1, m2⟩
      all_goals
        go_wp2_with fail
        (with_reducible refine cI.mono ?_)
        rintro e w2 ⟨rfl, rfl⟩
        go_wp2_with fail
        (with_reducible refine cn.mono ?_)
        rintro e w3 ⟨rfl, k3⟩
        have K3 := Go.Lib.hid (KH.out.trans (k3.mono s1))
        have s3 := K3.out.size
        have O3 := Go.Lib.hid (OH.out.below k3)
        clear k3 p1 p2 p5
        have p5 := O3.out.s5
        have p1 := O3.out.s1
        have c1 := CG1.out w3 K3.out
        have c2 := CG2.out w3 K3.out
        generalize getB ps 20 = g20 at c1 HSP
        generalize getB ps 1 = g01 at c2 HSP
        go_wp2_with fail
        (with_reducible refine c1.mono ?_)
        rintro e w4 ⟨rfl, rfl⟩
        go_wp2_with fail
        (with_reducible refine c2.mono ?_)
        rintro e w5 ⟨rfl, rfl⟩
        clear c1 c2 cn cI
        cases hst : (g20 || g01) with
        | true =>
          have HE := Go.Lib.hid (HE0.out.trans (show ckP x2 ps = 4 by unfold ckP; rw [if_pos (HSP.out.trans hst)]))
          have hst' : g20 = true ∨ (g20 = false ∧ g01 = true) := by cases g20 <;> cases g01 <;> simp_all
          clear hst
          rcases hst' with rfl | ⟨rfl, rfl⟩
          all_goals
            go_wp2
            go_ret
            exact ⟨ret_int' HE.out.symm, K3.out⟩
        | false =>
          obtain ⟨rfl, rfl⟩ : g20 = false ∧ g01 = false := by cases g20 <;> cases g01 <;> simp_all
          have HS2 := Go.Lib.hid (HSP.out.trans hst)
          clear hst
          have y1F : ∀ p : Bw w3, p.w.cell? ⟨w.heap.size, 1, none⟩ = some (.int .i64 x2) := fun p => (O3.out.below p.h).s1
          have y5F : ∀ p : Bw w3, p.w.cell? ⟨w.heap.size, 5, none⟩ = some (.slice B ps.length cc) := fun p => (O3.out.below p.h).s5
          have HQ := Go.Lib.hid (fun w' (hb : Below w.heap.size w w') => HP.out.below hb (Nat.le_refl _))
          clear p1 p5
          rcases H1.out with rfl | rfl
          · have HE := Go.Lib.hid (HE0.out.trans (show ckP 1 ps = chkP 2 ps by unfold ckP; rw [if_neg (by rw [HS2.out]; simp), if_neg (by decide)]))
            go_wp2_with fail
            refine wp_region_bw (W := w3) (by kernel_rfl) (by kernel_rfl) (by first | exact Below.refl _ _ | exact (Below.refl _ _).drew) ?_
            repeat (quiet_step (first
              | (go_at_call 67; exact bw_of (fun p => elem_one p.w) _)
              | (go_at_call 57; exact bw_of (fun p => rcheck_in 2 B ps.length cc ps rfl hcc (by omega) p.w (HQ.out p.w (K3.out.trans (p.h.mono s3)))) _)
              | fail))
            refine wpQuiet_nil ?_
            intro w7 hw'
            have kk : Below w3.heap.size w3 w7 := by obtain ⟨p2, rfl⟩ := hw'; exact p2.h
            have K7 := Go.Lib.hid (K3.out.trans (kk.mono s3))
            clear hw' kk y1F y5F
            go_wp2
            go_ret
            exact ⟨ret_int' HE.out.symm, K7.out⟩
          · have HE := Go.Lib.hid (HE0.out.trans (show ckP 2 ps = chkP 1 ps by unfold ckP; rw [if_neg (by rw [HS2.out]; simp), if_pos (by decide)]))
            go_wp2_with fail
            refine wp_region_bw (W := w3) (by kernel_rfl) (by kernel_rfl) (by first | exact Below.refl _ _ | exact (Below.refl _ _).drew) ?_
            repeat (quiet_step (first
              | (go_at_call 67; exact bw_of (fun p => elem_two p.w) _)
              | (go_at_call 57; exact bw_of (fun p => rcheck_in 1 B ps.length cc ps rfl hcc (by omega) p.w (HQ.out p.w (K3.out.trans (p.h.mono s3)))) _)
              | fail))
            refine wpQuiet_nil ?_
            intro w7 hw'
            have kk : Below w3.heap.size w3 w7 := by obtain ⟨p2, rfl⟩ := hw'; exact p2.h
            have K7 := Go.Lib.hid (K3.out.trans (kk.mono s3))
            clear hw' kk y1F y5F
            go_wp2
            go_ret
            exact ⟨ret_int' HE.out.symm, K7.out⟩
attribute [local irreducible] wpQuiet in
set_option maxRecDepth 100000 in
set_option maxHeartbeats 8000000 in
theorem own_succ (l : List St) (hnm : NmsOk l) (n : Nat) (hn : l.length = n) (h1000 : n ≤ 1000) (A : Option Addr) (c : Nat) (j : Nat) (hk : j + 1 < l.length) (w : World) (hA : LsAt w A l) :
    Calls Try.prog 45 #[.slice A n c, .int .i64 ((j : Int) + 1)] w fun e w' => e = .returned (.int .i64 (fldK l (j + 1))) ∧ Below w.heap.size w w' := by
  have HN := Go.Lib.hid hn
  have HA := Go.Lib.hid hA
  obtain ⟨g, o, rfl, hg, hcl⟩ := hA.pos (by omega)
  obtain ⟨B, cc, z0, z1, z2, z3, z4, z5, zc1, zc2, zp⟩ := hcl (j + 1) hk
  have HFK := Go.Lib.hid (fldK_at l (j + 1) hk)
  have HF0 := seen_fnd hk
  have hx3 : l[j + 1].name.size ≤ 1000000 := hnm _ (List.getElem_mem hk)
  have HP := Go.Lib.hid zp
  have hcc := And.intro zc1 zc2
  have f0 : (0 : Int) ≤ (j : Int) + 1 := by omega
  have f1 : (j : Int) + 1 < (n : Int) := by omega
  have hj : j < l.length := by omega
  obtain ⟨_, _, u0, _⟩ := hcl j hj
  have HLI := Go.Lib.hid (lastI_succ l j hj)
  have g1 : (j : Int) < (n : Int) := by omega
  have g0 : (0 : Int) ≤ (j : Int) := by omega
  have g2 : (0 : Int) < (j : Int) + 1 := by omega
  have g3 : IntKind.i64.wrap (j : Int) = j := IntWalk.i64_in _ (by omega)
  generalize l[j].id = y0 at u0 HLI
  clear hcl zp zc1 zc2 hA hn hnm
  generalize seenT l (j + 1) l[j + 1].kind l[j + 1].name = sn at HFK HF0
  generalize l[j + 1] = x at z0 z1 z2 z3 z4 z5 HFK HF0 hx3 HP hcc
  obtain ⟨x1, x2, x3, x4, x5, ps⟩ := x
  dsimp only at z0 z1 z2 z3 z4 z5 HFK HF0 hx3 HP hcc
  have HF2 := Go.Lib.hid HF0
  clear HF0
  unfold fldX at HFK
  dsimp only at HFK
  have KB := (Below.refl w.heap.size w).alloc (Nat.le_refl _) (.cells #[.int .i64 x1, .int .i64 x2, .string x3, .int .i64 x4, .int .i64 x5, .slice B ps.length cc] 28)
  have OX := ObjAt.new w #[.int .i64 x1, .int .i64 x2, .string x3, .int .i64 x4, .int .i64 x5, .slice B ps.length cc] 28
  have HKB := Go.Lib.hid KB
  have HOX := Go.Lib.hid OX
  clear KB OX
  by_cases a1 : x1 < 1
  · have HE := Go.Lib.hid (HFK.out.trans (if_pos (Or.inl a1)))
    clear hk
    go_enter Try.func45, Try.ntmps45
    go_wp2
    go_ret
    exact ⟨ret_int' HE.out.symm, HKB.out⟩
  by_cases a2 : 1073741824 < x1
  · have HE := Go.Lib.hid (HFK.out.trans (if_pos (Or.inr a2)))
    clear hk
    go_enter Try.func45, Try.ntmps45
    go_wp2
    go_ret
    exact ⟨ret_int' HE.out.symm, HKB.out⟩
  have HE1 := Go.Lib.hid (HFK.out.trans (if_neg (by omega)))
  have hgi : g < w.heap.size := hg
  by_cases e7 : x1 = y0
  · have HE := Go.Lib.hid (HE1.out.trans (if_pos (by rw [HLI.out]; exact e7)))
    have e1 : (x1 == y0) = true := by simpa using e7
    clear hk e7
    go_enter Try.func45, Try.ntmps45
    go_wp2_with fail
    generalize w.alloc (.cells #[.int .i64 x1, .int .i64 x2, .string x3, .int .i64 x4, .int .i64 x5, .slice B ps.length cc] 28) = W0 at HKB HOX ⊢
    have b0 := HOX.out.s0
    have ux := (HKB.out.cell (p := ⟨g, o + j * 6, none⟩) hg).trans u0
    go_quiet (fail)
    have hq := drewN_fit nq ⟨HKB.out, HOX.out⟩
    generalize W0.drewN nq = W1 at hq ⊢
    clear b0 ux
    go_wp2
    go_ret
    exact ⟨ret_int' HE.out.symm, hq.1⟩
  have e1 : (x1 == y0) = false := by simpa using e7
  by_cases e6 : x1 < y0
  · have HE := Go.Lib.hid (HE1.out.trans ((if_neg (by rw [HLI.out]; exact e7)).trans (if_pos (by rw [HLI.out]; exact e6))))
    have e2 : decide (x1 < y0) = true := decide_eq_true e6
    clear hk e7
    go_enter Try.func45, Try.ntmps45
    go_wp2_with fail
    generalize w.alloc (.cells #[.int .i64 x1, .int .i64 x2, .string x3, .int .i64 x4, .int .i64 x5, .slice B ps.length cc] 28) = W0 at HKB HOX ⊢
    have b0 := HOX.out.s0
    have ux := (HKB.out.cell (p := ⟨g, o + j * 6, none⟩) hg).trans u0
    go_quiet (fail)
    have hq := drewN_fit nq ⟨HKB.out, HOX.out⟩
    generalize W0.drewN nq = W1 at hq ⊢
    clear b0 ux
    go_wp2_with fail
    have b0 := hq.2.s0
    have ux := (hq.1.cell (p := ⟨g, o + j * 6, none⟩) hg).trans u0
    go_quiet (fail)
    have hq2 := drewN_fit nq hq
    generalize W1.drewN nq = W at hq2 ⊢
    clear b0 ux hq
    go_wp2
    go_ret
    exact ⟨ret_int' HE.out.symm, hq2.1⟩
  have e2 : decide (x1 < y0) = false := decide_eq_false e6
  have HT := Go.Lib.hid (HE1.out.trans ((if_neg (by rw [HLI.out]; exact e7)).trans (if_neg (by rw [HLI.out]; exact e6))) : fldK l (j + 1) = fldT x2 x3 ps sn)
  clear hk e7
  go_enter Try.func45, Try.ntmps45
  go_wp2_with fail
  generalize w.alloc (.cells #[.int .i64 x1, .int .i64 x2, .string x3, .int .i64 x4, .int .i64 x5, .slice B ps.length cc] 28) = W0 at HKB HOX ⊢
  have b0 := HOX.out.s0
  have ux := (HKB.out.cell (p := ⟨g, o + j * 6, none⟩) hg).trans u0
  go_quiet (fail)
  have hq := drewN_fit nq ⟨HKB.out, HOX.out⟩
  generalize W0.drewN nq = W1 at hq ⊢
  clear b0 ux
  go_wp2_with fail
  have b0 := hq.2.s0
  have ux := (hq.1.cell (p := ⟨g, o + j * 6, none⟩) hg).trans u0
  go_quiet (fail)
  have hq2 := drewN_fit nq hq
  generalize W1.drewN nq = W at hq2 ⊢
  clear b0 ux hq
  obtain ⟨KB, OX⟩ := hq2
  have p1 := OX.s1
  have p2 := OX.s2
  have p5 := OX.s5
  have KH := Go.Lib.hid KB
  have s1 := KB.size
  have OH := Go.Lib.hid OX
  have cN := Go.Lib.hid (fun w' (hb : Below w.heap.size w w') => rfindname_any l n HN.out (by omega) (some ⟨g, o, none⟩) c x2 x3 w' (HA.out.below hb))
  clear KB OX
  by_cases h1 : x2 = 1 ∨ x2 = 2
  case neg =>
    have m1 : (x2 != 1) = true := by rw [bne_iff_ne]; omega
    have m2 : (x2 != 2) = true := by rw [bne_iff_ne]; omega
    have HE := Go.Lib.hid (HT.out.trans (show fldT x2 x3 ps sn = 3 by unfold fldT; rw [if_pos (by omega)]))
    clear h1 cN
    go_wp2
    go_ret
    exact ⟨ret_int' HE.out.symm, KH.out⟩
  have hT1 := Go.Lib.hid (show ¬ (x2 ≠ 1 ∧ x2 ≠ 2) by omega)
  have m0 : ((x2 != 1) = false) ∨ ((x2 != 1) = true ∧ (x2 != 2) = false) := by
    rcases h1 with rfl | rfl
    · left; rfl
    · right; exact ⟨rfl, rfl⟩
  have M0 := Go.Lib.hid m0
  have H1 := Go.Lib.hid h1
  clear h1 m0
  have cI := risname_any x3 hx3 W
  cases hnb : nmB x3 with
  | false =>
    have HE := Go.Lib.hid (HT.out.trans (show fldT x2 x3 ps sn = 13 by unfold fldT; rw [if_neg hT1.out, if_pos hnb]))
    rw [hnb] at cI
    clear hnb
    rcases M0.out with m1 | ⟨m1, m2⟩
    all_goals
      go_wp2_with fail
      (with_reducible refine cI.mono ?_)
      rintro e w2 ⟨rfl, rfl⟩
      go_wp2
      go_ret
      exact ⟨ret_int' HE.out.symm, KH.out⟩
  | true =>
    have hT2 := Go.Lib.hid hnb
    rw [hnb] at cI
    clear hnb
    have cn := cN.out W KH.out
    generalize fnd (isNm x2 x3) l = F at cn HF2
    have cg1 := fun w' (hb : Below w.heap.size w w') => rget_any B ps.length cc ps rfl hcc 20 w' (HP.out.below hb (Nat.le_refl _))
    have cg2 := fun w' (hb : Below w.heap.size w w') => rget_any B ps.length cc ps rfl hcc 1 w' (HP.out.below hb (Nat.le_refl _))
    have CG1 := Go.Lib.hid cg1
    have CG2 := Go.Lib.hid cg2
    clear cg1 cg2
    by_cases hlt : F < (j : Int) + 1
    · have hlt' : decide (F < (j : Int) + 1) = true := decide_eq_true hlt
      have HE := Go.Lib.hid (HT.out.trans (show fldT x2 x3 ps sn = 7 by unfold fldT; rw [if_neg hT1.out, if_neg (by simp [hT2.out]), if_pos (HF2.out.trans (decide_eq_true hlt))]))
      rcases M0.out with m1 | ⟨m1, m2⟩
      all_goals
        go_wp2_with fail
        (with_reducible refine cI.mono ?_)
        rintro e w2 ⟨rfl, rfl⟩
        go_wp2_with fail
        (with_reducible refine cn.mono ?_)
        rintro e w3 ⟨rfl, k3⟩
        have K3 := Go.Lib.hid (KH.out.trans (k3.mono s1))
        clear k3
        go_wp2
        go_ret
        exact ⟨ret_int' HE.out.symm, K3.out⟩
    · have hlt' : decide (F < (j : Int) + 1) = false := decide_eq_false hlt
      have HE0 := Go.Lib.hid (HT.out.trans (show fldT x2 x3 ps sn = ckP x2 ps by unfold fldT; rw [if_neg hT1.out, if_neg (by simp [hT2.out]), if_neg (by rw [HF2.out]; exact fun h => hlt (by have := of_decide_eq_true h; omega))]))
      have HSP := Go.Lib.hid (stP_or ps)
      rcases M0.out with m1 | ⟨m1, m2⟩
      all_goals
        go_wp2_with fail
        (with_reducible refine cI.mono ?_)
        rintro e w2 ⟨rfl, rfl⟩
        go_wp2_with fail
        (with_reducible refine cn.mono ?_)
        rintro e w3 ⟨rfl, k3⟩
        have K3 := Go.Lib.hid (KH.out.trans (k3.mono s1))
        have s3 := K3.out.size
        have O3 := Go.Lib.hid (OH.out.below k3)
        clear k3 p1 p2 p5
        have p5 := O3.out.s5
        have p1 := O3.out.s1
        have c1 := CG1.out w3 K3.out
        have c2 := CG2.out w3 K3.out
        generalize getB ps 20 = g20 at c1 HSP
        generalize getB ps 1 = g01 at c2 HSP
        go_wp2_with fail
        (with_reducible refine c1.mono ?_)
        rintro e w4 ⟨rfl, rfl⟩
        go_wp2_with fail
        (with_reducible refine c2.mono ?_)
        rintro e w5 ⟨rfl, rfl⟩
        clear c1 c2 cn cI
        cases hst : (g20 || g01) with
        | true =>
          have HE := Go.Lib.hid (HE0.out.trans (show ckP x2 ps = 4 by unfold ckP; rw [if_pos (HSP.out.trans hst)]))
          have hst' : g20 = true ∨ (g20 = false ∧ g01 = true) := by cases g20 <;> cases g01 <;> simp_all
          clear hst
          rcases hst' with rfl | ⟨rfl, rfl⟩
          all_goals
            go_wp2
            go_ret
            exact ⟨ret_int' HE.out.symm, K3.out⟩
        | false =>
          obtain ⟨rfl, rfl⟩ : g20 = false ∧ g01 = false := by cases g20 <;> cases g01 <;> simp_all
          have HS2 := Go.Lib.hid (HSP.out.trans hst)
          clear hst
          have y1F : ∀ p : Bw w3, p.w.cell? ⟨w.heap.size, 1, none⟩ = some (.int .i64 x2) := fun p => (O3.out.below p.h).s1
          have y5F : ∀ p : Bw w3, p.w.cell? ⟨w.heap.size, 5, none⟩ = some (.slice B ps.length cc) := fun p => (O3.out.below p.h).s5
          have HQ := Go.Lib.hid (fun w' (hb : Below w.heap.size w w') => HP.out.below hb (Nat.le_refl _))
          clear p1 p5
          rcases H1.out with rfl | rfl
          · have HE := Go.Lib.hid (HE0.out.trans (show ckP 1 ps = chkP 2 ps by unfold ckP; rw [if_neg (by rw [HS2.out]; simp), if_neg (by decide)]))
            go_wp2_with fail
            refine wp_region_bw (W := w3) (by kernel_rfl) (by kernel_rfl) (by first | exact Below.refl _ _ | exact (Below.refl _ _).drew) ?_
            repeat (quiet_step (first
              | (go_at_call 67; exact bw_of (fun p => elem_one p.w) _)
              | (go_at_call 57; exact bw_of (fun p => rcheck_in 2 B ps.length cc ps rfl hcc (by omega) p.w (HQ.out p.w (K3.out.trans (p.h.mono s3)))) _)
              | fail))
            refine wpQuiet_nil ?_
            intro w7 hw'
            have kk : Below w3.heap.size w3 w7 := by obtain ⟨p2, rfl⟩ := hw'; exact p2.h
            have K7 := Go.Lib.hid (K3.out.trans (kk.mono s3))
            clear hw' kk y1F y5F
            go_wp2
            go_ret
            exact ⟨ret_int' HE.out.symm, K7.out⟩
          · have HE := Go.Lib.hid (HE0.out.trans (show ckP 2 ps = chkP 1 ps by unfold ckP; rw [if_neg (by rw [HS2.out]; simp), if_pos (by decide)]))
            go_wp2_with fail
            refine wp_region_bw (W := w3) (by kernel_rfl) (by kernel_rfl) (by first | exact Below.refl _ _ | exact (Below.refl _ _).drew) ?_
            repeat (quiet_step (first
              | (go_at_call 67; exact bw_of (fun p => elem_two p.w) _)
              | (go_at_call 57; exact bw_of (fun p => rcheck_in 1 B ps.length cc ps rfl hcc (by omega) p.w (HQ.out p.w (K3.out.trans (p.h.mono s3)))) _)
              | fail))
            refine wpQuiet_nil ?_
            intro w7 hw'
            have kk : Below w3.heap.size w3 w7 := by obtain ⟨p2, rfl⟩ := hw'; exact p2.h
            have K7 := Go.Lib.hid (K3.out.trans (kk.mono s3))
            clear hw' kk y1F y5F
            go_wp2
            go_ret
            exact ⟨ret_int' HE.out.symm, K7.out⟩
end Go.Proofs.Ytbkpokipibgdfaa
