/- Layer 8: the reference's Rebase (41), with a base. -/
import Derived.Test.YtbkpokipibgdfaaUN
namespace Go.Proofs.Ytbkpokipibgdfaa
open Go.RowKit Go.Lib Go.Maps
set_option linter.unusedVariables false

attribute [local irreducible] wpQuiet in
set_option maxRecDepth 100000 in
set_option maxHeartbeats 16000000 in
theorem rrb_y (l : List St) (hG : Good l) (A : Option Addr) (n d : Nat) (hn : l.length = n) (i base : Int) (k : Nat) (hp0 : plc l i = some k) (hb0 : base ≠ 0) (hh : hasB l ((l.getD k default).kind) base = true) (w : World) (hA : LsAt w A l) :
    Calls Try.prog 41 #[.slice A n d, .int .i64 i, .int .i64 base] w (RRbR l i base n w) := by
  obtain ⟨i0, hi9, hz0, hz1, hz2⟩ := info_parts info57
  obtain ⟨i1, hj9, hy0, hy1, hy2⟩ := info_parts info28
  obtain ⟨hk, hkid⟩ := plc_lt hp0
  clear hkid
  have hn128 : n ≤ 128 := by rw [← hn]; exact hG.len
  have cF := rfind_any l n hn (by omega) A d i w hA
  rw [fnd_some hp0] at cF
  have HN := Go.Lib.hid hn
  have HG := Go.Lib.hid hG
  have HP := Go.Lib.hid hp0
  have HKL := Go.Lib.hid hk
  have hkn : k < n := by omega
  have CI := Go.Lib.hid (fun w' (hb : Below w.heap.size w w') => reffI_any l hG A n d hn i (.inr (by rw [hp0]; rfl)) w' (hA.below hb))
  have CB := Go.Lib.hid (fun w' (hb : Below w.heap.size w w') (h : base = 0 ∨ (plc l base).isSome = true) => reffI_any l hG A n d hn base h w' (hA.below hb))
  have CH := Go.Lib.hid (fun w' (hb : Below w.heap.size w w') (h : base = 0 ∨ (plc l base).isSome = true) => rchain_any l hG A n d hn base h w' (hA.below hb))
  have CS := Go.Lib.hid (fun kd w' (hb : Below w.heap.size w w') => ris_any l n hn (by omega) A d kd base w' (hA.below hb))
  have HSB := Go.Lib.hid (show base = 0 ∨ (plc l base).isSome = true from .inr (hasB_some' hh))
  have KOK := Go.Lib.hid (show base = 0 ∨ hasB l ((l.getD k default).kind) base = true from .inr hh)
  obtain ⟨ga, oa, L, rfl, hga, hLm, hrow, hpp⟩ := ls_row hA (by intro e; rw [e] at hk; exact absurd hk (Nat.not_lt_zero _))
  have hLl : L.length = n := by rw [← hn, ← hLm, List.length_map]
  have hkL : k < L.length := by omega
  have HKD := Go.Lib.hid (show (l.getD k default).kind = L[k].1.kind by rw [sa_get hLm hkL])
  rw [HKD.out] at hh
  have HH := Go.Lib.hid hh
  have HV1 := Go.Lib.hid (fun w' (hb : Below w.heap.size w w') => show w'.cell? ⟨ga, oa + k * 6 + 1, none⟩ = some (.int .i64 L[k].1.kind) from by
    refine (hb.cell (p := ⟨ga, oa + k * 6 + 1, none⟩) hga).trans ?_
    have := hrow (k * 6 + 1) (.int .i64 L[k].1.kind) (by rw [rowA_get L k hkL 1 (by omega)]; rfl)
    rw [← Nat.add_assoc] at this
    exact this)
  have HROW := Go.Lib.hid hrow
  have HPP := Go.Lib.hid hpp
  have HLM := Go.Lib.hid hLm
  have f0 : (0 : Int) ≤ (k : Int) := by omega
  have f1 : (k : Int) < (n : Int) := by omega
  have e0 : ((k : Int) < 0) = False := by simp
  have nb : (base != 0) = true := by simpa using hb0
  clear hA hn hp0 hG hrow hpp hLm hb0 hh
  generalize hkd : L[k].1.kind = kd at HH HV1
  clear hkd HKD
  clear hk
  go_enter Try.func41, Try.ntmps41
  go_wp2_with fail
  (with_reducible refine cF.mono ?_)
  rintro e w1 ⟨rfl, k1⟩
  have K1 := Go.Lib.hid k1
  have s1 := k1.size
  have v1 := HV1.out _ K1.out
  have cS := CS.out kd w1 K1.out
  rw [HH.out] at cS
  clear cF k1
  go_wp2_with fail
  (with_reducible refine cS.mono ?_)
  rintro e w2 ⟨rfl, k2⟩
  have K2 := Go.Lib.hid (K1.out.trans (k2.mono s1))
  have s2 := K2.out.size
  clear cS k2 v1
  have cH := CH.out w2 K2.out HSB.out
  go_wp2_with fail
  (with_reducible refine cH.mono ?_)
  rintro e wc ⟨xs, v, q1, q2, rfl, hrx, kx⟩
  obtain ⟨Bx, cx, rfl⟩ := own_form hrx
  obtain ⟨y1, y2⟩ := chn_spec HG.out base
  have HXS := Go.Lib.hid (ch_uniq q1 q2 y1 y2)
  have HXL := Go.Lib.hid (show ∀ x ∈ xs, x < l.length from q1.lt)
  have KX := Go.Lib.hid (K2.out.trans (kx.mono s2))
  have sX := KX.out.size
  have HRX := Go.Lib.hid hrx
  have hq128 : xs.length ≤ 128 := by have := HG.out.bound q1; have := HN.out; omega
  obtain ⟨q, hq⟩ : ∃ q, xs.length = q := ⟨_, rfl⟩
  have HQ := Go.Lib.hid hq
  rw [hq] at hq128 ⊢
  clear cH kx hrx q1 q2 y1 y2 hq
  go_wp2_with fail
  go_loopw [10] (fun s10 wr => ∃ j : Nat, j ≤ q ∧ s10 = .int .i64 (j : Nat) ∧ Hid (∀ p, p < j → (idsL l xs)[p]? ≠ some i) ∧ Hid (Below wc.heap.size wc wr)) (fun s10 _ => q - (RowKit.intOf s10).toNat)
  case atStart => exact ⟨0, Nat.zero_le _, rfl, Go.Lib.hid (fun p hp => absurd hp (Nat.not_lt_zero _)), Go.Lib.hid (Below.refl _ _)⟩
  case round =>
    obtain ⟨j, hj, rfl, HJ, HBX⟩ := hrel
    have KW := Go.Lib.hid (KX.out.trans (HBX.out.mono sX))
    have hwX := HBX.out.size
    by_cases hlt : j < q
    · have hil : (idsL l xs).length = q := by unfold idsL; rw [List.length_map]; exact HQ.out
      obtain ⟨gv, cap, he, hg, hc⟩ := own_cells HRX.out (by have := HQ.out; omega)
      injection he with e1 e2 e3
      subst e1
      have z0 := (HBX.out.cell (p := ⟨gv, j, none⟩) hg).trans ((hc j (by have := HQ.out; omega)).trans (show (intsV (idsL l xs))[j]? = some (.int .i64 ((idsL l xs)[j]'(by omega))) by simp [intsV]))
      have HG2 := Go.Lib.hid (show (idsL l xs)[j]? = some ((idsL l xs)[j]'(by omega)) from List.getElem?_eq_getElem _)
      have p0 : (0 : Int) ≤ (j : Int) := by omega
      have p1 : (j : Int) < (q : Int) := by omega
      clear hc e2 e3
      generalize (idsL l xs)[j]'(by omega) = x at z0 HG2
      clear hil
      by_cases hxi : x = i
      · have n1 : (x == i) = true := by simpa using hxi
        have HIN := Go.Lib.hid (show k ∈ chn l base from by
          rw [← HXS.out]
          refine (ids_mem HG.out HP.out HXL.out).1 ?_
          rw [← hxi]
          exact List.mem_of_getElem? HG2.out)
        clear hxi
        go_wp2_with fail
        go_ret2
        exact ⟨.inr ⟨k, HP.out, .inr ⟨KOK.out, .inl ⟨HIN.out, rfl⟩⟩⟩, KW.out⟩
      · have n1 : (x == i) = false := by simpa using hxi
        have HJ2 := Go.Lib.hid (show ∀ p, p < j + 1 → (idsL l xs)[p]? ≠ some i from fun p hp => by
          by_cases e : p = j
          · rw [e, HG2.out]; intro e2; injection e2 with e2; exact hxi e2
          · exact HJ.out p (by omega))
        clear hxi
        go_wp2_with fail
        go_roundw
        case rel => exact ⟨j + 1, by omega, by go_num, HJ2, HBX⟩
        case measure => simp [RowKit.intOf]; omega
    · obtain rfl : j = q := by omega
      have KNO := Go.Lib.hid (show k ∉ chn l base from fun hk => by
        rw [← HXS.out] at hk
        have := (ids_mem HG.out HP.out HXL.out).2 hk
        obtain ⟨p, hp, e⟩ := List.mem_iff_getElem.1 this
        refine HJ.out p ?_ (by rw [List.getElem?_eq_getElem hp, e])
        have hil : (idsL l xs).length = j := by unfold idsL; rw [List.length_map]; exact HQ.out
        omega)
      have K2 := KW
      have s2 := KW.out.size
      clear hlt
      have cI := CI.out wr K2.out
      go_wp2_with fail
      (with_reducible refine cI.mono ?_)
      rintro e w3 ⟨⟨Bi, ni, ci, hli, rfl, hri⟩, k3⟩
      have K3 := Go.Lib.hid (K2.out.trans (k3.mono s2))
      have s3 := K3.out.size
      have cB := CB.out w3 K3.out HSB.out
      have EI := Go.Lib.hid (row_prat hri hli)
      have HLI := Go.Lib.hid hli
      clear cI k3 hri hli
      go_wp2_with fail
      (with_reducible refine cB.mono ?_)
      rintro e w4 ⟨⟨Bb, nb', cb', hlb, rfl, hrb⟩, k4⟩
      have K4 := Go.Lib.hid (K3.out.trans (k4.mono s3))
      have s4 := K4.out.size
      have EB := Go.Lib.hid (row_prat hrb hlb)
      have HLB := Go.Lib.hid hlb
      have EI4 := Go.Lib.hid (EI.out.2.2.below k4 (Nat.le_refl _))
      have cT := refTable_gets w4
      clear cB k4 hrb hlb
      go_wp2_with fail
      (with_reducible refine cT.mono ?_)
      rintro e w5 ⟨g, rfl, hR, k5⟩
      have HR := Go.Lib.hid hR
      have K5 := Go.Lib.hid (K4.out.trans (k5.mono s4))
      have s5 := K5.out.size
      have s45 := k5.size
      have CA := Go.Lib.hid (fun p w' (hb : Below w5.heap.size w5 w') => rget_any Bi ni ci (effI l i) HLI.out ⟨EI.out.1, EI.out.2.1⟩ p w' ((EI4.out.below k5 (Nat.le_refl _)).below hb (Nat.le_refl _)))
      have CC := Go.Lib.hid (fun p w' (hb : Below w5.heap.size w5 w') => rget_any Bb nb' cb' (effI l base) HLB.out ⟨EB.out.1, EB.out.2.1⟩ p w' ((EB.out.2.2.below k5 (Nat.le_refl _)).below hb (Nat.le_refl _)))
      clear hR cT k5 EI EI4 EB
      go_wp2_with fail
      go_loopw [13, 15, 16, 17, 18, 19] (fun s13 s15 s16 s17 s18 s19 wr => ∃ (r : Nat) (B : Option Addr) (m cb : Nat) (u16 u17 u18 u19 : Value), r ≤ 45 ∧ s15 = .int .i64 (r : Nat) ∧ s13 = .slice B m cb ∧ s16 = u16 ∧ s17 = u17 ∧ s18 = u18 ∧ s19 = u19 ∧ m ≤ r ∧ Hid (wr.ownsRow w5.heap.size 55 2 (.slice B m cb) m (rowP (keyT (ovG (effI l base) (effI l i)) (tabP.take r)))) ∧ Hid ((keyT (ovG (effI l base) (effI l i)) (tabP.take r)).length = m) ∧ Hid (Below w5.heap.size w5 wr)) (fun _ s15 _ _ _ _ _ => 45 - (RowKit.intOf s15).toNat)
      case atStart => exact ⟨0, none, 0, 0, _, _, _, _, Nat.zero_le _, rfl, rfl, rfl, rfl, rfl, rfl, Nat.le_refl _, Go.Lib.hid (World.ownsRow_nil _ _ _ _), Go.Lib.hid rfl, Go.Lib.hid (Below.refl _ _)⟩
      case round =>
        obtain ⟨r, B, m, cb, u16, u17, u18, u19, hr, rfl, rfl, rfl, rfl, rfl, rfl, hm, HOW, HLE, HB1⟩ := hrel
        have HBW := Go.Lib.hid (K5.out.trans (HB1.out.mono s5))
        have hws := HBW.out.size
        have hw1s := HB1.out.size
        by_cases hlt : r < 45
        · have hkt : r < tabP.length := hlt
          have c0 := (HR.out.2 r hkt).1
          have c4 := (HR.out.2 r hkt).2.2.2.2.1
          have z0 := (HB1.out.cell (p := ⟨g, r * 6, none⟩) HR.out.1).trans c0
          have z4 := (HB1.out.cell (p := ⟨g, r * 6 + 4, none⟩) HR.out.1).trans c4
          have HRM : keyT (ovG (effI l base) (effI l i)) (tabP.take (r + 1)) = keyT (ovG (effI l base) (effI l i)) (tabP.take r) ++ ((ovG (effI l base) (effI l i) (tabP[r]'hkt).1).map fun v => ((tabP[r]'hkt).1, v)).toList := key_take (ovG (effI l base) (effI l i)) r hkt
          have hdf : (rowZ (tabP[r]'hkt).1).2.2.2.2.2 = (tabP[r]'hkt).2.2.2.2.2 := by rw [rowZ_row (List.getElem_mem hkt)]
          have p0 : (0 : Int) ≤ (r : Int) := by omega
          have p1 : (r : Int) < 45 := by omega
          clear c0 c4
          generalize (tabP[r]'hkt).1 = rk at z0 HRM hdf
          generalize (tabP[r]'hkt).2.2.2.2.2 = df at z4 hdf
          have HDF := Go.Lib.hid hdf
          clear hdf
          clear hkt
          have cA := CA.out rk wr HB1.out
          have cC := CC.out rk wr HB1.out
          rw [look_getB, look_getV] at cA cC
          cases ha : look (effI l i) rk with
          | some v =>
            rw [ha] at cA
            dsimp only [Option.getD_some, Option.isSome_some] at cA
            cases hb : look (effI l base) rk with
            | some u =>
              rw [hb] at cC
              dsimp only [Option.getD_some, Option.isSome_some] at cC
              rw [ov_ss ha hb] at HRM
              by_cases huv : v = u
              · have nv : (v != u) = false := by simpa using huv
                rw [if_neg (by simp [huv])] at HRM
                have HRM := Go.Lib.hid HRM
                have HF := Go.Lib.hid (show keyT (ovG (effI l base) (effI l i)) (tabP.take (r + 1)) = keyT (ovG (effI l base) (effI l i)) (tabP.take r) by rw [HRM.out]; exact List.append_nil _)
                clear ha hb huv
                go_wp2_with fail
                (with_reducible refine cA.mono ?_)
                rintro e wq ⟨rfl, rfl⟩
                go_wp2_with fail
                (with_reducible refine cC.mono ?_)
                rintro e wq ⟨rfl, rfl⟩
                clear cA cC
                go_wp2_with fail
                go_roundw
                case rel => exact ⟨r + 1, B, m, cb, _, _, _, _, by omega, by go_num, rfl, rfl, rfl, rfl, rfl, by omega, Go.Lib.hid (by rw [HF.out]; exact HOW.out), Go.Lib.hid (by rw [HF.out]; exact HLE.out), HB1⟩
                case measure => simp [RowKit.intOf]; omega
              · have nv : (v != u) = true := by simpa using huv
                rw [if_pos huv] at HRM
                have HRM := Go.Lib.hid HRM
                have HF := Go.Lib.hid (show keyT (ovG (effI l base) (effI l i)) (tabP.take (r + 1)) = keyT (ovG (effI l base) (effI l i)) (tabP.take r) ++ [(rk, v)] by rw [HRM.out]; rfl)
                clear ha hb huv
                go_wp2_with fail
                (with_reducible refine cA.mono ?_)
                rintro e wq ⟨rfl, rfl⟩
                go_wp2_with fail
                (with_reducible refine cC.mono ?_)
                rintro e wq ⟨rfl, rfl⟩
                clear cA cC
                go_wp2_with (at_builtin; refine wpList_append_own _ rfl _ _ 26 rfl w5.heap.size 55 i0 (.agg #[.int .i64 0, .int .i64 0]) 2 16 Try.underlying26 hi9 hz0 hz1 hz2 rfl (by decide) _ _ _ rfl (HOW.out.alloc _) ⟨wr.heap.size, 0, none⟩ 1 1 [.int .i64 rk, .int .i64 (v)] rfl rfl (cell_new2 _ _ _ _) (by intro u hu; simp at hu; rcases hu with rfl | rfl <;> rfl) (by unfold maxLen; omega) (by omega) (by simp; omega) ?_; intro v1 w8 hown1 hgrow1 _; obtain ⟨g1, cap1, rfl⟩ := ownsRow_succ hown1)
                go_roundw
                case rel => exact ⟨r + 1, some ⟨g1, 0, none⟩, m + 1, cap1, _, _, _, _, by omega, by go_num, rfl, rfl, rfl, rfl, rfl, by omega, Go.Lib.hid (by rw [HF.out, rowP_snoc]; exact hown1), Go.Lib.hid (by rw [HF.out, List.length_append, HLE.out]; rfl), Go.Lib.hid ((HB1.out.alloc HB1.out.size _).grown hgrow1 (by have := HB1.out.size; simp; omega) (fun j e => (HOW.out.lt j e).1))⟩
                case measure => simp [RowKit.intOf]; omega
            | none =>
              rw [hb] at cC
              dsimp only [Option.getD_none, Option.isSome_none] at cC
              rw [ov_sn ha hb] at HRM
              have HRM := Go.Lib.hid HRM
              have HF := Go.Lib.hid (show keyT (ovG (effI l base) (effI l i)) (tabP.take (r + 1)) = keyT (ovG (effI l base) (effI l i)) (tabP.take r) ++ [(rk, v)] by rw [HRM.out]; rfl)
              clear ha hb
              go_wp2_with fail
              (with_reducible refine cA.mono ?_)
              rintro e wq ⟨rfl, rfl⟩
              go_wp2_with fail
              (with_reducible refine cC.mono ?_)
              rintro e wq ⟨rfl, rfl⟩
              clear cA cC
              go_wp2_with (at_builtin; refine wpList_append_own _ rfl _ _ 26 rfl w5.heap.size 55 i0 (.agg #[.int .i64 0, .int .i64 0]) 2 16 Try.underlying26 hi9 hz0 hz1 hz2 rfl (by decide) _ _ _ rfl (HOW.out.alloc _) ⟨wr.heap.size, 0, none⟩ 1 1 [.int .i64 rk, .int .i64 (v)] rfl rfl (cell_new2 _ _ _ _) (by intro u hu; simp at hu; rcases hu with rfl | rfl <;> rfl) (by unfold maxLen; omega) (by omega) (by simp; omega) ?_; intro v1 w8 hown1 hgrow1 _; obtain ⟨g1, cap1, rfl⟩ := ownsRow_succ hown1)
              go_roundw
              case rel => exact ⟨r + 1, some ⟨g1, 0, none⟩, m + 1, cap1, _, _, _, _, by omega, by go_num, rfl, rfl, rfl, rfl, rfl, by omega, Go.Lib.hid (by rw [HF.out, rowP_snoc]; exact hown1), Go.Lib.hid (by rw [HF.out, List.length_append, HLE.out]; rfl), Go.Lib.hid ((HB1.out.alloc HB1.out.size _).grown hgrow1 (by have := HB1.out.size; simp; omega) (fun j e => (HOW.out.lt j e).1))⟩
              case measure => simp [RowKit.intOf]; omega
          | none =>
            rw [ha] at cA
            dsimp only [Option.getD_none, Option.isSome_none] at cA
            cases hb : look (effI l base) rk with
            | some u =>
              rw [hb] at cC
              dsimp only [Option.getD_some, Option.isSome_some] at cC
              rw [ov_ns ha hb HDF.out] at HRM
              by_cases huv : u = df
              · have nv : (u != df) = false := by simpa using huv
                rw [if_neg (by simp [huv])] at HRM
                have HRM := Go.Lib.hid HRM
                have HF := Go.Lib.hid (show keyT (ovG (effI l base) (effI l i)) (tabP.take (r + 1)) = keyT (ovG (effI l base) (effI l i)) (tabP.take r) by rw [HRM.out]; exact List.append_nil _)
                clear ha hb huv
                go_wp2_with fail
                (with_reducible refine cA.mono ?_)
                rintro e wq ⟨rfl, rfl⟩
                go_wp2_with fail
                (with_reducible refine cC.mono ?_)
                rintro e wq ⟨rfl, rfl⟩
                clear cA cC
                go_wp2_with fail
                go_roundw
                case rel => exact ⟨r + 1, B, m, cb, _, _, _, _, by omega, by go_num, rfl, rfl, rfl, rfl, rfl, by omega, Go.Lib.hid (by rw [HF.out]; exact HOW.out), Go.Lib.hid (by rw [HF.out]; exact HLE.out), HB1⟩
                case measure => simp [RowKit.intOf]; omega
              · have nv : (u != df) = true := by simpa using huv
                rw [if_pos huv] at HRM
                have HRM := Go.Lib.hid HRM
                have HF := Go.Lib.hid (show keyT (ovG (effI l base) (effI l i)) (tabP.take (r + 1)) = keyT (ovG (effI l base) (effI l i)) (tabP.take r) ++ [(rk, df)] by rw [HRM.out]; rfl)
                clear ha hb huv
                go_wp2_with fail
                (with_reducible refine cA.mono ?_)
                rintro e wq ⟨rfl, rfl⟩
                go_wp2_with fail
                (with_reducible refine cC.mono ?_)
                rintro e wq ⟨rfl, rfl⟩
                clear cA cC
                go_upto_region 24 with fail
                have hown := HOW.out
                have hgw5 := HR.out.1
                have ag : Value.ownBlock (.slice B m cb) ≠ some g := fun h => by have := (hown.lt g h).1; omega
                go_region_held3 (fun W => W.cell? ⟨g, r * 6, none⟩ = some (.int .i64 rk) ∧ W.cell? ⟨g, r * 6 + 4, none⟩ = some (.int .i64 df))
                  (first
                    | go_keep
                    | (go_split_ands
                       refine ⟨?_, ?_⟩
                       · (rw [hgrow.cell_far _ (by simp; omega) (Ne.symm ag)]; assumption)
                       · (rw [hgrow.cell_far _ (by simp; omega) (Ne.symm ag)]; assumption)))
                  ((refine step_append_lies _ (by rfl) _ _ _ (by rfl) w5.heap.size 55 i0 (.agg #[.int .i64 0, .int .i64 0]) 2 16 Try.underlying26 hi9 hz0 hz1 hz2 rfl (by omega) _ m (rowP (keyT (ovG (effI l base) (effI l i)) (tabP.take r))) (by rfl) ((hown.alloc _).drew)
                      ⟨wr.heap.size, 0, none⟩ 1 1 [.int .i64 rk, .int .i64 df] (by rfl) (by rfl) (World.news_of_block (cs := #[.int .i64 rk, .int .i64 df]) (t := 55) (fr := (0, 0)) (heap_alloc_new wr _)) (by simp [Value.oneCell'])
                      (by omega) (by unfold maxLen; omega) (by omega) (by simp; omega) (wr.heap.size + 1) (by simp) ?_; intro gg cap' w8 hown1 hgrow hat hlt'))
                all_goals
                  have hown2 := Go.Lib.hid hown1
                  have hgrow2 := Go.Lib.hid hgrow
                  clear hown1 hgrow
                  go_wp2_with fail
                  go_roundw
                  case rel => exact ⟨r + 1, some ⟨gg, 0, none⟩, m + 1, cap', _, _, _, _, by omega, by go_num, rfl, rfl, rfl, rfl, rfl, by omega, Go.Lib.hid (by rw [HF.out, rowP_snoc]; exact hown2.out), Go.Lib.hid (by rw [HF.out, List.length_append, HLE.out]; rfl), Go.Lib.hid ((bdrew1 (HB1.out.alloc HB1.out.size _)).grown hgrow2.out (by have := HB1.out.size; simp; omega) (fun j e => (hown.lt j e).1))⟩
                  case measure => simp [RowKit.intOf]; omega
            | none =>
              rw [hb] at cC
              dsimp only [Option.getD_none, Option.isSome_none] at cC
              rw [ov_nn ha hb] at HRM
              have HRM := Go.Lib.hid HRM
              have HF := Go.Lib.hid (show keyT (ovG (effI l base) (effI l i)) (tabP.take (r + 1)) = keyT (ovG (effI l base) (effI l i)) (tabP.take r) by rw [HRM.out]; exact List.append_nil _)
              clear ha hb
              go_wp2_with fail
              (with_reducible refine cA.mono ?_)
              rintro e wq ⟨rfl, rfl⟩
              go_wp2_with fail
              (with_reducible refine cC.mono ?_)
              rintro e wq ⟨rfl, rfl⟩
              clear cA cC
              go_wp2_with fail
              go_roundw
              case rel => exact ⟨r + 1, B, m, cb, _, _, _, _, by omega, by go_num, rfl, rfl, rfl, rfl, rfl, by omega, Go.Lib.hid (by rw [HF.out]; exact HOW.out), Go.Lib.hid (by rw [HF.out]; exact HLE.out), HB1⟩
              case measure => simp [RowKit.intOf]; omega
        · obtain rfl : r = 45 := by omega
          have eT : tabP.take 45 = tabP := List.take_of_length_le (by decide)
          have HO := Go.Lib.hid (show wr.ownsRow w5.heap.size 55 2 (.slice B m cb) m (rowP (keyT (ovG (effI l base) (effI l i)) tabP)) by have := HOW.out; rw [eT] at this; exact this)
          have HL := Go.Lib.hid (show (keyT (ovG (effI l base) (effI l i)) tabP).length = m by have := HLE.out; rw [eT] at this; exact this)
          clear hlt eT
          have hmB := row_prat HO.out HL.out
          have ow : (wr.alloc (.cells #[] 28)).ownsRow wr.heap.size 28 6 (.slice (some ⟨wr.heap.size, 0, none⟩) 0 0) 0 ([] : List Value) := World.ownsRow_lit wr #[] 0 (Nat.le_refl _) (by decide) rfl
          have hnews : ∀ j u, (rowA L)[j]? = some u → (wr.alloc (.cells #[] 28)).cell? (Addr.add ⟨ga, oa, none⟩ j) = some u := fun j u hj => by
            have h := ((HBW.out.alloc hws (.cells #[] 28)).cell (p := ⟨ga, oa + j, none⟩) hga).trans (HROW.out j u hj)
            have ea : Addr.add ⟨ga, oa, none⟩ j = ⟨ga, oa + j, none⟩ := by simp [Addr.add]
            rw [ea]
            exact h
          have hnl : (rowA L).length = n * 6 := by rw [rowA_len, hLl]
          have b1 : 0 + n ≤ maxLen := by unfold maxLen; omega
          have b2 : (0 + n) * 72 ≤ 140737488355328 := by omega
          have b3 : wr.heap.size ≤ (wr.alloc (.cells #[] 28)).heap.size := by simp
          have h1c := rowA_one L
          go_upto_region 26 with (at_builtin; refine wpList_append_own _ rfl _ _ 22 rfl wr.heap.size 28 i1 _ 6 72 Try.underlying22 hj9 hy0 hy1 hy2 rfl (by decide) _ _ _ rfl ow ⟨ga, oa, none⟩ n d (rowA L) rfl hnl hnews h1c b1 b2 b3 ?_; intro v1 w8 hown1 hgrow1 _; rw [Nat.zero_add] at hown1; obtain ⟨g1, cap1, rfl, hg1, hc1, hc2⟩ := own_pos hown1 (by omega))
          have hOS : OwnS w8 wr.heap.size g1 n cap1 L := ⟨by simpa using hown1, hLl, fun x hx => by
            obtain ⟨q1, q2, q3⟩ := HPP.out x hx
            have hb8 : Below w.heap.size w w8 := (HBW.out.alloc hws _).grown hgrow1 (by simp; omega) (fun j e => by cases e; exact hws)
            refine ⟨q1, q2, q3.below hb8 (Nat.le_refl _), ?_⟩
            rcases q3 with h | ⟨b, o, e, hb, _⟩
            · exact .inl h
            · right
              intro a ha
              rw [e] at ha; cases ha
              show b ≠ g1
              omega⟩
          have HOS := Go.Lib.hid hOS
          have B7 := Go.Lib.hid (show Below wr.heap.size wr w8 from ((Below.refl wr.heap.size wr).alloc (Nat.le_refl _) (.cells #[] 28)).grown hgrow1 (by simp) (fun j e => by cases e; exact Nat.le_refl _))
          have B8 := Go.Lib.hid (HBW.out.trans (B7.out.mono hws))
          have z3 := HOS.out.cell hkL (j := 3) (by omega)
          have t3 := HOS.out.row.frozenAt (k * 6 + 3)
          replace z3 : w8.cell? ⟨g1, k * 6 + 3, none⟩ = some (.int .i64 L[k].1.base) := z3
          have Y3 := Go.Lib.hid (show OwnS (w8.setCell ⟨g1, k * 6 + 3, none⟩ (.int .i64 base)) wr.heap.size g1 n cap1 (L.set k (⟨L[k].1.id, L[k].1.kind, L[k].1.name, base, L[k].1.next, L[k].1.props⟩, L[k].2.1, L[k].2.2)) from by
            have hp := HOS.out.prs _ (List.getElem_mem hkL)
            exact HOS.out.put hkL (j := 3) (by omega) rfl hp)
          have hL1 : k < (L.set k ((⟨L[k].1.id, L[k].1.kind, L[k].1.name, base, L[k].1.next, L[k].1.props⟩ : St), L[k].2.1, L[k].2.2)).length := by rw [List.length_set]; exact hkL
          have x5 : (w8.setCell ⟨g1, k * 6 + 3, none⟩ (.int .i64 base)).cell? ⟨g1, k * 6 + 5, none⟩ = some (.slice L[k].2.1 L[k].1.props.length L[k].2.2) := by
            rw [Y3.out.cell hL1 (j := 5) (by omega), List.getElem_set_self]; rfl
          have u5 := Y3.out.row.frozenAt (k * 6 + 5)
          have BS := Go.Lib.hid (B7.out.setCell (p := ⟨g1, k * 6 + 3, none⟩) hg1 (.int .i64 base))
          have HPO := Go.Lib.hid (hmB.2.2.below BS.out (Nat.le_refl _))
          have HRN := Go.Lib.hid (fun (a : Addr) (ha : B = some a) => show a.block ≠ g1 by
            rcases HO.out.2 with ⟨hv, _⟩ | ⟨g', cap', cur, hv, hb, hgo, _⟩
            · injection hv with e1; rw [e1] at ha; cases ha
            · injection hv with e1
              rw [e1] at ha; cases ha
              have := (Array.getElem?_eq_some_iff.1 hgo).1
              show g' ≠ g1
              omega)
          have Y5 := Go.Lib.hid (show OwnS ((w8.setCell ⟨g1, k * 6 + 3, none⟩ (.int .i64 base)).setCell ⟨g1, k * 6 + 5, none⟩ (.slice B m cb)) wr.heap.size g1 n cap1 (L.set k (⟨L[k].1.id, L[k].1.kind, L[k].1.name, base, L[k].1.next, keyT (ovG (effI l base) (effI l i)) tabP⟩, B, cb)) from by
            have h := Y3.out.put hL1 (j := 5) (y := ((⟨L[k].1.id, L[k].1.kind, L[k].1.name, base, L[k].1.next, keyT (ovG (effI l base) (effI l i)) tabP⟩ : St), B, cb)) (u := .slice B m cb) (by omega) (by rw [List.getElem_set_self]; unfold rowA1; dsimp only; rw [HL.out]; rfl) ⟨by show (keyT (ovG (effI l base) (effI l i)) tabP).length ≤ cb; rw [HL.out]; exact hmB.1, hmB.2.1, HPO.out, .inr HRN.out⟩
            rw [List.set_set] at h
            exact h)
          have BX := Go.Lib.hid ((B8.out.setCell (p := ⟨g1, k * 6 + 3, none⟩) (Nat.le_trans hws hg1) (.int .i64 base)).setCell (p := ⟨g1, k * 6 + 5, none⟩) (Nat.le_trans hws hg1) (.slice B m cb))
          clear hOS hown1 hgrow1 ow hnews hnl b1 b2 b3 h1c hmB
          go_wp2_with fail
          go_ret2
          refine ⟨.inr ⟨k, HP.out, .inr ⟨KOK.out, .inr ⟨KNO.out, some ⟨g1, 0, none⟩, cap1, rfl, hc1, hc2, ?_⟩⟩⟩, BX.out⟩
          have hls := Y5.out.ls
          rw [List.map_set, HLM.out] at hls
          unfold rbL rbF
          rw [sa_get HLM.out hkL]
          exact hls
theorem rrebase_any (l : List St) (hG : Good l) (A : Option Addr) (n d : Nat) (hn : l.length = n) (i base : Int) (w : World) (hA : LsAt w A l) :
    Calls Try.prog 41 #[.slice A n d, .int .i64 i, .int .i64 base] w (RRbR l i base n w) := by
  have hs : n ≤ 1000 := by have := hG.len; omega
  cases hp : plc l i with
  | none => exact (rrb_none l A n d hn hs i base hp w hA).mono fun e w' h => ⟨.inl ⟨hp, h.1⟩, h.2⟩
  | some k =>
    by_cases hb : base = 0
    · exact rrb_z l hG A n d hn i base k hp hb w hA
    cases hh : hasB l ((l.getD k default).kind) base with
    | false => exact (rrb_no l hG A n d hn i base k hp hb hh w hA).mono fun e w' h => ⟨.inr ⟨k, hp, .inl ⟨hb, hh, h.1⟩⟩, h.2⟩
    | true => exact rrb_y l hG A n d hn i base k hp hb hh w hA
end Go.Proofs.Ytbkpokipibgdfaa
