/- Layer 8: the reference's Effective (29). -/
import Derived.Test.YtbkpokipibgdfaaTP
import Derived.Test.YtbkpokipibgdfaaTN
namespace Go.Proofs.Ytbkpokipibgdfaa
open Go.RowKit Go.Lib
set_option linter.unusedVariables false

theorem idsL_get {l : List St} {xs : List Nat} {j : Nat} (h : j < (idsL l xs).length) (h2 : j < xs.length) : (idsL l xs)[j] = (l.getD xs[j] default).id := by simp [idsL]
theorem Good.uni {l : List St} (h : Good l) : Uni l := uni_of (chk_none (fldK l) l.length h.fld)
/-- A list of properties that a call hands back, with its room. -/
def EfR (l : List St) (i : Int) (w : World) (e : Ending) (w' : World) : Prop :=
  (∃ xs B n cb, ChP l (plc l i) xs ∧ nxt l (plc l i) xs = none ∧ (effP l xs).length = n ∧ e = .returned (.slice B n cb) ∧ w'.ownsRow w.heap.size 55 2 (.slice B n cb) n (rowP (effP l xs))) ∧ Below w.heap.size w w'
set_option maxRecDepth 100000 in
set_option maxHeartbeats 8000000 in
theorem reff_zero (l : List St) (hG : Good l) (A : Option Addr) (n c : Nat) (hn : l.length = n) (w : World) :
    Calls Try.prog 29 #[.slice A n c, .int .i64 0] w (EfR l 0 w) := by
  have HG := Go.Lib.hid hG
  have hb := Below.refl w.heap.size w
  have hb2 := hb.alloc (Nat.le_refl _) (.cells #[] 3)
  go_enter Try.func29, Try.ntmps29
  go_wp2
  go_loopw [5, 7] (fun s5 s7 wr => s5 = .slice none 0 0 ∧ s7 = .int .i64 (-1) ∧ Below w.heap.size w wr) (fun _ _ _ => 0)
  case atStart => exact ⟨rfl, rfl, by first | exact hb | exact hb2⟩
  case round =>
    obtain ⟨rfl, rfl, hbw⟩ := hrel
    go_wp2
    go_ret
    exact ⟨⟨[], none, 0, 0, ChP.nil _ _, by rw [nxt_nil]; exact HG.out.zero, rfl, rfl, World.ownsRow_nil _ _ _ _⟩, hbw⟩
set_option maxRecDepth 100000 in
set_option maxHeartbeats 8000000 in
theorem reff_some (l : List St) (hG : Good l) (A : Option Addr) (n c : Nat) (hn : l.length = n) (i : Int) (hi : (plc l i).isSome = true) (w : World) (hA : LsAt w A l) :
    Calls Try.prog 29 #[.slice A n c, .int .i64 i] w (EfR l i w) := by
  have hi0 : i ≠ 0 := by rintro rfl; rw [hG.zero] at hi; cases hi
  have e0 : (i != 0) = true := by simpa using hi0
  have HG := Go.Lib.hid hG
  have HA := Go.Lib.hid hA
  have HN := Go.Lib.hid hn
  have h128 : n ≤ 128 := by rw [← hn]; exact hG.len
  have CC := Go.Lib.hid (fun w' (hb : Below w.heap.size w w') => rchain_g l hG A n c hn i (.inr hi) w' (hA.below hb))
  have CF := Go.Lib.hid (fun i w' (hb : Below w.heap.size w w') => rfind_any l n hn (by omega) A c i w' (hA.below hb))
  have hb := Below.refl w.heap.size w
  have hb2 := hb.alloc (Nat.le_refl _) (.cells #[] 3)
  clear hA hG hn hi hi0
  go_enter Try.func29, Try.ntmps29
  go_wp2_with fail
  (with_reducible refine (CC.out _ (by first | exact hb | exact hb2)).mono ?_)
  rintro e w1 ⟨⟨xs, B1, N1, cb1, hN1, rfl, hc1, hc2, hI1⟩, k1⟩
  have K1 := Go.Lib.hid (show Below w.heap.size w w1 by first | exact k1 | exact hb2.trans (k1.mono (by simp)))
  have s1 := K1.out.size
  have HI1 := Go.Lib.hid hI1
  have HC1 := Go.Lib.hid hc1
  have HC2 := Go.Lib.hid hc2
  have HXN := Go.Lib.hid hN1
  have hN130 : N1 ≤ 1000 := by have := HG.out.bound hc1; have := HG.out.len; omega
  clear k1 hI1 hc1 hc2 hN1 hb hb2
  have bb := Below.refl w1.heap.size w1
  go_wp2_with fail
  go_loopw [5, 7] (fun s5 s7 wr => ∃ (t m cb : Nat) (B : Option Addr), t ≤ N1 ∧ ((t = 0 ∧ s7 = .int .i64 (-1)) ∨ ∃ j : Nat, t = j + 1 ∧ s7 = .int .i64 (j : Nat)) ∧ s5 = .slice B m cb ∧ Hid (wr.ownsRow w1.heap.size 55 2 (.slice B m cb) m (rowP (effR l (xs.drop t)))) ∧ Hid ((effR l (xs.drop t)).length = m) ∧ Hid (Below w1.heap.size w1 wr)) (fun _ s7 _ => (intOf s7 + 1).toNat)
  case atStart =>
    refine ⟨N1, 0, 0, none, Nat.le_refl _, ?_, rfl, Go.Lib.hid ?_, Go.Lib.hid ?_, Go.Lib.hid bb⟩
    · cases N1 with
      | zero => left; exact ⟨rfl, rfl⟩
      | succ j => right; exact ⟨j, rfl, by go_num⟩
    · rw [List.drop_of_length_le (by rw [HXN.out]; exact Nat.le_refl _)]; exact World.ownsRow_nil _ _ _ _
    · rw [List.drop_of_length_le (by rw [HXN.out]; exact Nat.le_refl _)]; rfl
  case round =>
    clear bb
    obtain ⟨t, m, cb, B, ht, hs7, rfl, HOW, HLE, HBW⟩ := hrel
    have hw1s := HBW.out.size
    rcases hs7 with ⟨rfl, rfl⟩ | ⟨j, rfl, rfl⟩
    · have HO := HOW.out
      have HL := HLE.out
      rw [List.drop_zero, eff_eq HG.out.inT] at HO HL
      have HO2 := Go.Lib.hid HO
      have HL2 := Go.Lib.hid HL
      clear HO HL
      go_wp2
      go_ret
      exact ⟨⟨xs, B, m, cb, HC1.out, HC2.out, HL2.out, rfl, own_lower HO2.out s1⟩, K1.out.trans (HBW.out.mono s1)⟩
    · have hjx : j < xs.length := by rw [HXN.out]; omega
      have hjl : j < (idsL l xs).length := by rw [idsL_len]; exact hjx
      have hkl : xs[j] < l.length := HC1.out.lt _ (List.getElem_mem hjx)
      obtain ⟨g1, rfl, hg1, y1⟩ := HI1.out.at hjl
      have hids : (idsL l xs)[j] = l[xs[j]].id := by
        rw [idsL_get hjl hjx, List.getD_eq_getElem?_getD, List.getElem?_eq_getElem hkl]; rfl
      rw [hids] at y1
      have p0 : (0 : Int) ≤ (j : Int) := by omega
      have p1 : (j : Int) < (N1 : Int) := by omega
      replace y1 := (HBW.out.cell (p := ⟨g1, j, none⟩) hg1).trans y1
      have hun := HG.out.uni xs[j] hkl
      have KB := Go.Lib.hid (K1.out.trans (HBW.out.mono s1))
      have cF := CF.out l[xs[j]].id wr KB.out
      rw [fnd_some hun] at cF
      obtain ⟨g, oo, rfl, hg, hcl⟩ := HA.out.pos (by omega)
      obtain ⟨Bp, cc, z0, z1, z2, z3, z4, z5, zc1, zc2, zp⟩ := hcl xs[j] hkl
      have hdr : xs.drop j = xs[j] :: xs.drop (j + 1) := List.drop_eq_getElem_cons hjx
      have HDR := Go.Lib.hid (show effR l (xs.drop j) = rmgT (effR l (xs.drop (j + 1))) l[xs[j]].props tabP by
        rw [hdr, effR_cons]; unfold prsL; rw [List.getD_eq_getElem?_getD, List.getElem?_eq_getElem hkl]; rfl)
      have hkn : xs[j] < n := by rw [← HN.out]; exact hkl
      clear hids hun hcl z0 z1 z2 z3 z4 hdr hjl
      generalize l[xs[j]].id = vid at y1 cF
      generalize l[xs[j]].props = ps at z5 zc1 zp HDR
      generalize xs[j] = k at *
      have f0 : (0 : Int) ≤ (k : Int) := by omega
      have f1 : (k : Int) < (n : Int) := by omega
      obtain ⟨lp, hlp⟩ : ∃ lp, ps.length = lp := ⟨_, rfl⟩
      rw [hlp] at z5 zc1
      have HZ := Go.Lib.hid z5
      have HP := Go.Lib.hid zp
      have HZC := Go.Lib.hid (And.intro zc1 zc2)
      have HLP := Go.Lib.hid hlp
      clear z5 zp zc1 zc2 hlp hkl hjx
      go_wp2_with fail
      (with_reducible refine cF.mono ?_)
      rintro e w4 ⟨rfl, k4⟩
      have K4 := Go.Lib.hid (KB.out.trans (k4.mono KB.out.size))
      have B4 := Go.Lib.hid (HBW.out.trans (k4.mono hw1s))
      have s4 := B4.out.size
      have z5 := (K4.out.cell (p := ⟨g, oo + k * 6 + 5, none⟩) hg).trans HZ.out
      have hown4 := row_below HOW.out k4
      obtain ⟨_, _, he, hx1, hx2, hx3⟩ := PVal.own hown4 HLE.out
      injection he with q1 q2 q3
      subst q1 q3
      have cM := rmergeT_any (effR l (xs.drop (j + 1))) ps m lp HLE.out HLP.out B Bp cb cc ⟨by rw [← HLE.out]; exact hx1, hx2⟩ HZC.out w4 hx3 (HP.out.below K4.out (Nat.le_refl _))
      clear cF k4 y1 hown4 hx1 hx2 hx3 q2
      go_wp2_with fail
      (with_reducible refine cM.mono ?_)
      rintro e w5 ⟨B5, m5, cb5, hl5, rfl, hown5, k5⟩
      have B5' := Go.Lib.hid (B4.out.trans (k5.mono s4))
      have HO5 := Go.Lib.hid (own_lower hown5 s4)
      have HL5 := Go.Lib.hid hl5
      clear cM k5 hown5 hl5
      go_wp2_with fail
      go_roundw
      case rel =>
        refine ⟨j, m5, cb5, B5, by omega, ?_, rfl, Go.Lib.hid (by rw [HDR.out]; exact HO5.out), Go.Lib.hid (by rw [HDR.out]; exact HL5.out), B5'⟩
        cases j with
        | zero => left; exact ⟨rfl, rfl⟩
        | succ q => right; exact ⟨q, rfl, by go_num⟩
      case measure => simp [intOf]
theorem reff_any (l : List St) (hG : Good l) (A : Option Addr) (n c : Nat) (hn : l.length = n) (i : Int) (hi : i = 0 ∨ (plc l i).isSome = true) (w : World) (hA : LsAt w A l) :
    Calls Try.prog 29 #[.slice A n c, .int .i64 i] w (EfR l i w) := by
  rcases hi with rfl | h
  · exact reff_zero l hG A n c hn w
  · exact reff_some l hG A n c hn i h w hA
end Go.Proofs.Ytbkpokipibgdfaa
