/- Layer 22: the laws of checking (3) and of fresh ids (6). -/
import Derived.Test.YtmpklkhjipclmaaVM
namespace Go.Proofs.Ytmpklkhjipclmaa
open Go.RowKit Go.Lib
set_option linter.unusedVariables false

def TrueW (w : World) (e : Ending) (w' : World) : Prop := e = .returned (.bool true) ∧ Below w.heap.size w w'
theorem cut_sz (l : List Rv) : SzOk (cutL l) := szok (cutL_sz l)
theorem cut_40 (l : List Rv) : (cutL l).length ≤ 40 := by rw [cutL_len]; omega
theorem chk_id {l : List Rv} (h : chkL vld l = 0) : ∀ x ∈ l, 1 ≤ x.id ∧ x.id ≤ 1073741824 := by
  intro x hx
  obtain ⟨j, hj, rfl⟩ := List.mem_iff_getElem.1 hx
  have := (chkAt_zero hj ((chkL_zero h).2 j hj)).1
  unfold chkR at this
  split at this
  · exact absurd this (by decide)
  · omega
set_option maxRecDepth 100000 in
set_option maxHeartbeats 8000000 in
theorem law_fresh_in (L : List Rv) (m : Nat) (hm : L.length = m) (h40 : m ≤ 40) (hsz : SzOk L) (hok : RsOk L) (w : World) (A : Option Addr) (n c : Nat)
    (cU : Calls Try.prog 12 #[.slice A n c] w (fun e w' => ∃ B cb, e = .returned (.slice B m cb) ∧ RsAt w' B L ∧ Below w.heap.size w w')) :
    Calls Try.prog 6 #[.slice A n c] w (TrueW w) := by
  have HM := Lib.hid hm
  have HSZ := Lib.hid hsz
  have HOK := Lib.hid hok
  clear hm hsz hok
  go_enter Try.func6, Try.ntmps6
  go_wp2_with fail
  (with_reducible refine cU.mono ?_)
  rintro e w1 ⟨B, cb, rfl, hL, k1⟩
  have K1 := Lib.hid k1
  have s1 := k1.size
  have HL := Lib.hid hL
  have cF := fresh_any L m HM.out (by omega) HSZ.out HOK.out B cb w1 hL
  clear cU k1 hL
  by_cases hc : chkL vld L = 0
  case neg =>
    have hc' : (chkL vld L == 0) = false := neB hc
    have e1 : frN L = 0 := by unfold frN; rw [if_pos hc]
    have e2 : frE L = chkL vld L := by unfold frE; rw [if_pos hc]
    rw [e1, e2] at cF
    have CR := Lib.hid (fun w' (hb : Below w1.heap.size w1 w') => rcheck_any L m HM.out (by omega) HSZ.out B cb w' (HL.out.below hb))
    generalize chkL vld L = r at cF hc' CR
    clear hc e1 e2
    go_wp2_with fail
    (with_reducible refine cF.mono ?_)
    rintro e w2 ⟨rfl, k2⟩
    have K2 := Lib.hid k2
    have s2 := k2.size
    clear cF k2
    go_wp2_with fail
    (with_reducible refine (known_any _).mono ?_)
    rintro e w3 ⟨rfl, k3⟩
    have K3 := Lib.hid (K2.out.trans (k3.mono s2))
    have s3 := K3.out.size
    have cr := CR.out w3 K3.out
    clear k3
    go_wp2_with fail
    (with_reducible refine cr.mono ?_)
    rintro e w4 ⟨rfl, k4⟩
    have K4 := Lib.hid (K1.out.trans ((K3.out.trans (k4.mono s3)).mono s1))
    clear cr k4
    go_wp2
    go_ret
    exact ⟨by simp, K4.out⟩
  have f1 : frN L = if 1073741824 ≤ lastI L then 0 else lastI L + 1 := by unfold frN; rw [if_neg (by simp [hc])]
  have f2 : frE L = if 1073741824 ≤ lastI L then 9 else 0 := by unfold frE; rw [if_neg (by simp [hc])]
  rw [f1, f2] at cF
  have CR := Lib.hid (fun w' (hb : Below w1.heap.size w1 w') => by have := rcheck_any L m HM.out (by omega) HSZ.out B cb w' (HL.out.below hb); rw [hc] at this; exact this)
  clear f1 f2
  by_cases h0 : m = 0
  · subst h0
    have hl : L = [] := List.eq_nil_of_length_eq_zero HM.out
    have hi : lastI L = 0 := by rw [hl]; rfl
    rw [hi, if_neg (by decide), if_neg (by decide)] at cF
    clear hi hl hc
    go_wp2_with fail
    (with_reducible refine cF.mono ?_)
    rintro e w2 ⟨rfl, k2⟩
    have K2 := Lib.hid k2
    have s2 := k2.size
    clear cF k2
    go_wp2_with fail
    (with_reducible refine (known_any _).mono ?_)
    rintro e w3 ⟨rfl, k3⟩
    have K3 := Lib.hid (K2.out.trans (k3.mono s2))
    have s3 := K3.out.size
    have cr := CR.out w3 K3.out
    clear k3
    go_wp2_with fail
    (with_reducible refine cr.mono ?_)
    rintro e w4 ⟨rfl, k4⟩
    have K4 := Lib.hid (K1.out.trans ((K3.out.trans (k4.mono s3)).mono s1))
    clear cr k4
    go_wp2
    go_ret
    exact ⟨by simp, K4.out⟩
  obtain ⟨p, rfl⟩ : ∃ p, m = p + 1 := ⟨m - 1, by omega⟩
  have hml : p < L.length := by rw [HM.out]; omega
  have hi := lastI_at hml HM.out
  have hid := chk_id hc _ (List.getElem_mem hml)
  obtain ⟨i1, _⟩ := HOK.out _ (List.getElem_mem hml)
  obtain ⟨g, o, rfl, hg, hcl⟩ := HL.out.pos (by omega)
  obtain ⟨c0, _⟩ := hcl p hml
  rw [hi] at cF
  clear hi hc hcl
  generalize L[p].id = v at c0 i1 cF hid
  unfold I64 at i1
  have g1 : (0 : Int) < ((p + 1 : Nat) : Int) := by omega
  have g1' : (0 : Int) < (p : Int) + 1 := by omega
  have g4 : IntKind.i64.wrap (((p + 1 : Nat) : Int) - 1) = (p : Int) := by rw [IntKind.wrap_i64]; omega
  have g5 : IntKind.i64.wrap ((p : Int) + 1 - 1) = (p : Int) := by rw [IntKind.wrap_i64]; omega
  have g6 : IntKind.i64.wrap (p : Int) = (p : Int) := by rw [IntKind.wrap_i64]; omega
  have g2 : (0 : Int) ≤ (p : Int) := by omega
  have g3 : (p : Int) < (p : Int) + 1 := by omega
  by_cases hv : 1073741824 ≤ v
  · rw [if_pos hv, if_pos hv] at cF
    have gw : IntKind.i64.wrap (v + 1) = v + 1 := by rw [IntKind.wrap_i64]; omega
    have gv : (1073741824 : Int) < v + 1 := by omega
    go_wp2_with fail
    (with_reducible refine cF.mono ?_)
    rintro e w2 ⟨rfl, k2⟩
    have K2 := Lib.hid k2
    have s2 := k2.size
    clear cF k2
    go_wp2_with fail
    (with_reducible refine (known_any _).mono ?_)
    rintro e w3 ⟨rfl, k3⟩
    have K3 := Lib.hid (K2.out.trans (k3.mono s2))
    have s3 := K3.out.size
    have cr := CR.out w3 K3.out
    clear k3
    go_wp2_with fail
    (with_reducible refine cr.mono ?_)
    rintro e w4 ⟨rfl, k4⟩
    have z0 := ((K3.out.trans (k4.mono s3)).cell (p := ⟨g, o + p * 3, none⟩) hg).trans c0
    have K4 := Lib.hid (K1.out.trans ((K3.out.trans (k4.mono s3)).mono s1))
    clear cr k4
    go_wp2
    go_ret
    exact ⟨by simp, K4.out⟩
  · rw [if_neg hv, if_neg hv] at cF
    have gw : IntKind.i64.wrap (v + 1) = v + 1 := by rw [IntKind.wrap_i64]; omega
    have gv : ¬ (1073741824 : Int) < v + 1 := by omega
    go_wp2_with fail
    (with_reducible refine cF.mono ?_)
    rintro e w2 ⟨rfl, k2⟩
    have K2 := Lib.hid k2
    have s2 := k2.size
    clear cF k2
    go_wp2_with fail
    (with_reducible refine (known_any _).mono ?_)
    rintro e w3 ⟨rfl, k3⟩
    have K3 := Lib.hid (K2.out.trans (k3.mono s2))
    have s3 := K3.out.size
    have cr := CR.out w3 K3.out
    clear k3
    go_wp2_with fail
    (with_reducible refine cr.mono ?_)
    rintro e w4 ⟨rfl, k4⟩
    have z0 := ((K3.out.trans (k4.mono s3)).cell (p := ⟨g, o + p * 3, none⟩) hg).trans c0
    have K4 := Lib.hid (K1.out.trans ((K3.out.trans (k4.mono s3)).mono s1))
    clear cr k4
    go_wp2
    go_ret
    exact ⟨by simp, K4.out⟩

theorem law_fresh (A : Option Addr) (n c : Nat) (l : List Rv) (hn : l.length = n) (hc : n ≤ c ∧ c ≤ maxLen) (hok : RsOk l) (w : World) (hA : RsAt w A l) :
    Calls Try.prog 6 #[.slice A n c] w (TrueW w) :=
  law_fresh_in (cutL l) (cutL l).length rfl (cut_40 l) (cut_sz l) (cutL_ok hok) w A n c ((cut_any l n hn hok A c hc w hA).mono fun e w' ⟨B, cb, h1, _, _, h4, h5, _⟩ => ⟨B, cb, h1, h4, h5⟩)
attribute [local irreducible] wpQuiet in
set_option maxRecDepth 100000 in
set_option maxHeartbeats 8000000 in
theorem law_checks (x : Rv) (hx1 : I64 x.id) (hx2 : I64 x.time) (hx : x.author.size ≤ maxLen) (A : Option Addr) (n c : Nat) (l : List Rv) (hn : l.length = n) (hc : n ≤ c ∧ c ≤ maxLen) (hok : RsOk l) (w : World) (hA : RsAt w A l) :
    Calls Try.prog 3 #[rvV x, .slice A n c] w (TrueW w) := by
  have b0 := (Below.refl w.heap.size w).alloc (Nat.le_refl _) (.cells #[.int .i64 x.id, .string x.author, .int .i64 x.time] 23)
  have O0 := ObjAt.new w #[.int .i64 x.id, .string x.author, .int .i64 x.time] 23
  have hbx : w.heap.size < (w.alloc (.cells #[.int .i64 x.id, .string x.author, .int .i64 x.time] 23)).heap.size := by simp
  have cO := one_any x hx (w.alloc (.cells #[.int .i64 x.id, .string x.author, .int .i64 x.time] 23))
  have CU := Lib.hid (fun w' (hb : Below w.heap.size w w') => cut_any l n hn hok A c hc w' (hA.below hb))
  have HB0 := Lib.hid b0
  have s0 := b0.size
  have HX := Lib.hid (cutS_size x.author)
  have h40 := cut_40 l
  have HSZ := Lib.hid (cut_sz l)
  have HO := Lib.hid O0
  clear b0 O0 hn hc hok hA
  unfold CutR_ at CU
  generalize cutL l = L at *
  go_enter Try.func3, Try.ntmps3
  go_wp2_with fail
  (with_reducible refine cO.mono ?_)
  rintro e w1 ⟨rfl, k1⟩
  have K1 := Lib.hid (HB0.out.trans (k1.mono s0))
  have s1 := K1.out.size
  have cu := CU.out w1 K1.out
  have O1 := Lib.hid (HO.out.below k1)
  have hb1 : w.heap.size < w1.heap.size := Nat.lt_of_lt_of_le hbx k1.size
  clear cO k1
  go_wp2_with fail
  (with_reducible refine cu.mono ?_)
  rintro e w2 ⟨B, cb, rfl, hcb1, hcb2, hL, k2, hrow⟩
  have K2 := Lib.hid (K1.out.trans (k2.mono s1))
  have O2 := O1.out.below k2
  have x0 := O2.b0
  have x1 := O2.b1
  have x2 := O2.b2
  have t0 := O2.frozen 0
  have t1 := O2.frozen 1
  have t2 := O2.frozen 2
  have O3 := Lib.hid (ObjAt.set (ObjAt.set (ObjAt.set O2 0 (.int .i64 (cutR x).id)) 1 (.string (cutR x).author)) 2 (.int .i64 (cutR x).time))
  have R3 := Lib.hid (row_setO (row_setO (row_setO hrow hb1 0 (.int .i64 (cutR x).id)) hb1 1 (.string (cutR x).author)) hb1 2 (.int .i64 (cutR x).time))
  have K3 := Lib.hid (((K2.out.setCell (p := ⟨w.heap.size, 0, none⟩) (Nat.le_refl _) (.int .i64 (cutR x).id)).setCell (p := ⟨w.heap.size, 1, none⟩) (Nat.le_refl _) (.string (cutR x).author)).setCell (p := ⟨w.heap.size, 2, none⟩) (Nat.le_refl _) (.int .i64 (cutR x).time))
  clear cu k2 hL hrow O2
  go_wp2_with fail
  generalize hW3 : ((w2.setCell ⟨w.heap.size, 0, none⟩ (.int .i64 (cutR x).id)).setCell ⟨w.heap.size, 1, none⟩ (.string (cutR x).author)).setCell ⟨w.heap.size, 2, none⟩ (.int .i64 (cutR x).time) = W3 at O3 R3 K3 ⊢
  clear hW3 x0 x1 x2 t0 t1 t2
  have s3 := K3.out.size
  obtain ⟨A', c', e1, _, _, e4⟩ := row_rs R3.out rfl
  injection e1 with q1 q2 q3
  subst q1 q3
  clear q2
  have HL := Lib.hid e4
  clear e4
  have y0F : ∀ p : Bw W3, p.w.cell? ⟨w.heap.size, 0, none⟩ = some (.int .i64 (cutR x).id) := fun p => (O3.out.below p.h).get (k := 0) (by simp)
  have y1F : ∀ p : Bw W3, p.w.cell? ⟨w.heap.size, 1, none⟩ = some (.string (cutR x).author) := fun p => (O3.out.below p.h).get (k := 1) (by simp)
  have y2F : ∀ p : Bw W3, p.w.cell? ⟨w.heap.size, 2, none⟩ = some (.int .i64 (cutR x).time) := fun p => (O3.out.below p.h).get (k := 2) (by simp)
  have hxs : (cutR x).author.size ≤ 1000000 := by have := HX.out; show (cutS x.author).size ≤ _; omega
  generalize hcx : cutR x = X at *
  obtain ⟨Xa, Xs, Xt⟩ := X
  dsimp only at *
  refine wp_region_bw (W := W3) (by kernel_rfl) (by kernel_rfl) (by first | exact Below.refl _ _ | exact (Below.refl _ _).drew) ?_
  repeat (quiet_step (first
    | (go_at_call 13; exact bw_of (fun p => known_any p.w) _)
    | (go_at_call 14; exact bw_of (fun p => checkrev_any ⟨Xa, Xs, Xt⟩ hxs p.w) _)
    | (go_at_call 15; exact bw_of (fun p => rcheckrev_any ⟨Xa, Xs, Xt⟩ hxs p.w) _)
    | (go_at_call 16; exact bw_of (fun p => check_any L L.length rfl (by omega) HSZ.out B cb p.w (HL.out.below p.h)) _)
    | (go_at_call 17; exact bw_of (fun p => rcheck_any L L.length rfl (by omega) HSZ.out B cb p.w (HL.out.below p.h)) _)
    | fail))
  refine wpQuiet_nil ?_
  intro w7 hw'
  have kk : Below W3.heap.size W3 w7 := by obtain ⟨p2, rfl⟩ := hw'; exact p2.h
  have K7 := Lib.hid (K3.out.trans (kk.mono s3))
  clear hw' kk y0F y1F y2F
  go_wp2
  go_ret
  exact ⟨by simp, K7.out⟩
end Go.Proofs.Ytmpklkhjipclmaa
