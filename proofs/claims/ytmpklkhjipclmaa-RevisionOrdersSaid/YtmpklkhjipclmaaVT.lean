/- Layer 22: the law of selecting (9). -/
import Derived.Test.YtmpklkhjipclmaaVS
namespace Go.Proofs.Ytmpklkhjipclmaa
open Go.RowKit Go.Lib
set_option linter.unusedVariables false

/-- How a table is cut by a call, with the row. -/
def CutO (w : World) (A : Option Addr) (n c : Nat) (L : List Rv) (m : Nat) : Prop :=
  Calls Try.prog 12 #[.slice A n c] w (fun e w' => ∃ B cb, e = .returned (.slice B m cb) ∧ (w'.ownsRow w.heap.size 23 3 (.slice B m cb) m (rowR L) ∧ (m ≤ cb ∧ cb ≤ maxLen)) ∧ Below w.heap.size w w')
theorem cut_o (l : List Rv) (n : Nat) (hn : l.length = n) (hok : RsOk l) (A : Option Addr) (c : Nat) (hc : n ≤ c ∧ c ≤ maxLen) (w : World) (hA : RsAt w A l) : CutO w A n c (cutL l) (cutL l).length :=
  (cut_any l n hn hok A c hc w hA).mono fun e w' ⟨B, cb, h1, h2, h3, h4, h5, h6⟩ => ⟨B, cb, h1, ⟨h6, h2, h3⟩, h5⟩
theorem selI_len (f : Fl) (l : List Rv) : (srtU (selI f l)).length ≤ l.length := by
  have h1 := srtU_len (selI f l)
  have h2 : (selI f l).length ≤ l.length := by unfold selI; rw [List.length_map]; exact List.length_filter_le _ _
  omega
attribute [local irreducible] wpQuiet in
set_option maxRecDepth 100000 in
set_option maxHeartbeats 16000000 in
theorem selects_in (L : List Rv) (m : Nat) (hm : L.length = m) (h40 : m ≤ 40) (hok : RsOk L) (f : Fl) (A : Option Addr) (c : Nat) (B : Option Addr) (d : Nat) (A0 : Option Addr) (n0 c0 : Nat) (w : World)
    (cU : ∀ w', Below w.heap.size w w' → CutO w' A0 n0 c0 L m) (hf : FlIn w f A c B d) : Calls Try.prog 9 #[.slice A0 n0 c0, flV f A c B d] w (TrueW w) := by
  have b0 := (Below.refl w.heap.size w).alloc (Nat.le_refl _) (.cells #[.slice A f.authors.length c, .int .i64 f.frm, .int .i64 f.to, .slice B f.ids.length d] 52)
  have O0 := ObjAt.new w #[.slice A f.authors.length c, .int .i64 f.frm, .int .i64 f.to, .slice B f.ids.length d] 52
  have hbx : w.heap.size < (w.alloc (.cells #[.slice A f.authors.length c, .int .i64 f.frm, .int .i64 f.to, .slice B f.ids.length d] 52)).heap.size := by simp
  generalize hW : w.alloc (.cells #[.slice A f.authors.length c, .int .i64 f.frm, .int .i64 f.to, .slice B f.ids.length d] 52) = W at b0 O0 hbx
  have HW := Lib.hid hW
  have HB0 := Lib.hid b0
  have s0 := b0.size
  have OX := Lib.hid O0
  have HM := Lib.hid hm
  have HOK := Lib.hid hok
  have HF := Lib.hid hf
  have HFO := Lib.hid (few_ok hf.s hf.n)
  have HSA := Lib.hid (fun w' (hb : Below w.heap.size w w') => (hf.sa.below hb).take 10)
  have HNI := Lib.hid (fun w' (hb : Below w.heap.size w w') => (hf.ni.below hb).take 40)
  have c12 := Lib.hid (fun U (hU : Below W.heap.size W U) => ((cU U (b0.trans (hU.mono s0))).mono (fun e U' ⟨B', cb, h1, ⟨h2, h3⟩, h4⟩ => ⟨B', cb, h1, own_lower h2 hU.size, h3, hU.trans (h4.mono hU.size)⟩) :
    Calls Try.prog 12 #[.slice A0 n0 c0] U fun e U' => ∃ B' cb, e = .returned (.slice B' m cb) ∧ U'.ownsRow W.heap.size 23 3 (.slice B' m cb) m (rowR L) ∧ (m ≤ cb ∧ cb ≤ maxLen) ∧ Below W.heap.size W U'))
  have c27 := Lib.hid (fun U B' cb (hU : Below W.heap.size W U) (hr : U.ownsRow W.heap.size 23 3 (.slice B' m cb) m (rowR L)) => ((few_any f A c B d hf.a hf.i U).mono (fun e U' ⟨h1, h2⟩ => ⟨h1, row_below hr h2, hU.trans (h2.mono hU.size), ⟨((ObjAt.below (ObjAt.below O0 hU) h2)).frozen 0, ((ObjAt.below (ObjAt.below O0 hU) h2)).frozen 1, ((ObjAt.below (ObjAt.below O0 hU) h2)).frozen 2, ((ObjAt.below (ObjAt.below O0 hU) h2)).frozen 3⟩⟩) :
    Calls Try.prog 27 #[.agg #[.slice A f.authors.length c, .int .i64 f.frm, .int .i64 f.to, .slice B f.ids.length d]] U fun e U' => e = .returned (.agg #[.slice A (fewF f).authors.length c, .int .i64 (fewF f).frm, .int .i64 (fewF f).to, .slice B (fewF f).ids.length d]) ∧ U'.ownsRow W.heap.size 23 3 (.slice B' m cb) m (rowR L) ∧ Below W.heap.size W U' ∧ (U'.frozen? ⟨w.heap.size, 0, none⟩ = false ∧ U'.frozen? ⟨w.heap.size, 1, none⟩ = false ∧ U'.frozen? ⟨w.heap.size, 2, none⟩ = false ∧ U'.frozen? ⟨w.heap.size, 3, none⟩ = false)))
  have SS := Lib.hid (fun U (hU : Below W.heap.size W U) => (⟨(OX.out.below hU).get (k := 0) rfl, (OX.out.below hU).get (k := 1) rfl, (OX.out.below hU).get (k := 2) rfl, (OX.out.below hU).get (k := 3) rfl⟩ : U.cell? ⟨w.heap.size, 0, none⟩ = some (.slice A f.authors.length c) ∧ U.cell? ⟨w.heap.size, 1, none⟩ = some (.int .i64 f.frm) ∧ U.cell? ⟨w.heap.size, 2, none⟩ = some (.int .i64 f.to) ∧ U.cell? ⟨w.heap.size, 3, none⟩ = some (.slice B f.ids.length d)))
  have D0 : Below W.heap.size W W.drew := bdrew1 (Below.refl _ _)
  clear hm hok hf b0 O0 cU
  go_enter Try.func9, Try.ntmps9
  go_wp2_with fail
  obtain ⟨z0, z1, z2, z3⟩ := SS.out W (Below.refl _ _)
  go_region_with (first
    | (go_at_call 12; (with_reducible refine (c12.out _ D0).mono ?_); rintro e U1 ⟨B1, cb1, rfl, hr1, hc1, hU1⟩; obtain ⟨y0, y1, y2, y3⟩ := SS.out U1 hU1)
    | (go_at_call 27; (with_reducible refine (c27.out _ _ _ hU1 hr1).mono ?_); rintro e U2 ⟨rfl, hr2, hU2, t0, t1, t2, t3⟩; obtain ⟨x0, x1, x2, x3⟩ := SS.out U2 hU2)
    | fail)
  all_goals
    have OB := ((((ObjAt.below OX.out hU2).set 0 (.slice A (fewF f).authors.length c)).set 1 (.int .i64 (fewF f).frm)).set 2 (.int .i64 (fewF f).to)).set 3 (.slice B (fewF f).ids.length d)
    have HR := row_setO (row_setO (row_setO (row_setO hr2 hbx 0 (.slice A (fewF f).authors.length c)) hbx 1 (.int .i64 (fewF f).frm)) hbx 2 (.int .i64 (fewF f).to)) hbx 3 (.slice B (fewF f).ids.length d)
    have KU := ((((HB0.out.trans (hU2.mono s0)).setCell (p := ⟨w.heap.size, 0, none⟩) (Nat.le_refl _) (.slice A (fewF f).authors.length c)).setCell (p := ⟨w.heap.size, 1, none⟩) (Nat.le_refl _) (.int .i64 (fewF f).frm)).setCell (p := ⟨w.heap.size, 2, none⟩) (Nat.le_refl _) (.int .i64 (fewF f).to)).setCell (p := ⟨w.heap.size, 3, none⟩) (Nat.le_refl _) (.slice B (fewF f).ids.length d)
    have q0 := OB.get (k := 0) (v := .slice A (fewF f).authors.length c) (by simp)
    have q1 := OB.get (k := 1) (v := .int .i64 (fewF f).frm) (by simp)
    have q2 := OB.get (k := 2) (v := .int .i64 (fewF f).to) (by simp)
    have q3 := OB.get (k := 3) (v := .slice B (fewF f).ids.length d) (by simp)
    have HBL := OB.lt
    clear OB hr2 hU1 hr1 hU2 t0 t1 t2 t3
    try clear z0 z1 z2 z3
    try clear y0 y1 y2 y3
    try clear x0 x1 x2 x3
    clear SS c12 c27 D0 HW
    generalize (((U2.setCell ⟨w.heap.size, 0, none⟩ (.slice A (fewF f).authors.length c)).setCell ⟨w.heap.size, 1, none⟩ (.int .i64 (fewF f).frm)).setCell ⟨w.heap.size, 2, none⟩ (.int .i64 (fewF f).to)).setCell ⟨w.heap.size, 3, none⟩ (.slice B (fewF f).ids.length d) = U3 at HR KU q0 q1 q2 q3 HBL ⊢
    have HSS := Lib.hid (HSA.out U3 KU)
    have HNN := Lib.hid (HNI.out U3 KU)
    obtain ⟨_, _, e9, _, _, hLA⟩ := row_rs HR HM.out
    injection e9 with e91 e92 e93
    subst e91 e93
    have LA := Lib.hid hLA
    have KX := Lib.hid KU
    have sU := KU.size
    have HSS' : Hid (SsAt U3 A (fewF f).authors) := HSS
    have HNN' : Hid (NsAt U3 B (fewF f).ids) := HNN
    clear HR KU hLA e92 HSS HNN HSA HNI HB0 OX hbx
    have hfo := HFO.out
    have HSS2 := HSS'.out
    have HNN2 := HNN'.out
    clear HSS' HNN'
    generalize fewF f = F at *
    clear hW HF HFO
    obtain ⟨FA, Ff, Ft, FI⟩ := F
    dsimp only at q0 q1 q2 q3 HSS2 HNN2
    have HSS := Lib.hid HSS2
    have HNN := Lib.hid HNN2
    have HFO := Lib.hid hfo
    have HCB := Lib.hid hc1
    have cS := select_any L m HM.out (by omega) HOK.out B1 cb1 ⟨FA, Ff, Ft, FI⟩ HFO.out A c B d U3 LA.out HSS.out HNN.out
    unfold flV at cS
    dsimp only at cS
    have Q0 := Lib.hid q0
    have Q1 := Lib.hid q1
    have Q2 := Lib.hid q2
    have Q3 := Lib.hid q3
    clear hfo HSS2 HNN2 hc1
    go_wp2_with fail
    (with_reducible refine cS.mono ?_)
    rintro e w4 ⟨SA, cbs, rfl, hr4, k4⟩
    obtain ⟨_, _, e9, hs1, hs2, hns⟩ := row_ns hr4 rfl
    injection e9 with e91 e92 e93
    subst e91 e93
    have K4 := Lib.hid (KX.out.trans (k4.mono sU))
    have s4 := K4.out.size
    have B4 := Lib.hid k4
    have HS4 := Lib.hid hns
    have hp40 : (srtU (selI ⟨FA, Ff, Ft, FI⟩ L)).length ≤ m := by have := selI_len ⟨FA, Ff, Ft, FI⟩ L; have := HM.out; omega
    clear cS hr4 e92 hns k4
    obtain ⟨S, hS⟩ : ∃ S, srtU (selI ⟨FA, Ff, Ft, FI⟩ L) = S := ⟨_, rfl⟩
    rw [hS] at hs1 hp40 HS4 ⊢
    obtain ⟨p, hp⟩ : ∃ p, S.length = p := ⟨_, rfl⟩
    rw [hp] at hs1 hp40 ⊢
    have HSE := Lib.hid hS
    have HPE := Lib.hid hp
    clear hS hp q0 q1 q2 q3
    go_wp2_with fail
    (with_reducible refine (known_any _).mono ?_)
    rintro e w5 ⟨rfl, k5⟩
    have B5 := Lib.hid (B4.out.trans (k5.mono (Nat.le_trans (Nat.le_refl _) B4.out.size)))
    have s5 := B5.out.size
    have K5 := Lib.hid (KX.out.trans (B5.out.mono sU))
    have HS5 := Lib.hid (HS4.out.below k5)
    have sK5 := K5.out.size
    have hbr := Lib.hid (Below.refl w5.heap.size w5)
    clear k5
    go_wp2_with fail
    go_loopw [6, 7] (fun s6 s7 wr => ∃ i : Nat, i ≤ m ∧ s7 = .int .i64 (i : Nat) ∧ Hid (Below w5.heap.size w5 wr) ∧ ∃ (C : Option Addr) (q cq : Nat), s6 = .slice C q cq ∧ Hid ((srtU (selI ⟨FA, Ff, Ft, FI⟩ (L.take i))).length = q) ∧ Hid (q ≤ cq ∧ cq ≤ maxLen) ∧ Hid (NsAt wr C (srtU (selI ⟨FA, Ff, Ft, FI⟩ (L.take i))))) (fun _ s7 _ => m - (intOf s7).toNat)
    case atStart => exact ⟨0, Nat.zero_le _, rfl, hbr, none, 0, 0, rfl, Lib.hid rfl, Lib.hid ⟨Nat.le_refl _, by decide⟩, Lib.hid (.inl rfl)⟩
    case round =>
      clear hbr
      obtain ⟨i, him, rfl, HBR, C, q, cq, rfl, HQ, HCQ, HNS⟩ := hrel
      have sR := HBR.out.size
      have BU := Lib.hid (B5.out.trans (HBR.out.mono s5))
      have KR := Lib.hid (K5.out.trans (HBR.out.mono sK5))
      have sKR := KR.out.size
      have hq40 : q ≤ m := by
        have := selI_len ⟨FA, Ff, Ft, FI⟩ (L.take i); have := HQ.out; have := HM.out; rw [List.length_take] at *; omega
      by_cases hlt : i < m
      case neg =>
        obtain rfl : i = m := by omega
        have HSQ := Lib.hid (by rw [← HSE.out, List.take_of_length_le (by rw [HM.out]; exact Nat.le_refl _)] : srtU (selI ⟨FA, Ff, Ft, FI⟩ (L.take i)) = S)
        have HNQ := HNS.out
        have HQ2 := HQ.out
        rw [HSQ.out] at HNQ HQ2
        have HNT := Lib.hid HNQ
        have HQT := Lib.hid HQ2
        clear HNQ HQ2 HNS HQ HSQ
        have cE := same_any S S p q HPE.out HQT.out (by omega) (by omega) SA C cbs cq wr (HS5.out.below HBR.out) HNT.out
        rw [decide_eq_true rfl] at cE
        have y0 := (BU.out.cell (p := ⟨w.heap.size, 0, none⟩) HBL).trans Q0.out
        have y1 := (BU.out.cell (p := ⟨w.heap.size, 1, none⟩) HBL).trans Q1.out
        have y2 := (BU.out.cell (p := ⟨w.heap.size, 2, none⟩) HBL).trans Q2.out
        have y3 := (BU.out.cell (p := ⟨w.heap.size, 3, none⟩) HBL).trans Q3.out
        go_wp2_with fail
        (with_reducible refine cE.mono ?_)
        rintro e w6 ⟨rfl, k6⟩
        have B6 := Lib.hid (BU.out.trans (k6.mono BU.out.size))
        have s6 := B6.out.size
        have N6 := Lib.hid (HNT.out.below k6)
        have y0' := (B6.out.cell (p := ⟨w.heap.size, 0, none⟩) HBL).trans Q0.out
        have y1' := (B6.out.cell (p := ⟨w.heap.size, 1, none⟩) HBL).trans Q1.out
        have y2' := (B6.out.cell (p := ⟨w.heap.size, 2, none⟩) HBL).trans Q2.out
        have y3' := (B6.out.cell (p := ⟨w.heap.size, 3, none⟩) HBL).trans Q3.out
        have cA := accept_any L i HM.out (by omega) HOK.out B1 cb1 ⟨FA, Ff, Ft, FI⟩ HFO.out A c B d w6 (LA.out.below B6.out) (HSS.out.below B6.out) (HNN.out.below B6.out)
        unfold flV at cA
        dsimp only at cA
        rw [HSE.out, HPE.out] at cA
        clear cE k6 y0 y1 y2 y3
        go_wp2_with fail
        (with_reducible refine cA.mono ?_)
        rintro e w7 ⟨AA, cbb, rfl, hna, k7⟩
        have B7 := Lib.hid (B6.out.trans (k7.mono s6))
        have s7 := B7.out.size
        have N7 := Lib.hid (N6.out.below k7)
        have cD := samedec_any S [] S [] p 0 q 0 HPE.out rfl HQT.out rfl (by omega) (by omega) (by omega) (by omega) AA none C none cbb 0 cq 0 w7 hna (.inl rfl) N7.out (.inl rfl)
        rw [show (decide (S = S) && decide (([] : List Int) = [])) = true by simp] at cD
        clear cA k7 hna y0' y1' y2' y3'
        go_wp2_with fail
        (with_reducible refine cD.mono ?_)
        rintro e w8 ⟨rfl, k8⟩
        have B8 := Lib.hid (B7.out.trans (k8.mono s7))
        have s8 := B8.out.size
        have N8 := Lib.hid (N7.out.below k8)
        have y0 := (B8.out.cell (p := ⟨w.heap.size, 0, none⟩) HBL).trans Q0.out
        have y1 := (B8.out.cell (p := ⟨w.heap.size, 1, none⟩) HBL).trans Q1.out
        have y2 := (B8.out.cell (p := ⟨w.heap.size, 2, none⟩) HBL).trans Q2.out
        have y3 := (B8.out.cell (p := ⟨w.heap.size, 3, none⟩) HBL).trans Q3.out
        have cA := reject_any L i HM.out (by omega) HOK.out B1 cb1 ⟨FA, Ff, Ft, FI⟩ HFO.out A c B d w8 (LA.out.below B8.out) (HSS.out.below B8.out) (HNN.out.below B8.out)
        unfold flV at cA
        dsimp only at cA
        rw [HSE.out, HPE.out] at cA
        clear cD k8
        go_wp2_with fail
        (with_reducible refine cA.mono ?_)
        rintro e w9 ⟨AR, cbr, rfl, hna, k9⟩
        have B9 := Lib.hid (B8.out.trans (k9.mono s8))
        have s9 := B9.out.size
        have N9 := Lib.hid (N8.out.below k9)
        have cD := samedec_any [] S [] S 0 p 0 q rfl HPE.out rfl HQT.out (by omega) (by omega) (by omega) (by omega) none AR none C 0 cbr 0 cq w9 (.inl rfl) hna (.inl rfl) N9.out
        rw [show (decide (([] : List Int) = []) && decide (S = S)) = true by simp] at cD
        clear cA k9 hna y0 y1 y2 y3
        go_wp2_with fail
        (with_reducible refine cD.mono ?_)
        rintro e w10 ⟨rfl, k10⟩
        have KF := Lib.hid (KX.out.trans ((B9.out.trans (k10.mono s9)).mono sU))
        clear cD k10
        go_wp2
        go_ret
        exact ⟨rfl, KF.out⟩
      case pos =>
        have hil : i < L.length := by rw [HM.out]; exact hlt
        obtain ⟨g, o, rfl, hg, hcl⟩ := LA.out.pos (by omega)
        obtain ⟨c0, c1, c2⟩ := hcl i hil
        have g0 : (0 : Int) ≤ (i : Int) := by omega
        have g1 : (i : Int) < (m : Int) := by omega
        have HSN := Lib.hid (selI_snoc ⟨FA, Ff, Ft, FI⟩ L i hil)
        clear hcl
        generalize L[i] = x at c0 c1 c2 HSN
        obtain ⟨xa, xs, xt⟩ := x
        dsimp only at c0 c1 c2
        have C0 := Lib.hid c0
        have z0F : ∀ v : Bw wr, v.w.cell? ⟨g, o + i * 3, none⟩ = some (.int .i64 xa) := fun v => ((BU.out.trans (v.h.mono BU.out.size)).cell (p := ⟨g, o + i * 3, none⟩) hg).trans c0
        have z1F : ∀ v : Bw wr, v.w.cell? ⟨g, o + i * 3 + 1, none⟩ = some (.string xs) := fun v => ((BU.out.trans (v.h.mono BU.out.size)).cell (p := ⟨g, o + i * 3 + 1, none⟩) hg).trans c1
        have z2F : ∀ v : Bw wr, v.w.cell? ⟨g, o + i * 3 + 2, none⟩ = some (.int .i64 xt) := fun v => ((BU.out.trans (v.h.mono BU.out.size)).cell (p := ⟨g, o + i * 3 + 2, none⟩) hg).trans c2
        have y0F : ∀ v : Bw wr, v.w.cell? ⟨w.heap.size, 0, none⟩ = some (.slice A FA.length c) := fun v => ((BU.out.trans (v.h.mono BU.out.size)).cell (p := ⟨w.heap.size, 0, none⟩) HBL).trans Q0.out
        have y1F : ∀ v : Bw wr, v.w.cell? ⟨w.heap.size, 1, none⟩ = some (.int .i64 Ff) := fun v => ((BU.out.trans (v.h.mono BU.out.size)).cell (p := ⟨w.heap.size, 1, none⟩) HBL).trans Q1.out
        have y2F : ∀ v : Bw wr, v.w.cell? ⟨w.heap.size, 2, none⟩ = some (.int .i64 Ft) := fun v => ((BU.out.trans (v.h.mono BU.out.size)).cell (p := ⟨w.heap.size, 2, none⟩) HBL).trans Q2.out
        have y3F : ∀ v : Bw wr, v.w.cell? ⟨w.heap.size, 3, none⟩ = some (.slice B FI.length d) := fun v => ((BU.out.trans (v.h.mono BU.out.size)).cell (p := ⟨w.heap.size, 3, none⟩) HBL).trans Q3.out
        have cQ := fun v : Bw wr => selects_any ⟨FA, Ff, Ft, FI⟩ HFO.out A c B d ⟨xa, xs, xt⟩ v.w (HSS.out.below (BU.out.trans (v.h.mono BU.out.size))) (HNN.out.below (BU.out.trans (v.h.mono BU.out.size)))
        clear c0 c1 c2
        cases hv : selQ ⟨FA, Ff, Ft, FI⟩ ⟨xa, xs, xt⟩
        all_goals
          rw [hv] at cQ HSN
          have CQ := Lib.hid cQ
          clear cQ
          have HV := Lib.hid hv
          clear hv
          go_wp2_with fail
          refine wp_region_bw (W := wr) (by kernel_rfl) (by kernel_rfl) (Below.refl _ _) ?_
          repeat (quiet_step (first
            | (go_at_call 29; exact bw_of (fun v => CQ.out v) _)
            | fail))
          refine wpQuiet_nil ?_
          intro w6 hw'
          have kk : Below wr.heap.size wr w6 := by obtain ⟨p2, rfl⟩ := hw'; exact p2.h
          have B6 := Lib.hid (HBR.out.trans (kk.mono sR))
          have N6 := Lib.hid (HNS.out.below kk)
          have z6 := ((BU.out.trans (kk.mono BU.out.size)).cell (p := ⟨g, o + i * 3, none⟩) hg).trans C0.out
          clear hw' kk z0F z1F z2F y0F y1F y2F y3F CQ
        ·
          have HN2 := Lib.hid (HSN.out.trans (by rw [if_neg (by decide), List.append_nil]))
          go_wp2
          go_roundw
          case rel => exact ⟨i + 1, by omega, by first | rfl | go_num, B6, C, q, cq, rfl, Lib.hid (by rw [HN2.out]; exact HQ.out), HCQ, Lib.hid (by rw [HN2.out]; exact N6.out)⟩
          case measure => simp [intOf]; omega
        ·
          have HN2 := Lib.hid ((congrArg srtU HSN.out).trans (by simpa using srtU_snoc (selI ⟨FA, Ff, Ft, FI⟩ (L.take i)) xa))
          have cI := insert_any_ (srtU (selI ⟨FA, Ff, Ft, FI⟩ (L.take i))) q HQ.out (by omega) (srtU_srt _) xa C cq HCQ.out w6 N6.out
          have s6 := B6.out.size
          go_wp2_with fail
          (with_reducible refine cI.mono ?_)
          rintro e w7 ⟨C7, cb7, rfl, h71, h72, hn7, k7⟩
          have B7 := Lib.hid (B6.out.trans (k7.mono s6))
          have HC7 := Lib.hid (And.intro h71 h72)
          have N7 := Lib.hid hn7
          clear cI k7 hn7 h71 h72
          go_wp2
          go_roundw
          case rel => exact ⟨i + 1, by omega, by first | rfl | go_num, B7, C7, _, cb7, rfl, Lib.hid (by rw [HN2.out]), HC7, Lib.hid (by rw [HN2.out]; exact N7.out)⟩
          case measure => simp [intOf]; omega
/-- The law: selects. -/
theorem law_selects (A : Option Addr) (n c : Nat) (l : List Rv) (hn : l.length = n) (hc : n ≤ c ∧ c ≤ maxLen) (hok : RsOk l) (f : Fl) (FA : Option Addr) (fc : Nat) (FB : Option Addr) (fd : Nat) (w : World) (hA : RsAt w A l) (hf : FlIn w f FA fc FB fd) :
    Calls Try.prog 9 #[.slice A n c, flV f FA fc FB fd] w (TrueW w) :=
  selects_in (cutL l) _ rfl (cut_40 l) (cutL_ok hok) f FA fc FB fd A n c w (fun w' hb => cut_o l n hn hok A c hc w' (hA.below hb)) hf
end Go.Proofs.Ytmpklkhjipclmaa
