/- Layer 8: the law of removing (10). -/
import Derived.Test.YtbkpokipibgdfaaUE
import Derived.Test.YtbkpokipibgdfaaUF
import Derived.Test.YtbkpokipibgdfaaTY
namespace Go.Proofs.Ytbkpokipibgdfaa
open Go.RowKit Go.Lib
set_option linter.unusedVariables false

theorem effg_any (l : List St) (hok : LsOk l) (hnm : NmsOk l) (hps : PrsOk l) (A : Option Addr) (m d : Nat) (hm : l.length = m) (hs : m ≤ 1000) (i : Int) (hi : I64 i) (hz : chkI l i = 0) (w : World) (hA : LsAt w A l) :
    Calls Try.prog 27 #[.slice A m d, .int .i64 i] w fun e w' => (∃ B n cb, (effI l i).length = n ∧ e = .returned (.tuple #[.slice B n cb, .int .i64 0]) ∧ w'.ownsRow w.heap.size 55 2 (.slice B n cb) n (rowP (effI l i))) ∧ Below w.heap.size w w' := by
  refine (eff_g l hok hnm hps A m d hm hs i hi hz w hA).mono ?_
  rintro e w1 ⟨⟨xs, B, n, cb, h1, h2, h3, rfl, h4⟩, k⟩
  unfold effI
  rw [chn_eq h1 h2]
  exact ⟨⟨B, n, cb, h3, rfl, h4⟩, k⟩
theorem Good.prs {l : List St} (h : Good l) : PrsOk l := by
  intro x hx
  obtain ⟨q, hq, rfl⟩ := List.mem_iff_getElem.1 hx
  have := (h.inT q).len
  rw [prsL_at hq] at this
  omega
theorem chkI_zero {l : List St} (h : Good l) {b : Int} {q : Nat} (hp : plc l b = some q) : chkI l b = 0 := by
  unfold chkI
  rw [if_neg (by rw [chkA_good h]; simp), if_neg (by rw [hp]; simp)]
theorem LsAt.id {w : World} {g : Nat} {l : List St} (h : LsAt w (some ⟨g, 0, none⟩) l) {q : Nat} (hq : q < l.length) : g < w.heap.size ∧ w.cell? ⟨g, q * 6, none⟩ = some (.int .i64 l[q].id) := by
  obtain ⟨g', o, e, hg, hc⟩ := h.pos (by omega)
  injection e with e
  injection e with e1 e2
  subst e1 e2
  obtain ⟨_, _, z0, _⟩ := hc q hq
  rw [Nat.zero_add] at z0
  exact ⟨hg, z0⟩
set_option maxRecDepth 100000 in
set_option maxHeartbeats 16000000 in
theorem law_removes (A : Option Addr) (n c : Nat) (l : List St) (hn : l.length = n) (hc : n ≤ c ∧ c ≤ maxLen) (hin : ∀ x ∈ l, StIn x) (i : Int) (hwi : (Lit.int .i64 i).wf = true) (w : World) (hA : LsAt w A l) :
    Calls Try.prog 10 #[.slice A n c, .int .i64 i] w (TrueW w) := by
  have cK := Go.Lib.hid (fun w' => known_any w')
  have cS := Go.Lib.hid (fun w' (hb : Below w.heap.size w w') => small_any l A n c hn hc w' (hA.below hb))
  have HA := Go.Lib.hid hA
  have HN := Go.Lib.hid hn
  have HOK := Go.Lib.hid (ls_ok hin)
  have HI := Go.Lib.hid (wf_i64 hwi)
  clear hA hn hc hin hwi
  have K0 := Go.Lib.hid (Below.refl w.heap.size w)
  have s0 := K0.out.size
  go_enter Try.func10, Try.ntmps10
  have cc := cK.out w
  go_wp2_with fail
  (with_reducible refine cc.mono ?_)
  rintro e w1 ⟨rfl, k1⟩
  have K1 := Go.Lib.hid (K0.out.trans (k1.mono s0))
  have s1 := K1.out.size
  clear cc k1
  have cc := cS.out w1 K1.out
  go_wp2_with fail
  (with_reducible refine cc.mono ?_)
  rintro e w2 ⟨⟨b, rfl, hb⟩, k2⟩
  have K2 := Go.Lib.hid (K1.out.trans (k2.mono s1))
  have s2 := K2.out.size
  clear cc k2
  cases b with
  | false =>
    clear hb
    have cc := cK.out w2
    go_wp2_with fail
    (with_reducible refine cc.mono ?_)
    rintro e w3 ⟨rfl, k3⟩
    have K3 := Go.Lib.hid (K2.out.trans (k3.mono s2))
    have s3 := K3.out.size
    clear cc k3
    go_wp2
    go_ret
    exact ⟨by simp, K3.out⟩
  | true =>
    have HT := Go.Lib.hid (hb rfl)
    clear hb
    have q1 : n ≤ 1000 := by rw [← HN.out]; exact Nat.le_trans HT.out.1 (by omega)
    have e3 := Go.Lib.hid (fun w' (hb : Below w.heap.size w w') => rcheck_any l HOK.out (sml_nms HT.out) n HN.out q1 A c w' (HA.out.below hb))
    have e4 := Go.Lib.hid (fun w' (hb : Below w.heap.size w w') => rfind_any l n HN.out q1 A c i w' (HA.out.below hb))
    by_cases hz : chkI l i = 0
    case neg =>
      have e1 := Go.Lib.hid (fun w' (hb : Below w.heap.size w w') => remove_b l HOK.out (sml_nms HT.out) A n c HN.out q1 i HI.out hz w' (HA.out.below hb))
      have HW := Go.Lib.hid (chkI_bad hz)
      clear hz
      generalize chkI l i = E at *
      generalize chkA l = E' at *
      generalize fnd (isId i) l = F at *
      rcases HW.out with ⟨h1, rfl⟩ | ⟨rfl, h2, rfl⟩
      · have g1 : (E == 0) = false := by simpa using h1
        have g2 : (E != 0) = true := by simpa using h1
        have eE : (E == E) = true := by simp
        clear h1
        have cc := e1.out w2 K2.out
        go_wp2_with fail
        (with_reducible refine cc.mono ?_)
        rintro e w3 ⟨rfl, k3⟩
        have K3 := Go.Lib.hid (K2.out.trans (k3.mono s2))
        have s3 := K3.out.size
        clear cc k3
        have cc := e3.out w3 K3.out
        go_wp2_with fail
        (with_reducible refine cc.mono ?_)
        rintro e w4 ⟨rfl, k4⟩
        have K4 := Go.Lib.hid (K3.out.trans (k4.mono s3))
        have s4 := K4.out.size
        clear cc k4
        go_wp2
        go_ret
        exact ⟨by simp, K4.out⟩
      · have cc := e1.out w2 K2.out
        go_wp2_with fail
        (with_reducible refine cc.mono ?_)
        rintro e w3 ⟨rfl, k3⟩
        have K3 := Go.Lib.hid (K2.out.trans (k3.mono s2))
        have s3 := K3.out.size
        clear cc k3
        have cc := e3.out w3 K3.out
        go_wp2_with fail
        (with_reducible refine cc.mono ?_)
        rintro e w4 ⟨rfl, k4⟩
        have K4 := Go.Lib.hid (K3.out.trans (k4.mono s3))
        have s4 := K4.out.size
        clear cc k4
        have cc := e4.out w4 K4.out
        go_wp2_with fail
        (with_reducible refine cc.mono ?_)
        rintro e w5 ⟨rfl, k5⟩
        have K5 := Go.Lib.hid (K4.out.trans (k5.mono s4))
        have s5 := K5.out.size
        clear cc k5
        go_wp2
        go_ret
        exact ⟨by simp, K5.out⟩
    obtain ⟨hG, k, hp⟩ := chkI_good hz
    obtain ⟨hk, hkid⟩ := plc_lt hp
    clear hkid
    obtain ⟨m, hm⟩ : ∃ m, n = m + 1 := ⟨n - 1, by have := HN.out; omega⟩
    have HG := Go.Lib.hid hG
    have HP := Go.Lib.hid hp
    have HKL := Go.Lib.hid hk
    have HMG := Go.Lib.hid (rem_good hG hk hp)
    have HML := Go.Lib.hid (show (remL l i k).length = m by rw [remL_len hk]; have := HN.out; omega)
    have hm24 : m ≤ 1000 := by omega
    have HMOK := Go.Lib.hid (show LsOk (remL l i k) from fun x hx => by
      obtain ⟨q, hq, rfl⟩ := List.mem_iff_getElem.1 hx
      obtain ⟨hix, e⟩ := remL_get (i := i) hk hq
      rw [e]
      obtain ⟨a1, a2, a3, a4⟩ := HOK.out _ (List.getElem_mem hix)
      obtain ⟨b1, b2, b3, b4⟩ := HOK.out _ (List.getElem_mem hk)
      refine ⟨a1, a2, ?_, ?_⟩
      · show I64 (if l[ix k q].base = i then l[k].base else l[ix k q].base)
        split
        · exact b3
        · exact a3
      · show I64 (if l[ix k q].next = i then 0 else l[ix k q].next)
        split
        · unfold I64; omega
        · exact a4)
    have HMNM := Go.Lib.hid (show NmsOk (remL l i k) from fun x hx => by
      obtain ⟨q, hq, rfl⟩ := List.mem_iff_getElem.1 hx
      obtain ⟨hix, e⟩ := remL_get (i := i) hk hq
      rw [e]
      exact (sml_nms HT.out l[ix k q] (List.getElem_mem hix) : l[ix k q].name.size ≤ 1000000))
    have e1 := Go.Lib.hid (fun w' (hb : Below w.heap.size w w') => remove_g l HOK.out (sml_nms HT.out) (sml_prs HT.out) A n c m HN.out hm q1 i HI.out hz k hp w' (HA.out.below hb))
    have e5 := Go.Lib.hid (fun w' (hb : Below w.heap.size w w') => rremove_any l HG.out A n c HN.out i k HP.out w' (HA.out.below hb))
    have HEI := Go.Lib.hid (fun q (hq : q < (remL l i k).length) => show (remL l i k)[q].id ≠ i ∧ (∃ p, plc l (remL l i k)[q].id = some p) ∧ plc (remL l i k) (remL l i k)[q].id = some q from by
      obtain ⟨hix, e⟩ := remL_get (i := i) HKL.out hq
      have hid : (remL l i k)[q].id ≠ i := by
        rw [e]
        intro e2
        have := HG.out.uni _ hix
        have e3 : l[ix k q].id = i := e2
        rw [e3, HP.out] at this
        exact ixk_ne k q (Option.some.inj this).symm
      have hu := rem_uni HG.out HKL.out HP.out q hq
      have hr := rem_plc HG.out HKL.out HP.out hid
      rw [hu] at hr
      exact ⟨hid, ⟨_, hr.symm⟩, hu⟩)
    rw [chkI_chkA hz] at e3
    rw [fnd_some hp] at e4
    have hrz : chkA (remL l i k) = 0 := chkA_good HMG.out
    clear hG hp hz hk hm
    have cc := e1.out w2 K2.out
    go_wp2_with fail
    (with_reducible refine cc.mono ?_)
    rintro e w3 ⟨⟨g, cb, L, rfl, hOS, hLM⟩, k3⟩
    have K3 := Go.Lib.hid (K2.out.trans (k3.mono s2))
    have s3 := K3.out.size
    clear cc k3
    have HLS := Go.Lib.hid (show LsAt w3 (some ⟨g, 0, none⟩) (remL l i k) by have h := hOS.ls; rw [hLM] at h; exact h)
    clear hOS hLM
    have cc := e3.out w3 K3.out
    go_wp2_with fail
    (with_reducible refine cc.mono ?_)
    rintro e w4 ⟨rfl, k4⟩
    have K4 := Go.Lib.hid (K3.out.trans (k4.mono s3))
    have s4 := K4.out.size
    have HLS := Go.Lib.hid (HLS.out.below k4)
    clear cc k4
    have cc := e4.out w4 K4.out
    go_wp2_with fail
    (with_reducible refine cc.mono ?_)
    rintro e w5 ⟨rfl, k5⟩
    have K5 := Go.Lib.hid (K4.out.trans (k5.mono s4))
    have s5 := K5.out.size
    have HLS := Go.Lib.hid (HLS.out.below k5)
    clear cc k5
    have cc := e5.out w5 K5.out
    go_wp2_with fail
    (with_reducible refine cc.mono ?_)
    rintro e w6 ⟨⟨B2, m2, cb2, hl2, rfl, hL2⟩, k6⟩
    have K6 := Go.Lib.hid (K5.out.trans (k6.mono s5))
    have s6 := K6.out.size
    have HLS := Go.Lib.hid (HLS.out.below k6)
    clear cc k6
    obtain rfl : m = m2 := by rw [← hl2]; exact HML.out.symm
    have HL2 := Go.Lib.hid hL2
    clear hL2 hl2
    have cq := requal_any (remL l i k) (remL l i k) m m HML.out HML.out hm24 hm24 (some ⟨g, 0, none⟩) B2 cb cb2 w6 HLS.out HL2.out
    rw [eqL_iff.2 rfl] at cq
    have cc := cq
    go_wp2_with fail
    (with_reducible refine cc.mono ?_)
    rintro e w7 ⟨rfl, k7⟩
    have K7 := Go.Lib.hid (K6.out.trans (k7.mono s6))
    have s7 := K7.out.size
    have HLS := Go.Lib.hid (HLS.out.below k7)
    clear cc k7
    clear cq
    have cq := Check_any (remL l i k) HMOK.out HMNM.out (some ⟨g, 0, none⟩) m cb HML.out hm24 w7 HLS.out
    rw [hrz] at cq
    have cc := cq
    go_wp2_with fail
    (with_reducible refine cc.mono ?_)
    rintro e w8 ⟨rfl, k8⟩
    have K8 := Go.Lib.hid (K7.out.trans (k8.mono s7))
    have s8 := K8.out.size
    have HLS := Go.Lib.hid (HLS.out.below k8)
    clear cc k8
    clear cq
    have bb := Below.refl w8.heap.size w8
    go_wp2_with fail
    go_loopw [8, 9, 10, 11, 12] (fun s8 _ _ _ _ wr => ∃ j : Nat, j ≤ m ∧ s8 = .int .i64 (j : Nat) ∧ Hid (Below w8.heap.size w8 wr)) (fun s8 _ _ _ _ _ => m - (RowKit.intOf s8).toNat)
    case atStart => exact ⟨0, Nat.zero_le _, rfl, Go.Lib.hid bb⟩
    case round =>
      clear bb
      obtain ⟨j, hj, rfl, HBK⟩ := hrel
      have t0 := HBK.out.size
      have KB := Go.Lib.hid (K8.out.trans (HBK.out.mono s8))
      have sB := KB.out.size
      by_cases hlt : j < m
      · have hjl : j < (remL l i k).length := by rw [HML.out]; exact hlt
        obtain ⟨hgl, z0'⟩ := HLS.out.id hjl
        have z0 := (HBK.out.cell (p := ⟨g, j * 6, none⟩) hgl).trans z0'
        obtain ⟨hni, ⟨p, hpl⟩, hpm⟩ := HEI.out j hjl
        have hib : I64 (remL l i k)[j].id := (HMOK.out _ (List.getElem_mem hjl)).1
        have hef := rem_effI HG.out HKL.out HP.out hni
        have cE1 := effg_any l HOK.out (sml_nms HT.out) (sml_prs HT.out) A n c HN.out q1 (remL l i k)[j].id hib (chkI_zero HG.out hpl) wr (HA.out.below KB.out)
        have cE2 := Go.Lib.hid (fun w' (hb : Below w8.heap.size w8 w') => effg_any (remL l i k) HMOK.out HMNM.out HMG.out.prs (some ⟨g, 0, none⟩) m cb HML.out hm24 (remL l i k)[j].id hib (chkI_zero HMG.out hpm) w' (HLS.out.below hb))
        rw [hef] at cE2
        have p0 : (0 : Int) ≤ (j : Int) := by omega
        have p1 : (j : Int) < (m : Int) := by omega
        have HZ0 := Go.Lib.hid z0'
        clear hni hpl hpm hib hef z0'
        generalize (remL l i k)[j].id = b at z0 cE1 cE2 HZ0
        generalize effI l b = eff at cE1 cE2
        clear hjl
        go_wp2_with fail
        (with_reducible refine cE1.mono ?_)
        rintro e u1 ⟨⟨D1, n1, c1, hl1, rfl, hr1⟩, g1⟩
        have B1 := Go.Lib.hid (HBK.out.trans (g1.mono t0))
        have r1 := B1.out.size
        have HR1 := Go.Lib.hid (row_prat hr1 hl1)
        have HL1 := Go.Lib.hid hl1
        have z1 := (B1.out.cell (p := ⟨g, j * 6, none⟩) hgl).trans HZ0.out
        have ce := cE2.out u1 B1.out
        clear cE1 g1 hr1 hl1 z0
        go_wp2_with fail
        (with_reducible refine ce.mono ?_)
        rintro e u2 ⟨⟨D2, n2, c2, hl2, rfl, hr2⟩, g2⟩
        have B2' := Go.Lib.hid (B1.out.trans (g2.mono r1))
        have r2 := B2'.out.size
        have HR1' := Go.Lib.hid (⟨HR1.out.1, HR1.out.2.1, HR1.out.2.2.below g2 (Nat.le_refl _)⟩ : _ ∧ _ ∧ _)
        have HR2 := Go.Lib.hid (row_prat hr2 hl2)
        have HL2' := Go.Lib.hid hl2
        have cq := eqprops_any D1 D2 n1 n2 c1 c2 eff eff HL1.out HL2'.out ⟨HR1'.out.1, HR1'.out.2.1⟩ ⟨HR2.out.1, HR2.out.2.1⟩ u2 HR1'.out.2.2 HR2.out.2.2
        rw [decide_eq_true rfl] at cq
        clear ce g2 hr2 hl2 z1
        go_wp2_with fail
        (with_reducible refine cq.mono ?_)
        rintro e u3 ⟨rfl, g3⟩
        have B3 := Go.Lib.hid (B2'.out.trans (g3.mono r2))
        clear cq g3
        go_wp2_with fail
        go_roundw
        case rel => exact ⟨j + 1, by omega, by go_num, B3⟩
        case measure => simp [RowKit.intOf]; omega
      · obtain rfl : j = m := by omega
        clear hlt
        go_wp2
        go_ret
        exact ⟨by simp, KB.out⟩
end Go.Proofs.Ytbkpokipibgdfaa
