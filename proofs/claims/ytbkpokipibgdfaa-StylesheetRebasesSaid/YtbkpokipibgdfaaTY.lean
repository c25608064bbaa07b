/- Layer 8: the law of overriding (9). -/
import Derived.Test.YtbkpokipibgdfaaTX
import Derived.Test.YtbkpokipibgdfaaTW
namespace Go.Proofs.Ytbkpokipibgdfaa
open Go.RowKit Go.Lib
set_option linter.unusedVariables false

theorem TxtAll (l : List St) (hok : LsOk l) (hnm : NmsOk l) (hps : PrsOk l) (A : Option Addr) (m d : Nat) (hm : l.length = m) (hs : m ≤ 1000) (pl ol : List Pr) (C D : Option Addr) (n1 c1 n2 c2 : Nat) (hn1 : pl.length = n1) (hn2 : ol.length = n2) (hc1 : n1 ≤ c1 ∧ c1 ≤ maxLen) (hc2 : n2 ≤ c2 ∧ c2 ≤ maxLen) (h1 : n1 ≤ 1000) (h2 : n2 ≤ 1000)
    (hp1 : ∀ y ∈ pl, I64 y.1 ∧ I64 y.2) (hp2 : ∀ y ∈ ol, I64 y.1 ∧ I64 y.2) (w : World) (hA : LsAt w A l) (hC : PrAt w C pl) (hD : PrAt w D ol) :
    Calls Try.prog 31 #[.slice A m d, .slice C n1 c1, .slice D n2 c2] w fun e w' => ((∃ E B cb, E ≠ 0 ∧ e = .returned (.tuple #[.slice B 0 cb, .int .i64 E])) ∨ ∃ B k cb, Good l ∧ chkA l = 0 ∧ txtE l pl ol = 0 ∧ (txtL l pl ol).length = k ∧ e = .returned (.tuple #[.slice B k cb, .int .i64 0]) ∧ w'.ownsRow w.heap.size 55 2 (.slice B k cb) k (rowP (txtL l pl ol))) ∧ Below w.heap.size w w' := by
  by_cases h0 : chkA l = 0
  case neg =>
    refine (text_e1 l hok hnm hps A m d hm hs pl ol C D n1 c1 n2 c2 hn1 hn2 hc1 hc2 h1 h2 hp1 hp2 h0 w hA hC hD).mono ?_
    rintro e w' ⟨rfl, k⟩
    exact ⟨.inl ⟨_, _, _, h0, rfl⟩, k⟩
  refine (Text_any l hok hnm hps A m d hm hs pl ol C D n1 c1 n2 c2 hn1 hn2 hc1 hc2 h1 h2 hp1 hp2 h0 w hA hC hD).mono ?_
  rintro e w' ⟨⟨B, k, cb, hl, rfl, hr⟩, hb⟩
  by_cases h3 : txtE l pl ol = 0
  · rw [h3]
    exact ⟨.inr ⟨B, k, cb, good_of h0, h0, rfl, hl, rfl, hr⟩, hb⟩
  · have e0 : txtL l pl ol = [] := by unfold txtL; rw [if_pos h3]
    rw [e0] at hl
    have hk : k = 0 := hl.symm
    subst hk
    exact ⟨.inl ⟨_, _, _, h3, rfl⟩, hb⟩
set_option maxRecDepth 100000 in
set_option maxHeartbeats 16000000 in
theorem law_overrides (A : Option Addr) (n c : Nat) (l : List St) (hn : l.length = n) (hc : n ≤ c ∧ c ≤ maxLen) (hin : ∀ x ∈ l, StIn x) (C : Option Addr) (n1 c1 : Nat) (pl : List Pr) (hn1 : pl.length = n1) (hc1 : n1 ≤ c1 ∧ c1 ≤ maxLen) (hp1 : ∀ y ∈ pl, I64 y.1 ∧ I64 y.2) (D : Option Addr) (n2 c2 : Nat) (ol : List Pr) (hn2 : ol.length = n2) (hc2 : n2 ≤ c2 ∧ c2 ≤ maxLen) (hp2 : ∀ y ∈ ol, I64 y.1 ∧ I64 y.2) (w : World) (hA : LsAt w A l) (hC : PrAt w C pl) (hD : PrAt w D ol) :
    Calls Try.prog 9 #[.slice A n c, .slice C n1 c1, .slice D n2 c2] w (TrueW w) := by
  have cK := Go.Lib.hid (fun w' => known_any w')
  have cS := Go.Lib.hid (fun w' (hb : Below w.heap.size w w') => small_any l A n c hn hc w' (hA.below hb))
  have HA := Go.Lib.hid hA
  have HC := Go.Lib.hid hC
  have HD := Go.Lib.hid hD
  have HN := Go.Lib.hid hn
  have HN1 := Go.Lib.hid hn1
  have HN2 := Go.Lib.hid hn2
  have HC1 := Go.Lib.hid hc1
  have HC2 := Go.Lib.hid hc2
  have HP1 := Go.Lib.hid hp1
  have HP2 := Go.Lib.hid hp2
  have HOK := Go.Lib.hid (ls_ok hin)
  have m1 : n1 ≤ 9223372036854775807 := by have := hc1.1; have := hc1.2; unfold maxLen at this; omega
  have m2 : n2 ≤ 9223372036854775807 := by have := hc2.1; have := hc2.2; unfold maxLen at this; omega
  clear hA hC hD hn hn1 hn2 hc hc1 hc2 hin hp1 hp2
  have K0 := Go.Lib.hid (Below.refl w.heap.size w)
  have s0 := K0.out.size
  go_enter Try.func9, Try.ntmps9
  have cc := cK.out w
  go_wp2_with fail
  (with_reducible refine cc.mono ?_)
  rintro e w1 ⟨rfl, k1⟩
  have K1 := Go.Lib.hid (K0.out.trans (k1.mono s0))
  have s1 := K1.out.size
  clear cc k1
  have cc := cS.out w1 K1.out
  go_wp2_with fail
  (with_reducible refine cc.mono ?_)
  rintro e w2 ⟨⟨b, rfl, hb⟩, k2⟩
  have K2 := Go.Lib.hid (K1.out.trans (k2.mono s1))
  have s2 := K2.out.size
  clear cc k2
  cases b with
  | false =>
    clear hb
    have cc := cK.out w2
    go_wp2_with fail
    (with_reducible refine cc.mono ?_)
    rintro e w3 ⟨rfl, k3⟩
    have K3 := Go.Lib.hid (K2.out.trans (k3.mono s2))
    have s3 := K3.out.size
    clear cc k3
    go_wp2
    go_ret
    exact ⟨by simp, K3.out⟩
  | true =>
    have HT := Go.Lib.hid (hb rfl)
    clear hb
    by_cases q1 : n1 ≤ 50
    case neg =>
      have q1i : (50 : Int) < (n1 : Int) := by omega
      have cc := cK.out w2
      go_wp2_with fail
      (with_reducible refine cc.mono ?_)
      rintro e w3 ⟨rfl, k3⟩
      have K3 := Go.Lib.hid (K2.out.trans (k3.mono s2))
      have s3 := K3.out.size
      clear cc k3
      go_wp2
      go_ret
      exact ⟨by simp, K3.out⟩
    by_cases q2 : n2 ≤ 50
    case neg =>
      have q1i : ¬ (50 : Int) < (n1 : Int) := by omega
      have q2i : (50 : Int) < (n2 : Int) := by omega
      have cc := cK.out w2
      go_wp2_with fail
      (with_reducible refine cc.mono ?_)
      rintro e w3 ⟨rfl, k3⟩
      have K3 := Go.Lib.hid (K2.out.trans (k3.mono s2))
      have s3 := K3.out.size
      clear cc k3
      go_wp2
      go_ret
      exact ⟨by simp, K3.out⟩
    have q1i : ¬ (50 : Int) < (n1 : Int) := by omega
    have q2i : ¬ (50 : Int) < (n2 : Int) := by omega
    have q3 : n ≤ 1000 := by rw [← HN.out]; exact Nat.le_trans HT.out.1 (by omega)
    have e2 := Go.Lib.hid (fun w' (hb : Below w.heap.size w w') => TxtAll l HOK.out (sml_nms HT.out) (sml_prs HT.out) A n c HN.out q3 pl ol C D n1 c1 n2 c2 HN1.out HN2.out HC1.out HC2.out (by omega) (by omega) HP1.out HP2.out w' (HA.out.below hb) (HC.out.below hb (Nat.le_refl _)) (HD.out.below hb (Nat.le_refl _)))
    have cc := e2.out w2 K2.out
    go_wp2_with fail
    (with_reducible refine cc.mono ?_)
    rintro e w3 ⟨⟨E, B1, cb1, hE, rfl⟩ | ⟨B1, m3, cb1, hG, h0, hTE, hl, rfl, hr⟩, k3⟩
    · have e1 : (E != 0) = true := by simpa using hE
      have K3 := Go.Lib.hid (K2.out.trans (k3.mono s2))
      clear cc k3 hE
      go_wp2
      go_ret
      exact ⟨by simp, K3.out⟩
    have K3 := Go.Lib.hid (K2.out.trans (k3.mono s2))
    have s3 := K3.out.size
    have HG := Go.Lib.hid hG
    have H0 := Go.Lib.hid h0
    have HTE := Go.Lib.hid hTE
    have HRa := Go.Lib.hid (row_prat hr hl)
    have HLa := Go.Lib.hid hl
    have HOKs := Go.Lib.hid (txt_ok hTE)
    have HTL := Go.Lib.hid (show txtL l pl ol = keepP 1 (mergeL (effI l (idOf 1 pl)) (mergeL (effI l (idOf 2 ol)) ol)) by unfold txtL; rw [if_neg (by simp [hTE])])
    have HTI := Go.Lib.hid (show InT (txtL l pl ol) by rw [HTL.out]; exact keepP_in ((effI_in hG _).merge ((effI_in hG _).merge (chk_in (by omega) HOKs.out.2.1))) 1)
    have hm3 : m3 ≤ 45 := by rw [← hl]; exact HTI.out.len
    have HTH := Go.Lib.hid (fun (y : Pr) (hy : y ∈ ol) => show getB (txtL l pl ol) y.1 = true ∧ getV (txtL l pl ol) y.1 = y.2 by
      have h := own_there (l := l) HOKs.out.2.1 (effI_in hG (idOf 1 pl)) (effI_in hG (idOf 2 ol)) hy
      rw [← HTL.out] at h
      rw [look_getB, look_getV, h]
      exact ⟨rfl, rfl⟩)
    have CG := Go.Lib.hid (fun p w' (hb : Below w3.heap.size w3 w') => rget' B1 m3 cb1 (txtL l pl ol) HLa.out ⟨HRa.out.1, HRa.out.2.1⟩ p w' (HRa.out.2.2.below hb (Nat.le_refl _)))
    clear cc k3 hG h0 hTE hl hr
    have bb := Below.refl w3.heap.size w3
    go_wp2_with fail
    go_loopw [9, 10, 11] (fun s9 _ _ wr => ∃ j : Nat, j ≤ n2 ∧ s9 = .int .i64 (j : Nat) ∧ Hid (Below w3.heap.size w3 wr)) (fun s9 _ _ _ => n2 - (intOf s9).toNat)
    case atStart => exact ⟨0, Nat.zero_le _, rfl, Go.Lib.hid bb⟩
    case round =>
      clear bb
      obtain ⟨j, hj, rfl, HBK⟩ := hrel
      have t3 := HBK.out.size
      by_cases hlt : j < n2
      · have hjl : j < ol.length := by rw [HN2.out]; exact hlt
        obtain ⟨g, oo, rfl, hg, hcl⟩ : ∃ g o, D = some ⟨g, o, none⟩ ∧ g < w.heap.size ∧ ∀ k (h : k < ol.length), w.cell? ⟨g, o + k * 2, none⟩ = some (.int .i64 ol[k].1) ∧ w.cell? ⟨g, o + k * 2 + 1, none⟩ = some (.int .i64 ol[k].2) := by
          rcases HD.out with h | h
          · rw [h] at hjl; exact absurd hjl (Nat.not_lt_zero _)
          · exact h
        obtain ⟨c0, c1⟩ := hcl j hjl
        have KB := Go.Lib.hid (K3.out.trans (HBK.out.mono s3))
        have C1' := Go.Lib.hid c1
        have z0 := (KB.out.cell (p := ⟨g, oo + j * 2, none⟩) hg).trans c0
        obtain ⟨hb1, hb2⟩ := HTH.out _ (List.getElem_mem hjl)
        have cc := CG.out ol[j].1 wr HBK.out
        rw [hb1, hb2] at cc
        clear hcl c0 c1 hb1 hb2
        generalize ol[j].1 = y1 at z0 cc
        generalize ol[j].2 = y2 at C1' cc
        have p0 : (0 : Int) ≤ (j : Int) := by omega
        have p1 : (j : Int) < (n2 : Int) := by omega
        have hyy : (y2 != y2) = false := by simp
        clear hjl
        go_wp2_with fail
        (with_reducible refine cc.mono ?_)
        rintro e w5 ⟨rfl, k5⟩
        have K5 := Go.Lib.hid (HBK.out.trans (k5.mono t3))
        have KB5 := Go.Lib.hid (K3.out.trans (K5.out.mono s3))
        have z1 := (KB5.out.cell (p := ⟨g, oo + j * 2 + 1, none⟩) hg).trans C1'.out
        clear cc k5
        go_wp2_with fail
        go_roundw
        case rel => exact ⟨j + 1, by omega, by go_num, K5⟩
        case measure => simp [intOf]; omega
      · obtain rfl : j = n2 := by omega
        clear hlt
        go_wp2_with fail
        go_loopw [12, 13, 14, 15, 16, 17] (fun s12 _ _ _ _ _ w5 => ∃ κ : Nat, 2 ≤ κ ∧ κ ≤ 11 ∧ s12 = .int .i64 (κ : Nat) ∧ Hid (Below w3.heap.size w3 w5)) (fun s12 _ _ _ _ _ _ => 12 - (intOf s12).toNat)
        case atStart => exact ⟨2, by omega, by omega, rfl, HBK⟩
        case round =>
          clear t3 HBK
          obtain ⟨κ, hκ2, hκ, rfl, HBK⟩ := hrel
          have t3 := HBK.out.size
          have KB := Go.Lib.hid (K3.out.trans (HBK.out.mono s3))
          have sB := KB.out.size
          by_cases hlt : κ < 11
          · have f0 : (κ : Int) ≤ 10 := by omega
            have hVI := Go.Lib.hid (one_in (k := (κ : Int)) (v := (rowZ (κ : Int)).2.2.2.2.1) (key_ok κ hlt hκ2).2.2.2)
            have HNX := Go.Lib.hid (next_txt HG.out HTE.out (pl := pl) (ol := ol) hlt hκ2)
            have HNC := Go.Lib.hid (next_chk HOKs.out.2.1 hlt hκ2)
            have cO := of_anyB (κ : Int) wr
            generalize rowZ (κ : Int) = r at cO hVI HNX HNC
            obtain ⟨r1, r2, r3, r4, r5, r6⟩ := r
            dsimp only at cO hVI HNX HNC
            go_wp2_with fail
            (with_reducible refine cO.mono ?_)
            rintro e w6 ⟨⟨bo, rfl⟩, k6⟩
            have K6 := Go.Lib.hid (KB.out.trans (k6.mono sB))
            have s6 := K6.out.size
            have B6 := Go.Lib.hid (HBK.out.trans (k6.mono t3))
            have s6b := B6.out.size
            have KA := Go.Lib.hid ((K6.out.alloc s6 (.cells #[.int .i64 r1, .int .i64 r3, .int .i64 r4, .int .i64 r5, .int .i64 r6, .string r2] 57)).alloc (by simp; omega) (.cells #[.int .i64 κ, .int .i64 r5] 55))
            have BA := Go.Lib.hid ((B6.out.alloc s6b (.cells #[.int .i64 r1, .int .i64 r3, .int .i64 r4, .int .i64 r5, .int .i64 r6, .string r2] 57)).alloc (by simp; omega) (.cells #[.int .i64 κ, .int .i64 r5] 55))
            have OK6 := Go.Lib.hid ((ObjAt.new w6 #[.int .i64 r1, .int .i64 r3, .int .i64 r4, .int .i64 r5, .int .i64 r6, .string r2] 57).alloc (.cells #[.int .i64 κ, .int .i64 r5] 55))
            have hO7 := ObjAt.new (w6.alloc (.cells #[.int .i64 r1, .int .i64 r3, .int .i64 r4, .int .i64 r5, .int .i64 r6, .string r2] 57)) #[.int .i64 κ, .int .i64 r5] 55
            rw [World.size_alloc] at hO7
            have HPK := Go.Lib.hid (pr_of (l := [((κ : Int), r5)]) hO7)
            have sA := KA.out.size
            have sAb := BA.out.size
            have cM := rmergeL_any ol [((κ : Int), r5)] (chk_in (by omega) HOKs.out.2.1) hVI.out j 1 HN2.out rfl D (some ⟨w6.heap.size + 1, 0, none⟩) c2 1 HC2.out ⟨Nat.le_refl _, by decide⟩ _ (HD.out.below KA.out (Nat.le_refl _)) HPK.out
            clear cO k6 hO7
            go_wp2_with fail
            (with_reducible refine cM.mono ?_)
            rintro e w7 ⟨⟨B7, m7, cb7, hl, rfl, hr⟩, k7⟩
            have K7 := Go.Lib.hid (KA.out.trans (k7.mono sA))
            have s7 := K7.out.size
            have B7' := Go.Lib.hid (BA.out.trans (k7.mono sAb))
            have s7b := B7'.out.size
            have HR7 := Go.Lib.hid (row_prat hr hl)
            have OK7 := Go.Lib.hid (OK6.out.below k7)
            have hm7 : m7 ≤ 45 := by rw [← hl]; exact ((chk_in (by omega) HOKs.out.2.1).merge hVI.out).len
            have HL7 := Go.Lib.hid hl
            clear cM k7 hl hr
            have cT := Text_any l HOK.out (sml_nms HT.out) (sml_prs HT.out) A n c HN.out q3 pl (mergeL ol [((κ : Int), r5)]) C B7 n1 c1 m7 cb7 HN1.out HL7.out HC1.out ⟨HR7.out.1, HR7.out.2.1⟩ (by omega) (by omega) HP1.out (chk_i64 (by omega) HNC.out) H0.out w7 (HA.out.below K7.out) (HC.out.below K7.out (Nat.le_refl _)) HR7.out.2.2
            rw [HNX.out.1, HNX.out.2] at cT
            go_wp2_with fail
            (with_reducible refine cT.mono ?_)
            rintro e w8 ⟨⟨B8, m8, cb8, hl, rfl, hr⟩, k8⟩
            have K8 := Go.Lib.hid (K7.out.trans (k8.mono s7))
            have s8 := K8.out.size
            have B8' := Go.Lib.hid (B7'.out.trans (k8.mono s7b))
            have s8b := B8'.out.size
            have HR8 := Go.Lib.hid (row_prat hr hl)
            have HL8 := Go.Lib.hid hl
            have OK8 := Go.Lib.hid (OK7.out.below k8)
            have y3 := OK8.out.s3
            clear cT k8 hl hr
            have KC := Go.Lib.hid (K8.out.alloc s8 (.cells #[.int .i64 κ, .int .i64 r5] 55))
            have BC := Go.Lib.hid (B8'.out.alloc s8b (.cells #[.int .i64 κ, .int .i64 r5] 55))
            have HPK2 := Go.Lib.hid (pr_of (l := [((κ : Int), r5)]) (ObjAt.new w8 #[.int .i64 κ, .int .i64 r5] 55))
            have sC := KC.out.size
            have sCb := BC.out.size
            have kn8 := Go.Lib.hid ((Below.refl w8.heap.size w8).alloc (Nat.le_refl _) (.cells #[.int .i64 κ, .int .i64 r5] 55))
            have cM2 := rmergeL_any (txtL l pl ol) [((κ : Int), r5)] HTI.out hVI.out m3 1 HLa.out rfl B1 (some ⟨w8.heap.size, 0, none⟩) cb1 1 ⟨HRa.out.1, HRa.out.2.1⟩ ⟨Nat.le_refl _, by decide⟩ _ (HRa.out.2.2.below BC.out (Nat.le_refl _)) HPK2.out
            go_wp2_with fail
            (with_reducible refine cM2.mono ?_)
            rintro e w9 ⟨⟨B9, m9, cb9, hl, rfl, hr⟩, k9⟩
            have K9 := Go.Lib.hid (KC.out.trans (k9.mono sC))
            have s9 := K9.out.size
            have B9' := Go.Lib.hid (BC.out.trans (k9.mono sCb))
            have s9b := B9'.out.size
            have HR9 := Go.Lib.hid (row_prat hr hl)
            have HR8' := Go.Lib.hid ((HR8.out.2.2.below kn8.out (Nat.le_refl _)).below k9 (Nat.le_refl _))
            have cE := eqprops_any B8 B9 m8 m9 cb8 cb9 (mergeL (txtL l pl ol) [((κ : Int), r5)]) (mergeL (txtL l pl ol) [((κ : Int), r5)]) HL8.out hl ⟨HR8.out.1, HR8.out.2.1⟩ ⟨HR9.out.1, HR9.out.2.1⟩ w9 HR8'.out HR9.out.2.2
            rw [decide_eq_true rfl] at cE
            clear cM2 k9 hl hr y3
            go_wp2_with fail
            (with_reducible refine cE.mono ?_)
            rintro e w10 ⟨rfl, k10⟩
            have B10 := Go.Lib.hid (B9'.out.trans (k10.mono s9b))
            clear cE k10
            go_wp2_with fail
            go_roundw
            case rel => exact ⟨κ + 1, by omega, by omega, by go_num, B10⟩
            case measure => simp [intOf]; omega
          · obtain rfl : κ = 11 := by omega
            have f0 : ¬ ((11 : Nat) : Int) ≤ 10 := by omega
            go_wp2
            go_ret
            exact ⟨by simp, KB.out⟩
end Go.Proofs.Ytbkpokipibgdfaa
