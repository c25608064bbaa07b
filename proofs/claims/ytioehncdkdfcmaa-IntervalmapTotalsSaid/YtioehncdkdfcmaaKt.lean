/- Layer 5: the law Totals. -/
import Derived.Test.YtioehncdkdfcmaaT1
import Derived.Test.YtioehncdkdfcmaaT2
import Derived.Test.YtioehncdkdfcmaaP4
namespace Go.Proofs.Ytioehncdkdfcmaa
open Go.RowKit Go.Lib Im Go.Maps

set_option maxRecDepth 100000 in
set_option maxHeartbeats 32000000 in
theorem law_totals (v : Value) (L : Nat) (V : Int) (A : Option Addr) (n c : Nat) (ops : List Opr) (p q : Int) (x : Int) (w : World) (h : PlayInW w v L V A n c ops) (_ : (Lit.int .i64 p).wf = true ∧ (Lit.int .i64 q).wf = true) :
    Calls Try.prog 6 #[v, .agg #[.int .i64 p, .int .i64 q], .int .i64 x] w (BoolB true w) := by
  obtain rfl := h.pl.eq
  obtain ⟨w0, hw0⟩ : ∃ w0, w0 = (w.alloc (.cells #[.int .u8 L, .int .i64 V, .slice A n c] 24)).alloc (.cells #[.int .i64 p, .int .i64 q] 51) := ⟨_, rfl⟩
  have hb0 : Below w.heap.size w w0 := by rw [hw0]; exact ((Below.refl _ w).alloc (Nat.le_refl _) _).alloc (by simp) _
  have ob1 : ObjAt w0 w.heap.size #[.int .u8 L, .int .i64 V, .slice A n c] 24 := by rw [hw0]; exact (ObjAt.new w _ 24).alloc _
  have ob2 : ObjAt w0 (w.heap.size + 1) #[.int .i64 p, .int .i64 q] 51 := by
    rw [hw0]
    have := ObjAt.new (w.alloc (.cells #[.int .u8 L, .int .i64 V, .slice A n c] 24)) #[.int .i64 p, .int .i64 q] 51
    rwa [World.size_alloc] at this
  have cP : Calls Try.prog 12 #[.agg #[.int .u8 L, .int .i64 V, .slice A n c]] w0 (PlayW w0) := play_anyW L V A n c ops h.pl.hL h.pl.hn w0 (h.pl.at_.below hb0) h.pl.bd h.pl.hm h.hV h.hO
  have o0 := ob1.b0
  have o1 := ob1.b1
  have o2 := ob1.b2
  have HO2 := Go.Lib.hid ob2
  have HB0 := Go.Lib.hid hb0
  clear ob1 ob2 h hb0
  rw [hw0] at o0 o1 o2
  go_enter Try.func6, Try.ntmps6
  go_wp2_with fail
  rw [← hw0]
  clear o0 o1 o2
  clear hw0
  (with_reducible refine cP.mono ?_)
  rintro e w1 ⟨b, A1, m, c1, l, rfl, hP, hm, hAl⟩
  have HP := Go.Lib.hid hP
  have HAL := Go.Lib.hid hAl
  clear hP cP hAl
  go_wp2_with fail
  (with_reducible refine (known_any _).mono ?_)
  rintro e w2 ⟨rfl, hb2⟩
  have HP2 := Go.Lib.hid (HP.out.below hb2)
  clear HP hb2
  have ob2 := HO2.out.below HP2.out.2.2.2
  have z0 := ob2.a0
  have z1 := ob2.a1
  have HLN := Go.Lib.hid HP2.out.2.2.1
  clear ob2
  go_wp2_with fail
  go_quiet (fail)
  have HP3 : Hid (PS w0 (w2.drewN nq) b A1 m c1 l l) := Go.Lib.hid (HP2.out.below (bdrew (Below.refl _ w2) nq))
  clear HP2 z0 z1
  generalize w2.drewN nq = w3 at HP3 ⊢
  obtain ⟨g3, hM3, _⟩ := HP3.out.1
  have cT := total_any b g3 l p q x w3 hM3 (by rw [HLN.out]; omega)
  unfold TotR at cT
  clear hM3
  have cR := fun w' => right_any m p q w'
  by_cases hok : 0 ≤ p ∧ p ≤ q ∧ q ≤ m
  · obtain ⟨f, rfl⟩ : ∃ f : Nat, p = f := ⟨p.toNat, by omega⟩
    obtain ⟨t, rfl⟩ : ∃ t : Nat, q = t := ⟨q.toNat, by omega⟩
    have hft : f ≤ t := by omega
    have htm : t ≤ m := by omega
    rw [show chkR l.length f t = 0 from if_pos (by rw [HLN.out]; exact hok), show cntL l f t x = ((seg l f t).count x : Nat) from if_pos (by rw [HLN.out]; exact hok)] at cT
    rw [decide_eq_true hok] at cR
    clear hok
    obtain ⟨S, hS⟩ : ∃ S, S = seg l f t := ⟨_, rfl⟩
    have hsg : seg l f t = (l.drop f).take (t - f) := by unfold seg; rw [Int.toNat_natCast, show ((t : Int) - (f : Int)).toNat = t - f by omega]
    have HSL : Hid (S.length = t - f) := Go.Lib.hid (by rw [hS, hsg, List.length_take, List.length_drop, HLN.out]; omega)
    have HSI : Hid (∀ k (h : k < S.length), ∃ h', S[k] = l[f + k]'h') := Go.Lib.hid (fun k hk => ⟨by have := HSL.out; rw [HLN.out]; omega, by simp only [hS, hsg, List.getElem_take, List.getElem_drop]⟩)
    have HS := Go.Lib.hid hS
    rw [← hS] at cT
    clear hS hsg
    go_wp2_with fail
    (with_reducible refine cT.mono ?_)
    rintro e w4 ⟨rfl, hb4⟩
    have HP4 := Go.Lib.hid (HP3.out.below hb4)
    clear hb4 cT HP3
    go_wp2_with fail
    (with_reducible refine (cR _).mono ?_)
    rintro e w5 ⟨rfl, rfl⟩
    clear cR
    have cU := rtotal_any A1 m c1 l HLN.out f t x w4 (own_lower HP4.out.2.1 (Nat.zero_le _)) hft htm (by omega)
    rw [← HS.out] at cU
    go_wp2_with fail
    (with_reducible refine cU.mono ?_)
    rintro e w5 ⟨rfl, hb5⟩
    have HP5 := Go.Lib.hid (HP4.out.below hb5)
    clear hb5 cU HP4
    obtain ⟨mm, hmm⟩ : ∃ mm, t - f = mm := ⟨_, rfl⟩
    have hmm1 : mm ≤ 1000 := by omega
    have hwtf : IntKind.i64.wrap ((t : Int) - (f : Int)) = (mm : Int) := by rw [IntKind.wrap_i64]; omega
    have hmk := @run_makeMap Try.prog
    go_wp2_with fail
    clear hmk
    go_loopw [15, 16] (fun sv iv wr => ∃ k s : Nat, f + k ≤ t ∧ iv = .int .i64 ((f + k : Nat) : Int) ∧ sv = .int .i64 (s : Nat) ∧ Hid (cov S (S.take k) = s) ∧ Hid (SeenAt wr w5.heap.size k (fun z => decide (z ∈ S.take k))) ∧ Hid (Below w5.heap.size w5 wr)) (fun _ iv _ => t - (RowKit.intOf iv).toNat)
    case atStart => exact ⟨0, 0, by omega, by rw [Nat.add_zero], rfl, Go.Lib.hid (cov_nil S), Go.Lib.hid (seen_congr (seen_new w5) (fun z => by simp)), Go.Lib.hid ((Below.refl _ w5).alloc (Nat.le_refl _) _)⟩
    case round =>
      obtain ⟨k, s, hk, rfl, rfl, HCV, HSE, HBR⟩ := hrel
      by_cases hlt : f + k < t
      · obtain ⟨gA, rfl, hgA, hcA⟩ := own_list HP5.out.2.1 HLN.out (k := f + k) (by omega)
        have c0 := (HBR.out.cell (p := ⟨gA, f + k, none⟩) hgA).trans hcA
        have hkS : k < S.length := by rw [HSL.out]; omega
        obtain ⟨hkl, hsk⟩ := HSI.out k hkS
        have HTK := Go.Lib.hid (List.take_succ_eq_append_getElem hkS)
        rw [hsk] at HTK
        have HIA := Go.Lib.hid (HAL.out _ (List.getElem_mem hkl))
        have HG := Go.Lib.hid hgA
        clear hcA hsk hgA
        generalize l[f + k]'hkl = a at c0 HTK HIA
        have q0 : (0 : Int) ≤ (f : Int) + (k : Int) := by omega
        have q1 : (f : Int) + (k : Int) < (m : Int) := by omega
        have hlk := seen_look HSE.out HIA.out
        have hcl := cov_le S (S.take (k + 1))
        by_cases ha : a ∈ S.take k
        · have hd : decide (a ∈ S.take k) = true := decide_eq_true ha
          rw [hd] at hlk
          have HN1 : Hid (cov S (S.take (k + 1)) = s) := Go.Lib.hid (by rw [HTK.out, cov_old ha, HCV.out])
          have HN2 : Hid (SeenAt wr w5.heap.size (k + 1) (fun z => decide (z ∈ S.take (k + 1)))) := Go.Lib.hid (seen_mono (seen_congr HSE.out (fun z => by
            rw [HTK.out]
            apply decide_eq_decide.2
            rw [List.mem_append, List.mem_singleton]
            constructor
            · exact .inl
            · rintro (h | rfl)
              · exact h
              · exact ha)) (by omega))
          clear hd ha hcl
          go_wp2
          go_roundw
          case rel => exact ⟨k + 1, s, by omega, by go_num, rfl, HN1, HN2, HBR⟩
          case measure => simp [RowKit.intOf]; omega
        · have hd : decide (a ∈ S.take k) = false := decide_eq_false ha
          rw [hd] at hlk
          have hcn : cov S (S.take (k + 1)) = s + S.count a := by rw [HTK.out, cov_new ha, HCV.out]
          have hsb : s + S.count a ≤ 1000 := by rw [← hcn]; have := HSL.out; omega
          have HN1 := Go.Lib.hid hcn
          have HNA := Go.Lib.hid ha
          obtain ⟨D, hD, hDf⟩ := HSE.out
          have HDF := Go.Lib.hid hDf
          have HDM := Go.Lib.hid hD.isMap
          have hkey := key_i HIA.out
          have hval : plainElem (H := Unit) Try.prog 4 (.bool true) = some (.lit (.bool true), []) := plainElem_bool Try.underlying4 true
          have hgM : gA ≠ w5.heap.size := by have := HG.out; omega
          clear hd ha hcl hcn hDf hkl hkS
          go_wp2_with (at_mapUpdate; refine wpList_mapUpdate_own _ rfl _ _ _ 55 rfl 3 4 (int_keyed Try.underlying3) Try.underlying55 (plainElem Try.prog 4) w5.heap.size k D rfl hD (by unfold maxLen; omega) _ _ (.int .i64 a) rfl rfl hkey (.lit (.bool true)) [] hval ?_; intro w6 hown6 hgrow6; have c06 : w6.cell? ⟨gA, f + k, none⟩ = some (.int .i64 a) := hgrow6.cell c0 (fun e => hgM (by simpa using e)))
          have HB6 : Hid (Below w5.heap.size w5 w6) := Go.Lib.hid (HBR.out.grown hgrow6 HBR.out.size (fun j e => by simp at e; omega))
          have HP6 := Go.Lib.hid (HP5.out.below HB6.out)
          have HS6 : Hid (SeenAt w6 w5.heap.size (k + 1) (fun z => decide (z ∈ S.take (k + 1)))) := Go.Lib.hid (seen_congr (seen_put HDF.out HDM.out HIA.out hown6) (fun z => by
            rw [HTK.out]
            by_cases e : z = a
            · rw [if_pos e, eq_comm, decide_eq_true_eq, List.mem_append, List.mem_singleton]
              exact .inr e
            · rw [if_neg e]
              apply decide_eq_decide.2
              rw [List.mem_append, List.mem_singleton]
              exact ⟨.inl, fun h => h.resolve_right e⟩))
          clear hown6 hgrow6 c06 hD hkey hval hlk c0
          obtain ⟨g6, hM6, _⟩ := HP6.out.1
          have cT := total_any b g6 l f t a w6 hM6 (by rw [HLN.out]; omega)
          unfold TotR at cT
          rw [show chkR l.length f t = 0 from if_pos (by rw [HLN.out]; omega), show cntL l f t a = ((seg l f t).count a : Nat) from if_pos (by rw [HLN.out]; omega), ← HS.out] at cT
          clear hM6
          generalize S.count a = cn at cT HN1 hsb
          have hws : IntKind.i64.wrap ((s : Int) + (cn : Int)) = ((s + cn : Nat) : Int) := by rw [IntKind.wrap_i64]; omega
          go_wp2_with fail
          (with_reducible refine cT.mono ?_)
          rintro e w7 ⟨rfl, hb7⟩
          have HB7 : Hid (Below w5.heap.size w5 w7) := Go.Lib.hid (HB6.out.trans (hb7.mono HB6.out.size))
          have HS7 := Go.Lib.hid (seen_below HS6.out hb7)
          clear hb7 cT HS6 HB6 HP6
          go_wp2
          go_roundw
          case rel => exact ⟨k + 1, s + cn, by omega, by go_num, by go_num, HN1, HS7, HB7⟩
          case measure => simp [RowKit.intOf]; omega
      · have hke : k = mm := by omega
        have hsm : s = mm := by
          have h1 := HCV.out
          rw [List.take_of_length_le (by rw [HSL.out]; omega), cov_all, HSL.out] at h1
          omega
        subst hsm
        clear hke
        go_wp2
        go_ret
        exact ⟨by simp, HB0.out.trans (HP5.out.2.2.2.mono HB0.out.size |>.trans (HBR.out.mono (Nat.le_trans HB0.out.size HP5.out.2.2.2.size)))⟩
  · rw [show chkR l.length p q = 2 from if_neg (by rw [HLN.out]; exact hok), show cntL l p q x = 0 from if_neg (by rw [HLN.out]; exact hok)] at cT
    rw [decide_eq_false hok] at cR
    clear hok
    go_wp2_with fail
    (with_reducible refine cT.mono ?_)
    rintro e w4 ⟨rfl, hb4⟩
    have HP4 := Go.Lib.hid (HP3.out.below hb4)
    clear hb4 cT HP3
    go_wp2_with fail
    (with_reducible refine (cR _).mono ?_)
    rintro e w5 ⟨rfl, rfl⟩
    clear cR
    go_wp2
    go_ret
    exact ⟨by simp, HB0.out.trans (HP4.out.2.2.2.mono HB0.out.size)⟩
end Go.Proofs.Ytioehncdkdfcmaa
