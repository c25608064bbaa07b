/- Layer 23: check. -/
import Derived.Test.YtjhppkjngifibaaEY
import Derived.Test.YtjhppkjngifibaaFA
namespace Go.Proofs.Ytjhppkjngifibaa
open Go.RowKit Go.Lib
set_option linter.unusedVariables false

attribute [local irreducible] wpQuiet in
set_option maxRecDepth 100000 in
set_option maxHeartbeats 16000000 in
theorem check_any (la lr : List Int) (na nb ca cb : Nat) (A B : Option Addr) (w : World) (hA : NsAt w A la) (hB : NsAt w B lr) (hna : la.length = na) (hnb : lr.length = nb) (h1000 : na ≤ 1000) (h1001 : nb ≤ 1000) :
    Calls Try.prog 45 #[.agg #[.slice A na ca, .slice B nb cb]] w fun e w' => e = .returned (.int .i64 (ckD la lr)) ∧ Below w.heap.size w w' := by
  have HA := Lib.hid hA
  have HB' := Lib.hid hB
  have HN1 := Lib.hid hna
  have HN2 := Lib.hid hnb
  clear hA hB hna hnb
  have b0 := ((Below.refl w.heap.size w).alloc (Nat.le_refl _) (.cells #[.slice A na ca, .slice B nb cb] 31)).alloc (by simp) (.cells #[.slice A na ca, .slice B nb cb] 29)
  have O1 := (ObjAt.new w #[.slice A na ca, .slice B nb cb] 31).alloc (.cells #[.slice A na ca, .slice B nb cb] 29)
  have O2 := ObjAt.new (w.alloc (.cells #[.slice A na ca, .slice B nb cb] 31)) #[.slice A na ca, .slice B nb cb] 29
  rw [World.size_alloc] at O2
  obtain ⟨b, hbb⟩ : ∃ b, w.heap.size = b := ⟨_, rfl⟩
  rw [hbb] at O1 O2
  have HB := Lib.hid b0
  have HX := Lib.hid O1
  have HL := Lib.hid O2
  have HBB := Lib.hid hbb
  clear b0 O1 O2
  go_enter Try.func45, Try.ntmps45
  go_upto_region 2 with fail
  clear hbb
  generalize (w.alloc (.cells #[.slice A na ca, .slice B nb cb] 31)).alloc (.cells #[.slice A na ca, .slice B nb cb] 29) = W1 at HB HX HL ⊢
  go_wp2_with fail
  go_loopw [4, 5, 6, 27, 40, 55] (fun s4 _ _ _ _ _ wr => ∃ k : Nat, k ≤ 2 ∧ s4 = .int .i64 (k : Nat) ∧ Hid (1 ≤ k → ckR la = 0) ∧ Hid (2 ≤ k → ckR lr = 0) ∧ Hid (Below w.heap.size w wr) ∧ Hid (ObjAt wr (b + 1) #[.slice A na ca, .slice B nb cb] 29) ∧ Hid (ObjAt wr b #[.slice A na ca, .slice B nb cb] 31)) (fun s4 _ _ _ _ _ _ => 2 - (RowKit.intOf s4).toNat)
  case atStart => exact ⟨0, Nat.zero_le _, rfl, Lib.hid (fun h => by omega), Lib.hid (fun h => by omega), HB, HL, HX⟩
  case round =>
    clear HB HX HL
    obtain ⟨k, hk, rfl, HZ1, HZ2, HB, HL, HX⟩ := hrel
    rcases (show k = 0 ∨ k = 1 ∨ k = 2 by omega) with rfl | rfl | rfl
    · have y0 := HL.out.get (k := 0) (v := .slice A na ca) rfl
      go_wp2_with fail
      clear y0
      go_loopw [6, 27, 40, 55] (fun s6 _ _ _ wr => ∃ i : Nat, i ≤ na ∧ s6 = .int .i64 (i : Nat) ∧ Hid (CkAt la i) ∧ Hid (Below w.heap.size w wr) ∧ Hid (ObjAt wr (b + 1) #[.slice A na ca, .slice B nb cb] 29) ∧ Hid (ObjAt wr b #[.slice A na ca, .slice B nb cb] 31)) (fun s6 _ _ _ _ => na - (RowKit.intOf s6).toNat)
      case atStart => exact ⟨0, Nat.zero_le _, rfl, Lib.hid rfl, HB, HL, HX⟩
      case round =>
        clear HB HL HX
        obtain ⟨i, hi, rfl, HM, HB, HL, HX⟩ := hrel
        by_cases hlt : i < na
        · have hil : i < la.length := by rw [HN1.out]; exact hlt
          obtain ⟨g, o, rfl, hg, hcl⟩ := HA.out.pos (by omega)
          have z0 := (HB.out.cell (p := ⟨g, o + i, none⟩) hg).trans (hcl i hil)
          have f0 : (0 : Int) ≤ (i : Int) := by omega
          have f1 : (i : Int) < (na : Int) := by omega
          have f1b : decide ((i : Int) < (na : Int)) = true := decide_eq_true f1
          have HD := Lib.hid (HM.out.trans (by rw [ck_drop hil]))
          have HS := Lib.hid (fun (h : ckR la = ckGo (some la[i]) (la.drop (i + 1))) => (h.trans (by rw [prv_succ hil]) : CkAt la (i + 1)))
          rcases Nat.eq_zero_or_pos i with h0 | h0
          · subst h0
            have HD2 := Lib.hid (show ckR la = ckGo none (la[0] :: la.drop (0 + 1)) from HD.out)
            rw [Nat.add_zero] at z0
            clear hcl HD
            generalize la[0] = v at z0 HS HD2
            by_cases h1 : v < 1
            · have b1 : decide (v < 1) = true := decide_eq_true h1
              have HE := Lib.hid (show ckD la lr = _ from (show ckD la lr = ckR la from if_pos (by rw [(HD2.out.trans (ckGo_low _ h1))]; decide)).trans (HD2.out.trans (ckGo_low _ h1)))
              clear HS HD2
              go_wp2_with fail
              go_ret
              exact ⟨by rw [HE.out]; rfl, by first | exact HB.out | exact bdrew HB.out _⟩
            · have b1 : decide (v < 1) = false := decide_eq_false h1
              by_cases h2 : 1073741824 < v
              · have b2 : decide (1073741824 < v) = true := decide_eq_true h2
                have HE := Lib.hid (show ckD la lr = _ from (show ckD la lr = ckR la from if_pos (by rw [(HD2.out.trans (ckGo_high _ h2))]; decide)).trans (HD2.out.trans (ckGo_high _ h2)))
                clear HS HD2
                go_wp2_with fail
                go_ret
                exact ⟨by rw [HE.out]; rfl, by first | exact HB.out | exact bdrew HB.out _⟩
              · have b2 : decide (1073741824 < v) = false := decide_eq_false h2
                have HE := Lib.hid (HS.out (HD2.out.trans (ckGo_none h1 h2)))
                clear HS HD2
                go_upto_region 11 with fail
                go_quiet (fail)
                go_upto_region 13 with fail
                go_quiet (fail)
                go_wp2_with fail
                go_roundw
                case rel => exact ⟨0 + 1, by omega, by go_num, HE, Lib.hid (bdrew HB.out _), HL, HX⟩
                case measure => simp [RowKit.intOf]; omega
          · obtain ⟨q, rfl⟩ : ∃ q, i = q + 1 := ⟨i - 1, by omega⟩
            have hql : q < la.length := by omega
            have z1 := (HB.out.cell (p := ⟨g, o + q, none⟩) hg).trans (hcl q hql)
            have g0 : (0 : Int) < (q : Int) + 1 := by omega
            have g0b : decide ((0 : Int) < (q : Int) + 1) = true := decide_eq_true g0
            have g1 : (0 : Int) ≤ (q : Int) := by omega
            have g2 : (q : Int) < (na : Int) := by omega
            have g3 : (q : Int) + 1 - 1 = (q : Int) := by omega
            have g4 : IntKind.i64.wrap ((q : Int) + 1 - 1) = (q : Int) := by rw [IntKind.wrap_i64]; omega
            have g5 : IntKind.i64.wrap (q : Int) = (q : Int) := by rw [IntKind.wrap_i64]; omega
            have HD2 := Lib.hid (show ckR la = ckGo (some la[q]) (la[q + 1] :: la.drop (q + 1 + 1)) from HD.out.trans (by rw [prv_succ hql]))
            clear hcl HD
            generalize la[q] = u at z1 HD2
            generalize la[q + 1] = v at z0 HS HD2
            by_cases h1 : v < 1
            · have b1 : decide (v < 1) = true := decide_eq_true h1
              have HE := Lib.hid (show ckD la lr = _ from (show ckD la lr = ckR la from if_pos (by rw [(HD2.out.trans (ckGo_low _ h1))]; decide)).trans (HD2.out.trans (ckGo_low _ h1)))
              clear HS HD2
              go_wp2_with fail
              go_ret
              exact ⟨by rw [HE.out]; rfl, by first | exact HB.out | exact bdrew HB.out _⟩
            · have b1 : decide (v < 1) = false := decide_eq_false h1
              by_cases h2 : 1073741824 < v
              · have b2 : decide (1073741824 < v) = true := decide_eq_true h2
                have HE := Lib.hid (show ckD la lr = _ from (show ckD la lr = ckR la from if_pos (by rw [(HD2.out.trans (ckGo_high _ h2))]; decide)).trans (HD2.out.trans (ckGo_high _ h2)))
                clear HS HD2
                go_wp2_with fail
                go_ret
                exact ⟨by rw [HE.out]; rfl, by first | exact HB.out | exact bdrew HB.out _⟩
              · have b2 : decide (1073741824 < v) = false := decide_eq_false h2
                by_cases h4 : v = u
                · have HE0 := Lib.hid (show ckR la = 7 from HD2.out.trans (by rw [← h4]; exact ckGo_dup h1 h2))
                  have b4 : (v == u) = true := by simpa using h4
                  clear h4
                  go_upto_region 11 with fail
                  go_quiet (fail)
                  have HE := Lib.hid (show ckD la lr = _ from (show ckD la lr = ckR la from if_pos (by rw [HE0.out]; decide)).trans HE0.out)
                  clear HS HD2
                  go_wp2_with fail
                  go_ret
                  exact ⟨by rw [HE.out]; rfl, by first | exact HB.out | exact bdrew HB.out _⟩
                · have b4 : (v == u) = false := neB h4
                  by_cases h3 : v < u
                  · have HE0 := Lib.hid (HD2.out.trans (ckGo_ord h1 h2 h3))
                    have b3 : decide (v < u) = true := decide_eq_true h3
                    clear h4
                    go_upto_region 11 with fail
                    go_quiet (fail)
                    have z0 := (show _ from z0)
                    go_upto_region 13 with fail
                    go_quiet (fail)
                    have HE := Lib.hid (show ckD la lr = _ from (show ckD la lr = ckR la from if_pos (by rw [HE0.out]; decide)).trans HE0.out)
                    clear HS HD2
                    go_wp2_with fail
                    go_ret
                    exact ⟨by rw [HE.out]; rfl, by first | exact HB.out | exact bdrew HB.out _⟩
                  · have HE := Lib.hid (HS.out (HD2.out.trans (ckGo_next h1 h2 h3 h4)))
                    have b3 : decide (v < u) = false := decide_eq_false h3
                    clear HS HD2 h4
                    go_upto_region 11 with fail
                    go_quiet (fail)
                    go_upto_region 13 with fail
                    go_quiet (fail)
                    go_wp2_with fail
                    go_roundw
                    case rel => exact ⟨q + 1 + 1, by omega, by go_num, HE, Lib.hid (bdrew HB.out _), HL, HX⟩
                    case measure => simp [RowKit.intOf]; omega
        · obtain rfl : i = na := by omega
          have f1 : ¬ (i : Int) < (i : Int) := by omega
          have f1b : decide ((i : Int) < (i : Int)) = false := decide_eq_false f1
          have HE := Lib.hid (show ckR la = 0 from HM.out.trans (by rw [List.drop_of_length_le (by rw [HN1.out]; exact Nat.le_refl _)]; cases prv la i <;> rfl))
          go_wp2_with fail
          go_roundw
          case rel => exact ⟨1, by omega, by go_num, Lib.hid (fun _ => HE.out), Lib.hid (fun h => by omega), HB, HL, HX⟩
          case measure => simp [RowKit.intOf]
    · have y1 := HL.out.get (k := 1) (v := .slice B nb cb) rfl
      go_wp2_with fail
      clear y1
      go_loopw [6, 27, 40, 55] (fun s6 _ _ _ wr => ∃ i : Nat, i ≤ nb ∧ s6 = .int .i64 (i : Nat) ∧ Hid (CkAt lr i) ∧ Hid (Below w.heap.size w wr) ∧ Hid (ObjAt wr (b + 1) #[.slice A na ca, .slice B nb cb] 29) ∧ Hid (ObjAt wr b #[.slice A na ca, .slice B nb cb] 31)) (fun s6 _ _ _ _ => nb - (RowKit.intOf s6).toNat)
      case atStart => exact ⟨0, Nat.zero_le _, rfl, Lib.hid rfl, HB, HL, HX⟩
      case round =>
        clear HB HL HX
        obtain ⟨i, hi, rfl, HM, HB, HL, HX⟩ := hrel
        by_cases hlt : i < nb
        · have hil : i < lr.length := by rw [HN2.out]; exact hlt
          obtain ⟨g, o, rfl, hg, hcl⟩ := HB'.out.pos (by omega)
          have z0 := (HB.out.cell (p := ⟨g, o + i, none⟩) hg).trans (hcl i hil)
          have f0 : (0 : Int) ≤ (i : Int) := by omega
          have f1 : (i : Int) < (nb : Int) := by omega
          have f1b : decide ((i : Int) < (nb : Int)) = true := decide_eq_true f1
          have HD := Lib.hid (HM.out.trans (by rw [ck_drop hil]))
          have HS := Lib.hid (fun (h : ckR lr = ckGo (some lr[i]) (lr.drop (i + 1))) => (h.trans (by rw [prv_succ hil]) : CkAt lr (i + 1)))
          rcases Nat.eq_zero_or_pos i with h0 | h0
          · subst h0
            have HD2 := Lib.hid (show ckR lr = ckGo none (lr[0] :: lr.drop (0 + 1)) from HD.out)
            rw [Nat.add_zero] at z0
            clear hcl HD
            generalize lr[0] = v at z0 HS HD2
            by_cases h1 : v < 1
            · have b1 : decide (v < 1) = true := decide_eq_true h1
              have HE := Lib.hid (show ckD la lr = _ from ((if_neg (by simp [HZ1.out (by omega)])).trans (if_pos (by rw [(HD2.out.trans (ckGo_low _ h1))]; decide)) : ckD la lr = ckR lr).trans (HD2.out.trans (ckGo_low _ h1)))
              clear HS HD2
              go_wp2_with fail
              go_ret
              exact ⟨by rw [HE.out]; rfl, by first | exact HB.out | exact bdrew HB.out _⟩
            · have b1 : decide (v < 1) = false := decide_eq_false h1
              by_cases h2 : 1073741824 < v
              · have b2 : decide (1073741824 < v) = true := decide_eq_true h2
                have HE := Lib.hid (show ckD la lr = _ from ((if_neg (by simp [HZ1.out (by omega)])).trans (if_pos (by rw [(HD2.out.trans (ckGo_high _ h2))]; decide)) : ckD la lr = ckR lr).trans (HD2.out.trans (ckGo_high _ h2)))
                clear HS HD2
                go_wp2_with fail
                go_ret
                exact ⟨by rw [HE.out]; rfl, by first | exact HB.out | exact bdrew HB.out _⟩
              · have b2 : decide (1073741824 < v) = false := decide_eq_false h2
                have HE := Lib.hid (HS.out (HD2.out.trans (ckGo_none h1 h2)))
                clear HS HD2
                go_upto_region 11 with fail
                go_quiet (fail)
                go_upto_region 13 with fail
                go_quiet (fail)
                go_wp2_with fail
                go_roundw
                case rel => exact ⟨0 + 1, by omega, by go_num, HE, Lib.hid (bdrew HB.out _), HL, HX⟩
                case measure => simp [RowKit.intOf]; omega
          · obtain ⟨q, rfl⟩ : ∃ q, i = q + 1 := ⟨i - 1, by omega⟩
            have hql : q < lr.length := by omega
            have z1 := (HB.out.cell (p := ⟨g, o + q, none⟩) hg).trans (hcl q hql)
            have g0 : (0 : Int) < (q : Int) + 1 := by omega
            have g0b : decide ((0 : Int) < (q : Int) + 1) = true := decide_eq_true g0
            have g1 : (0 : Int) ≤ (q : Int) := by omega
            have g2 : (q : Int) < (nb : Int) := by omega
            have g3 : (q : Int) + 1 - 1 = (q : Int) := by omega
            have g4 : IntKind.i64.wrap ((q : Int) + 1 - 1) = (q : Int) := by rw [IntKind.wrap_i64]; omega
            have g5 : IntKind.i64.wrap (q : Int) = (q : Int) := by rw [IntKind.wrap_i64]; omega
            have HD2 := Lib.hid (show ckR lr = ckGo (some lr[q]) (lr[q + 1] :: lr.drop (q + 1 + 1)) from HD.out.trans (by rw [prv_succ hql]))
            clear hcl HD
            generalize lr[q] = u at z1 HD2
            generalize lr[q + 1] = v at z0 HS HD2
            by_cases h1 : v < 1
            · have b1 : decide (v < 1) = true := decide_eq_true h1
              have HE := Lib.hid (show ckD la lr = _ from ((if_neg (by simp [HZ1.out (by omega)])).trans (if_pos (by rw [(HD2.out.trans (ckGo_low _ h1))]; decide)) : ckD la lr = ckR lr).trans (HD2.out.trans (ckGo_low _ h1)))
              clear HS HD2
              go_wp2_with fail
              go_ret
              exact ⟨by rw [HE.out]; rfl, by first | exact HB.out | exact bdrew HB.out _⟩
            · have b1 : decide (v < 1) = false := decide_eq_false h1
              by_cases h2 : 1073741824 < v
              · have b2 : decide (1073741824 < v) = true := decide_eq_true h2
                have HE := Lib.hid (show ckD la lr = _ from ((if_neg (by simp [HZ1.out (by omega)])).trans (if_pos (by rw [(HD2.out.trans (ckGo_high _ h2))]; decide)) : ckD la lr = ckR lr).trans (HD2.out.trans (ckGo_high _ h2)))
                clear HS HD2
                go_wp2_with fail
                go_ret
                exact ⟨by rw [HE.out]; rfl, by first | exact HB.out | exact bdrew HB.out _⟩
              · have b2 : decide (1073741824 < v) = false := decide_eq_false h2
                by_cases h4 : v = u
                · have HE0 := Lib.hid (show ckR lr = 7 from HD2.out.trans (by rw [← h4]; exact ckGo_dup h1 h2))
                  have b4 : (v == u) = true := by simpa using h4
                  clear h4
                  go_upto_region 11 with fail
                  go_quiet (fail)
                  have HE := Lib.hid (show ckD la lr = _ from ((if_neg (by simp [HZ1.out (by omega)])).trans (if_pos (by rw [HE0.out]; decide)) : ckD la lr = ckR lr).trans HE0.out)
                  clear HS HD2
                  go_wp2_with fail
                  go_ret
                  exact ⟨by rw [HE.out]; rfl, by first | exact HB.out | exact bdrew HB.out _⟩
                · have b4 : (v == u) = false := neB h4
                  by_cases h3 : v < u
                  · have HE0 := Lib.hid (HD2.out.trans (ckGo_ord h1 h2 h3))
                    have b3 : decide (v < u) = true := decide_eq_true h3
                    clear h4
                    go_upto_region 11 with fail
                    go_quiet (fail)
                    have z0 := (show _ from z0)
                    go_upto_region 13 with fail
                    go_quiet (fail)
                    have HE := Lib.hid (show ckD la lr = _ from ((if_neg (by simp [HZ1.out (by omega)])).trans (if_pos (by rw [HE0.out]; decide)) : ckD la lr = ckR lr).trans HE0.out)
                    clear HS HD2
                    go_wp2_with fail
                    go_ret
                    exact ⟨by rw [HE.out]; rfl, by first | exact HB.out | exact bdrew HB.out _⟩
                  · have HE := Lib.hid (HS.out (HD2.out.trans (ckGo_next h1 h2 h3 h4)))
                    have b3 : decide (v < u) = false := decide_eq_false h3
                    clear HS HD2 h4
                    go_upto_region 11 with fail
                    go_quiet (fail)
                    go_upto_region 13 with fail
                    go_quiet (fail)
                    go_wp2_with fail
                    go_roundw
                    case rel => exact ⟨q + 1 + 1, by omega, by go_num, HE, Lib.hid (bdrew HB.out _), HL, HX⟩
                    case measure => simp [RowKit.intOf]; omega
        · obtain rfl : i = nb := by omega
          have f1 : ¬ (i : Int) < (i : Int) := by omega
          have f1b : decide ((i : Int) < (i : Int)) = false := decide_eq_false f1
          have HE := Lib.hid (show ckR lr = 0 from HM.out.trans (by rw [List.drop_of_length_le (by rw [HN2.out]; exact Nat.le_refl _)]; cases prv lr i <;> rfl))
          go_wp2_with fail
          go_roundw
          case rel => exact ⟨2, by omega, by go_num, Lib.hid (fun _ => HZ1.out (by omega)), Lib.hid (fun _ => HE.out), HB, HL, HX⟩
          case measure => simp [RowKit.intOf]
    · go_wp2_with fail
      have HE0 := Lib.hid (show ckD la lr = if la.any (fun x => decide (x ∈ lr)) then 23 else 0 from (if_neg (by simp [HZ1.out (by omega)])).trans (if_neg (by simp [HZ2.out (by omega)])))
      have HQ := Lib.hid (fun (h : la.any (fun x => decide (x ∈ lr)) = true) => HE0.out.trans (if_pos h))
      have HR := Lib.hid (fun (h : la.any (fun x => decide (x ∈ lr)) = false) => HE0.out.trans (if_neg (by rw [h]; decide)))
      clear HE0 HZ1 HZ2
      go_loopw [7] (fun s7 wr => ∃ i : Nat, i ≤ na ∧ s7 = .int .i64 (i : Nat) ∧ Hid (BeforeQ (fun x => decide (x ∈ lr)) la i) ∧ Hid (Below w.heap.size w wr) ∧ Hid (ObjAt wr b #[.slice A na ca, .slice B nb cb] 31)) (fun s7 _ => na - (RowKit.intOf s7).toNat)
      case atStart => exact ⟨0, Nat.zero_le _, rfl, Lib.hid (BeforeQ.zero _ _), HB, HX⟩
      case round =>
        clear HB HX HL
        obtain ⟨i, hi, rfl, HM, HB, HX⟩ := hrel
        have y0 := HX.out.get (k := 0) (v := .slice A na ca) rfl
        by_cases hlt : i < na
        · have hil : i < la.length := by rw [HN1.out]; exact hlt
          obtain ⟨g, o, rfl, hg, hcl⟩ := HA.out.pos (by omega)
          have z0 := (HB.out.cell (p := ⟨g, o + i, none⟩) hg).trans (hcl i hil)
          have f0 : (0 : Int) ≤ (i : Int) := by omega
          have f1 : (i : Int) < (na : Int) := by omega
          have f1b : decide ((i : Int) < (na : Int)) = true := decide_eq_true f1
          have q1 := fun p : Bw wr => (HX.out.below p.h).get (k := 1) (v := .slice B nb cb) rfl
          have q2 := fun p : Bw wr => (HX.out.below p.h).get (k := 0) (v := .slice (some ⟨g, o, none⟩) na ca) rfl
          have q3 := fun p : Bw wr => (p.h.cell (p := ⟨g, o + i, none⟩) (World.block_lt_of_cell? wr ⟨g, o + i, none⟩ z0)).trans z0
          have HY := Lib.hid (fun (h : decide (la[i] ∈ lr) = true) => HQ.out (List.any_eq_true.2 ⟨la[i], List.getElem_mem hil, h⟩))
          have HS := Lib.hid (fun (h : decide (la[i] ∈ lr) = false) => HM.out.succ hil h)
          have hsb := HB.out.size
          clear hcl
          generalize la[i] = x at z0 q3 HY HS
          have cH := bw_of (W := wr) (f := 22) (args := #[.slice B nb cb, .int .i64 x]) (v := .bool (decide (x ∈ lr))) (fun p => has_any lr nb HN2.out h1001 B cb x p.w (HB'.out.below (HB.out.trans (p.h.mono hsb)) (Nat.le_refl _)))
          cases hv : decide (x ∈ lr)
          all_goals
            rw [hv] at cH
            have HV := Lib.hid hv
            clear hv
            go_upto_region 18 with fail
            refine wp_region_bw (W := wr) (by kernel_rfl) (by kernel_rfl) (Below.refl _ _) ?_
            repeat (quiet_step (first
              | (go_at_call 22; exact cH _)
              | fail))
            refine wpQuiet_nil ?_
            intro V hw'
            have kk : Below wr.heap.size wr V := by obtain ⟨p2, rfl⟩ := hw'; exact p2.h
            have HBV := Lib.hid (HB.out.trans (kk.mono hsb))
            have HXV := Lib.hid (HX.out.below kk)
            clear hw' kk z0 q1 q2 q3 y0 cH
          · have HE := Lib.hid (HS.out HV.out)
            clear HS HY
            go_wp2_with fail
            go_roundw
            case rel => first | exact ⟨i + 1, by omega, by go_num, HE, HBV, HXV⟩ | ((repeat apply Exists.intro); exact ⟨⟨i + 1, by omega, by go_num, HE, HBV, HXV⟩, rfl⟩) | trace_state
            case measure => simp [RowKit.intOf]; omega
          · have HE := Lib.hid (HY.out HV.out)
            clear HS HY
            go_wp2_with fail
            go_ret
            exact ⟨by rw [HE.out]; rfl, HBV.out⟩
        · obtain rfl : i = na := by omega
          have f1 : ¬ (i : Int) < (i : Int) := by omega
          have f1b : decide ((i : Int) < (i : Int)) = false := decide_eq_false f1
          have HE := Lib.hid (HR.out (List.any_eq_false.2 (fun x hx => by
            obtain ⟨j, hj, rfl⟩ := List.mem_iff_getElem.1 hx
            have := HM.out j hj (by rw [← HN1.out]; exact hj)
            simpa using this)))
          go_wp2_with fail
          go_ret
          exact ⟨by rw [HE.out]; rfl, HB.out⟩
end Go.Proofs.Ytjhppkjngifibaa
