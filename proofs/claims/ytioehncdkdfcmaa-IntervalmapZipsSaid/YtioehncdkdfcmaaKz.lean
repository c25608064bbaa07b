/- Layer 5: the law Zips. -/
import Derived.Test.YtioehncdkdfcmaaZ5
namespace Go.Proofs.Ytioehncdkdfcmaa
open Go.RowKit Go.Lib Im

set_option maxRecDepth 100000 in
set_option maxHeartbeats 64000000 in
theorem law_zips (v : Value) (L : Nat) (V : Int) (A : Option Addr) (n c : Nat) (ops : List Opr) (v' : Value) (L' : Nat) (V' : Int) (A' : Option Addr) (n' c' : Nat) (ops' : List Opr) (w : World) (h : PlayIn w v L V A n c ops) (h' : PlayIn w v' L' V' A' n' c' ops') : Calls Try.prog 9 #[v, v'] w (BoolB true w) := by
  obtain rfl := h.eq
  obtain rfl := h'.eq
  obtain ⟨w0, hw0⟩ : ∃ w0, w0 = (w.alloc (.cells #[.int .u8 L, .int .i64 V, .slice A n c] 24)).alloc (.cells #[.int .u8 L', .int .i64 V', .slice A' n' c'] 24) := ⟨_, rfl⟩
  have hb0 : Below w.heap.size w w0 := by rw [hw0]; exact ((Below.refl _ w).alloc (Nat.le_refl _) _).alloc (by simp) _
  have ob1 : ObjAt w0 w.heap.size #[.int .u8 L, .int .i64 V, .slice A n c] 24 := by rw [hw0]; exact (ObjAt.new w _ 24).alloc _
  have ob2 : ObjAt w0 (w.heap.size + 1) #[.int .u8 L', .int .i64 V', .slice A' n' c'] 24 := by
    rw [hw0]
    have := ObjAt.new (w.alloc (.cells #[.int .u8 L, .int .i64 V, .slice A n c] 24)) #[.int .u8 L', .int .i64 V', .slice A' n' c'] 24
    rwa [World.size_alloc] at this
  have cP := play_in h hb0
  have HH := Go.Lib.hid h'
  have o0 := ob1.b0
  have o1 := ob1.b1
  have o2 := ob1.b2
  have HO2 := Go.Lib.hid ob2
  have HB0 := Go.Lib.hid hb0
  clear ob1 ob2 h h' hb0
  rw [hw0] at o0 o1 o2
  go_enter Try.func9, Try.ntmps9
  go_wp2_with fail
  rw [← hw0]
  clear o0 o1 o2
  clear hw0
  (with_reducible refine cP.mono ?_)
  rintro e w1 ⟨b1, A1, n1, c1, l, rfl, hP, hm⟩
  have HP := Go.Lib.hid hP
  have HM := Go.Lib.hid hm
  have hb01 := HB0.out.trans (hP.2.2.2.mono HB0.out.size)
  have cP2 := play_in HH.out hb01
  have ob2 := HO2.out.below hP.2.2.2
  have o0 := ob2.b0
  have o1 := ob2.b1
  have o2 := ob2.b2
  clear hP hm hb01 ob2 cP
  go_wp2_with fail
  (with_reducible refine cP2.mono ?_)
  rintro e w2 ⟨b2, A2, n2, c2, k, rfl, hP, hm⟩
  have HD := Go.Lib.hid (ps_two HP.out hP HB0.out)
  have HL := Go.Lib.hid HP.out.2.2.1
  have HK := Go.Lib.hid hP.2.2.1
  have HM2 := Go.Lib.hid hm
  clear hP hm cP2 o0 o1 o2 HP HO2 HH HB0
  go_wp2_with fail
  (with_reducible refine (known_any _).mono ?_)
  rintro e w3 ⟨rfl, hb3⟩
  have HD3 := Go.Lib.hid (HD.out.below hb3)
  clear hb3 HD
  by_cases hn : n1 = n2
  · subst hn
    obtain ⟨⟨g1, i1⟩, ⟨g2, i2⟩, _⟩ := HD3.out
    have cZ := callsIn_wide.1 (zip_in b1 g1 b2 g2 l k w3 i1 i2 (by rw [HL.out, HK.out]) (by have := HL.out; have := HM.out; omega))
    clear i1 i2
    go_wp2_with fail
    (with_reducible refine cZ.mono ?_)
    rintro e w4 ⟨B, cb, rfl, hp, hb4⟩
    have HD4 := Go.Lib.hid (HD3.out.below hb4)
    have HP4 := Go.Lib.hid (own_lower hp (Nat.zero_le _))
    have HJ5 : Hid ((Im2.runs (l.zip k)).length ≤ 1000) := Go.Lib.hid (by
      have := Im2.runs_len (l.zip k)
      rw [List.length_zip] at this
      have := HL.out
      have := HM.out
      omega)
    clear hp hb4 cZ HD3
    have HW := Go.Lib.hid (fun w' (h : DS w b1 b2 l k A1 A2 n1 c1 n1 c2 w') => rzip_any A1 A2 n1 c1 c2 l k HL.out HK.out w' h.2.2.1 h.2.2.2.1 (by have := HM.out; omega))
    generalize Im2.runs (l.zip k) = J at HP4 HJ5 HW
    obtain ⟨j, hj⟩ : ∃ j, J.length = j := ⟨_, rfl⟩
    have HJ := Go.Lib.hid hj
    unfold OwnQ at HW
    rw [hj] at HP4 HJ5 HW ⊢
    clear hj
    by_cases hE : l = k
    · subst hE
      go_wp2_with fail
      go_loopw [13, 14] (fun q i wr => q = .bool true ∧ ∃ x : Nat, x ≤ n1 ∧ i = .int .i64 x ∧ Hid (DS w b1 b2 l l A1 A2 n1 c1 n1 c2 wr) ∧ Hid (wr.ownsRow 0 72 4 (.slice B j cb) j (rowQ J))) (fun _ i _ => n1 - (RowKit.intOf i).toNat)
      case atStart => exact ⟨rfl, 0, Nat.zero_le _, rfl, HD4, HP4⟩
      case round =>
        clear HD4 HP4
        obtain ⟨rfl, x, hx, rfl, HDr, HPr⟩ := hrel
        by_cases hlt : x < n1
        · obtain ⟨gA, rfl, hgA, hcA⟩ := own_list HDr.out.2.2.1 HL.out hlt
          obtain ⟨gC, rfl, hgC, hcC⟩ := own_list HDr.out.2.2.2.1 HL.out hlt
          have q0 : (0 : Int) ≤ (x : Int) := by omega
          have q1 : (x : Int) < (n1 : Int) := by omega
          have hkw : IntKind.i64.wrap ((x : Int) + 1) = (x : Int) + 1 := IntWalk.i64_in _ (by have := HM.out; omega)
          clear hgA hgC
          generalize l[x]'(by rw [HL.out]; exact hlt) = y at hcA hcC
          go_wp2
          go_quiet (fail)
          go_wp2
          go_roundw
          case rel => exact ⟨by simp, x + 1, by omega, by go_num, Go.Lib.hid (HDr.out.drew nq), Go.Lib.hid (row_below HPr.out (bdrew (Below.refl _ wr) nq))⟩
          case measure => simp [RowKit.intOf]; omega
        · obtain rfl : n1 = x := by omega
          have cE := equal_ds HDr.out
          unfold EqB at cE
          rw [decide_eq_true rfl] at cE
          go_wp2_with fail
          (with_reducible refine cE.mono ?_)
          rintro e w5 ⟨rfl, hb5⟩
          have HD5 := Go.Lib.hid (HDr.out.below hb5)
          have HP5 := Go.Lib.hid (row_below HPr.out hb5)
          clear hb5 cE HDr HPr
          have cE := equal_ds2 HD5.out
          unfold EqB at cE
          rw [decide_eq_true rfl] at cE
          go_wp2_with fail
          (with_reducible refine cE.mono ?_)
          rintro e w6 ⟨rfl, hb6⟩
          have HD6 := Go.Lib.hid (HD5.out.below hb6)
          have HP6 := Go.Lib.hid (row_below HP5.out hb6)
          clear hb6 cE HD5 HP5
          have cR := HW.out w6 HD6.out
          go_wp2_with fail
          (with_reducible refine cR.mono ?_)
          rintro e w7 ⟨C, cc, rfl, ho, hb7⟩
          have HD7 := Go.Lib.hid (HD6.out.below hb7)
          have HP7 := Go.Lib.hid (row_below HP6.out hb7)
          have HQ7 := Go.Lib.hid (own_lower ho (Nat.zero_le _))
          clear hb7 ho cR HD6 HP6 HW
          go_wp2_with fail
          go_loopw [16] (fun i wr => ∃ x : Nat, x ≤ j ∧ i = .int .i64 x ∧ Hid (wr.ownsRow 0 72 4 (.slice B j cb) j (rowQ J)) ∧ Hid (wr.ownsRow 0 73 4 (.slice C j cc) j (rowQ J)) ∧ Hid (Below w.heap.size w wr)) (fun i _ => j - (RowKit.intOf i).toNat)
          case atStart => exact ⟨0, Nat.zero_le _, rfl, HP7, HQ7, Go.Lib.hid HD7.out.2.2.2.2⟩
          case round =>
            clear HD7 HP7 HQ7
            obtain ⟨x, hx, rfl, HPr, HQr, HBr⟩ := hrel
            by_cases hlt2 : x < j
            · obtain ⟨gP, cp, hBP⟩ := (HPr.out.form (by omega))
              obtain ⟨gQ, cq, hCQ⟩ := (HQr.out.form (by omega))
              obtain ⟨hBP, _, _⟩ := hBP
              obtain ⟨hCQ, _, _⟩ := hCQ
              injection hBP with hBP _ hcp
              injection hCQ with hCQ _ hcq
              subst hBP hCQ hcp hcq
              obtain ⟨e0, e1, e2, e3⟩ := rowQ_get J x (by rw [HJ.out]; exact hlt2)
              generalize J[x]'(by rw [HJ.out]; exact hlt2) = y at e0 e1 e2 e3
              obtain ⟨y0, y1, y2, y3⟩ := y
              dsimp only at e0 e1 e2 e3
              have p0 := (HPr.out.cellAt (x * 4) (by omega)).trans e0
              have p1 := (HPr.out.cellAt (x * 4 + 1) (by omega)).trans e1
              have p2 := (HPr.out.cellAt (x * 4 + 2) (by omega)).trans e2
              have p3 := (HPr.out.cellAt (x * 4 + 3) (by omega)).trans e3
              have r0 := (HQr.out.cellAt (x * 4) (by omega)).trans e0
              have r1 := (HQr.out.cellAt (x * 4 + 1) (by omega)).trans e1
              have r2 := (HQr.out.cellAt (x * 4 + 2) (by omega)).trans e2
              have r3 := (HQr.out.cellAt (x * 4 + 3) (by omega)).trans e3
              have q0 : (0 : Int) ≤ (x : Int) := by omega
              have q2 : (x : Int) < (j : Int) := by omega
              have hkw : IntKind.i64.wrap ((x : Int) + 1) = (x : Int) + 1 := IntWalk.i64_in _ (by have := HJ5.out; omega)
              clear e0 e1 e2 e3
              go_wp2
              go_quiet (fail)
              go_wp2
              go_roundw
              case rel => exact ⟨x + 1, by omega, by have := HJ5.out; go_num, Go.Lib.hid (row_below HPr.out (bdrew (Below.refl _ wr) nq)), Go.Lib.hid (row_below HQr.out (bdrew (Below.refl _ wr) nq)), Go.Lib.hid (bdrew HBr.out nq)⟩
              case measure => simp [RowKit.intOf]; omega
            · obtain rfl : j = x := by omega
              go_wp2
              go_ret
              exact ⟨rfl, HBr.out⟩
    · have HNE := Go.Lib.hid hE
      go_wp2_with fail
      go_loopw [13, 14] (fun q i wr => ∃ (d : Bool) (x : Nat), q = .bool d ∧ x ≤ n1 ∧ i = .int .i64 x ∧ Hid (d = true → l.take x = k.take x) ∧ Hid (DS w b1 b2 l k A1 A2 n1 c1 n1 c2 wr) ∧ Hid (wr.ownsRow 0 72 4 (.slice B j cb) j (rowQ J))) (fun _ i _ => n1 - (RowKit.intOf i).toNat)
      case atStart => exact ⟨true, 0, rfl, Nat.zero_le _, rfl, Go.Lib.hid (fun _ => rfl), HD4, HP4⟩
      case round =>
        clear HD4 HP4 hE
        obtain ⟨d, x, rfl, hx, rfl, HT, HDr, HPr⟩ := hrel
        have hbK : (Hid True) := Go.Lib.hid trivial
        cases d with
        | true =>
          have hlt : x < n1 := by
            rcases Nat.lt_or_ge x n1 with h | h
            · exact h
            · exfalso
              have := HT.out rfl
              rw [List.take_of_length_le (by rw [HL.out]; exact h), List.take_of_length_le (by rw [HK.out]; exact h)] at this
              exact HNE.out this
          obtain ⟨gA, rfl, hgA, hcA⟩ := own_list HDr.out.2.2.1 HL.out hlt
          obtain ⟨gC, rfl, hgC, hcC⟩ := own_list HDr.out.2.2.2.1 HK.out hlt
          have q0 : (0 : Int) ≤ (x : Int) := by omega
          have q1 : (x : Int) < (n1 : Int) := by omega
          have hkw : IntKind.i64.wrap ((x : Int) + 1) = (x : Int) + 1 := IntWalk.i64_in _ (by have := HM.out; omega)
          have HS := Go.Lib.hid (fun e => take_eq (by rw [HL.out]; exact hlt) (by rw [HK.out]; exact hlt) (HT.out rfl) e)
          clear hgA hgC
          generalize l[x]'(by rw [HL.out]; exact hlt) = y at hcA HS
          generalize k[x]'(by rw [HK.out]; exact hlt) = z at hcC HS
          go_wp2
          go_quiet (fail)
          go_wp2
          go_roundw
          case rel => exact ⟨decide (y = z), x + 1, by simp [BEq.beq], by omega, by go_num, Go.Lib.hid (fun e => HS.out (of_decide_eq_true e)), Go.Lib.hid (HDr.out.drew nq), Go.Lib.hid (row_below HPr.out (bdrew (Below.refl _ wr) nq))⟩
          case measure => simp [RowKit.intOf]; omega
        | false =>
          clear HT
          have cE := equal_ds HDr.out
          unfold EqB at cE
          rw [decide_eq_false HNE.out] at cE
          by_cases hlt : x < n1
          · have q1 : (x : Int) < (n1 : Int) := by omega
            go_wp2_with fail
            (with_reducible refine cE.mono ?_)
            rintro e w5 ⟨rfl, hb5⟩
            have HD5 := Go.Lib.hid (HDr.out.below hb5)
            have HP5 := Go.Lib.hid (row_below HPr.out hb5)
            clear hb5 cE HDr HPr
            have cE := equal_ds2 HD5.out
            unfold EqB at cE
            rw [decide_eq_false (fun e => HNE.out e.symm)] at cE
            go_wp2_with fail
            (with_reducible refine cE.mono ?_)
            rintro e w6 ⟨rfl, hb6⟩
            have HD6 := Go.Lib.hid (HD5.out.below hb6)
            have HP6 := Go.Lib.hid (row_below HP5.out hb6)
            clear hb6 cE HD5 HP5
            have cR := HW.out w6 HD6.out
            go_wp2_with fail
            (with_reducible refine cR.mono ?_)
            rintro e w7 ⟨C, cc, rfl, ho, hb7⟩
            have HD7 := Go.Lib.hid (HD6.out.below hb7)
            have HP7 := Go.Lib.hid (row_below HP6.out hb7)
            have HQ7 := Go.Lib.hid (own_lower ho (Nat.zero_le _))
            clear hb7 ho cR HD6 HP6 HW
            go_wp2_with fail
            go_loopw [16] (fun i wr => ∃ x : Nat, x ≤ j ∧ i = .int .i64 x ∧ Hid (wr.ownsRow 0 72 4 (.slice B j cb) j (rowQ J)) ∧ Hid (wr.ownsRow 0 73 4 (.slice C j cc) j (rowQ J)) ∧ Hid (Below w.heap.size w wr)) (fun i _ => j - (RowKit.intOf i).toNat)
            case atStart => exact ⟨0, Nat.zero_le _, rfl, HP7, HQ7, Go.Lib.hid HD7.out.2.2.2.2⟩
            case round =>
              clear HD7 HP7 HQ7
              obtain ⟨x, hx, rfl, HPr, HQr, HBr⟩ := hrel
              by_cases hlt2 : x < j
              · obtain ⟨gP, cp, hBP⟩ := (HPr.out.form (by omega))
                obtain ⟨gQ, cq, hCQ⟩ := (HQr.out.form (by omega))
                obtain ⟨hBP, _, _⟩ := hBP
                obtain ⟨hCQ, _, _⟩ := hCQ
                injection hBP with hBP _ hcp
                injection hCQ with hCQ _ hcq
                subst hBP hCQ hcp hcq
                obtain ⟨e0, e1, e2, e3⟩ := rowQ_get J x (by rw [HJ.out]; exact hlt2)
                generalize J[x]'(by rw [HJ.out]; exact hlt2) = y at e0 e1 e2 e3
                obtain ⟨y0, y1, y2, y3⟩ := y
                dsimp only at e0 e1 e2 e3
                have p0 := (HPr.out.cellAt (x * 4) (by omega)).trans e0
                have p1 := (HPr.out.cellAt (x * 4 + 1) (by omega)).trans e1
                have p2 := (HPr.out.cellAt (x * 4 + 2) (by omega)).trans e2
                have p3 := (HPr.out.cellAt (x * 4 + 3) (by omega)).trans e3
                have r0 := (HQr.out.cellAt (x * 4) (by omega)).trans e0
                have r1 := (HQr.out.cellAt (x * 4 + 1) (by omega)).trans e1
                have r2 := (HQr.out.cellAt (x * 4 + 2) (by omega)).trans e2
                have r3 := (HQr.out.cellAt (x * 4 + 3) (by omega)).trans e3
                have q0 : (0 : Int) ≤ (x : Int) := by omega
                have q2 : (x : Int) < (j : Int) := by omega
                have hkw : IntKind.i64.wrap ((x : Int) + 1) = (x : Int) + 1 := IntWalk.i64_in _ (by have := HJ5.out; omega)
                clear e0 e1 e2 e3
                go_wp2
                go_quiet (fail)
                go_wp2
                go_roundw
                case rel => exact ⟨x + 1, by omega, by have := HJ5.out; go_num, Go.Lib.hid (row_below HPr.out (bdrew (Below.refl _ wr) nq)), Go.Lib.hid (row_below HQr.out (bdrew (Below.refl _ wr) nq)), Go.Lib.hid (bdrew HBr.out nq)⟩
                case measure => simp [RowKit.intOf]; omega
              · obtain rfl : j = x := by omega
                go_wp2
                go_ret
                exact ⟨rfl, HBr.out⟩
          · have q1 : ¬ (x : Int) < (n1 : Int) := by omega
            go_wp2_with fail
            (with_reducible refine cE.mono ?_)
            rintro e w5 ⟨rfl, hb5⟩
            have HD5 := Go.Lib.hid (HDr.out.below hb5)
            have HP5 := Go.Lib.hid (row_below HPr.out hb5)
            clear hb5 cE HDr HPr
            have cE := equal_ds2 HD5.out
            unfold EqB at cE
            rw [decide_eq_false (fun e => HNE.out e.symm)] at cE
            go_wp2_with fail
            (with_reducible refine cE.mono ?_)
            rintro e w6 ⟨rfl, hb6⟩
            have HD6 := Go.Lib.hid (HD5.out.below hb6)
            have HP6 := Go.Lib.hid (row_below HP5.out hb6)
            clear hb6 cE HD5 HP5
            have cR := HW.out w6 HD6.out
            go_wp2_with fail
            (with_reducible refine cR.mono ?_)
            rintro e w7 ⟨C, cc, rfl, ho, hb7⟩
            have HD7 := Go.Lib.hid (HD6.out.below hb7)
            have HP7 := Go.Lib.hid (row_below HP6.out hb7)
            have HQ7 := Go.Lib.hid (own_lower ho (Nat.zero_le _))
            clear hb7 ho cR HD6 HP6 HW
            go_wp2_with fail
            go_loopw [16] (fun i wr => ∃ x : Nat, x ≤ j ∧ i = .int .i64 x ∧ Hid (wr.ownsRow 0 72 4 (.slice B j cb) j (rowQ J)) ∧ Hid (wr.ownsRow 0 73 4 (.slice C j cc) j (rowQ J)) ∧ Hid (Below w.heap.size w wr)) (fun i _ => j - (RowKit.intOf i).toNat)
            case atStart => exact ⟨0, Nat.zero_le _, rfl, HP7, HQ7, Go.Lib.hid HD7.out.2.2.2.2⟩
            case round =>
              clear HD7 HP7 HQ7
              obtain ⟨x, hx, rfl, HPr, HQr, HBr⟩ := hrel
              by_cases hlt2 : x < j
              · obtain ⟨gP, cp, hBP⟩ := (HPr.out.form (by omega))
                obtain ⟨gQ, cq, hCQ⟩ := (HQr.out.form (by omega))
                obtain ⟨hBP, _, _⟩ := hBP
                obtain ⟨hCQ, _, _⟩ := hCQ
                injection hBP with hBP _ hcp
                injection hCQ with hCQ _ hcq
                subst hBP hCQ hcp hcq
                obtain ⟨e0, e1, e2, e3⟩ := rowQ_get J x (by rw [HJ.out]; exact hlt2)
                generalize J[x]'(by rw [HJ.out]; exact hlt2) = y at e0 e1 e2 e3
                obtain ⟨y0, y1, y2, y3⟩ := y
                dsimp only at e0 e1 e2 e3
                have p0 := (HPr.out.cellAt (x * 4) (by omega)).trans e0
                have p1 := (HPr.out.cellAt (x * 4 + 1) (by omega)).trans e1
                have p2 := (HPr.out.cellAt (x * 4 + 2) (by omega)).trans e2
                have p3 := (HPr.out.cellAt (x * 4 + 3) (by omega)).trans e3
                have r0 := (HQr.out.cellAt (x * 4) (by omega)).trans e0
                have r1 := (HQr.out.cellAt (x * 4 + 1) (by omega)).trans e1
                have r2 := (HQr.out.cellAt (x * 4 + 2) (by omega)).trans e2
                have r3 := (HQr.out.cellAt (x * 4 + 3) (by omega)).trans e3
                have q0 : (0 : Int) ≤ (x : Int) := by omega
                have q2 : (x : Int) < (j : Int) := by omega
                have hkw : IntKind.i64.wrap ((x : Int) + 1) = (x : Int) + 1 := IntWalk.i64_in _ (by have := HJ5.out; omega)
                clear e0 e1 e2 e3
                go_wp2
                go_quiet (fail)
                go_wp2
                go_roundw
                case rel => exact ⟨x + 1, by omega, by have := HJ5.out; go_num, Go.Lib.hid (row_below HPr.out (bdrew (Below.refl _ wr) nq)), Go.Lib.hid (row_below HQr.out (bdrew (Below.refl _ wr) nq)), Go.Lib.hid (bdrew HBr.out nq)⟩
                case measure => simp [RowKit.intOf]; omega
              · obtain rfl : j = x := by omega
                go_wp2
                go_ret
                exact ⟨rfl, HBr.out⟩
  · have HLN : Hid (l.length ≠ k.length) := Go.Lib.hid (by rw [HL.out, HK.out]; exact hn)
    have HNE : Hid (l ≠ k) := Go.Lib.hid (fun e => HLN.out (by rw [e]))
    obtain ⟨⟨g1, i1⟩, ⟨g2, i2⟩, _⟩ := HD3.out
    have cZ := zip_ne b1 g1 b2 g2 l k w3 i1 i2 HLN.out
    have hnn : ¬ (n1 : Int) = (n2 : Int) := by omega
    have hnb : ((n1 : Int) == (n2 : Int)) = false := by simp; omega
    clear i1 i2
    go_wp2_with fail
    (with_reducible refine cZ.mono ?_)
    rintro e w4 ⟨rfl, hb4⟩
    have HD4 := Go.Lib.hid (HD3.out.below hb4)
    clear hb4 cZ HD3
    have cE := equal_ds HD4.out
    unfold EqB at cE
    rw [decide_eq_false HNE.out] at cE
    go_wp2_with fail
    go_loopw [13, 14] (fun q i wr => q = .bool false ∧ i = .int .i64 0 ∧ wr = w4) (fun _ _ _ => 0)
    case atStart => exact ⟨rfl, rfl, rfl⟩
    case round =>
      obtain ⟨rfl, rfl, rfl⟩ := hrel
      by_cases hz : (0 : Int) < (n1 : Int)
      · skip
        have cE := cE
        go_wp2_with fail
        (with_reducible refine cE.mono ?_)
        rintro e w5 ⟨rfl, hb5⟩
        have HD5 := Go.Lib.hid (HD4.out.below hb5)
        clear hb5 cE
        have cE := equal_ds2 HD5.out
        unfold EqB at cE
        rw [decide_eq_false (fun e => HNE.out e.symm)] at cE
        go_wp2_with fail
        (with_reducible refine cE.mono ?_)
        rintro e w6 ⟨rfl, hb6⟩
        have HD6 := Go.Lib.hid (HD5.out.below hb6)
        clear hb6 cE HD5
        go_wp2
        go_ret
        exact ⟨by simp, HD6.out.2.2.2.2⟩
      · skip
        have cE := cE
        go_wp2_with fail
        (with_reducible refine cE.mono ?_)
        rintro e w5 ⟨rfl, hb5⟩
        have HD5 := Go.Lib.hid (HD4.out.below hb5)
        clear hb5 cE
        have cE := equal_ds2 HD5.out
        unfold EqB at cE
        rw [decide_eq_false (fun e => HNE.out e.symm)] at cE
        go_wp2_with fail
        (with_reducible refine cE.mono ?_)
        rintro e w6 ⟨rfl, hb6⟩
        have HD6 := Go.Lib.hid (HD5.out.below hb6)
        clear hb6 cE HD5
        go_wp2
        go_ret
        exact ⟨by simp, HD6.out.2.2.2.2⟩
end Go.Proofs.Ytioehncdkdfcmaa
