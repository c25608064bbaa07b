/- Layer 12: ContainsFunc over empty (47, 42), Regular (26), the reference's Regular (27). -/
import Derived.Test.YtkdhffidkopmcaaD2
namespace Go.Proofs.Ytkdhffidkopmcaa
open Go.RowKit Go.Lib Go.Maps
set_option linter.unusedVariables false

def EmpR (L : List Gd.Ce) (e : Ending) : Prop := (∃ (k : Nat) (h : k < L.length), L[k].1 = L[k].2.1 ∧ e = .returned (.int .i64 (k : Nat))) ∨ ((∀ j (h : j < L.length), L[j].1 ≠ L[j].2.1) ∧ e = .returned (.int .i64 (-1)))

set_option maxRecDepth 100000 in
set_option maxHeartbeats 8000000 in
theorem empidx_any (L : List Gd.Ce) (ln gs : Nat) (hln : L.length = ln) (h40 : ln ≤ 40) (b0 : Nat) (w : World) (hs : SpAt w b0 (.slice (some ⟨gs, 0, none⟩) ln ln) L) :
    Calls Try.prog 42 #[.slice (some ⟨gs, 0, none⟩) ln ln, .func (.func 48) #[] #[]] w fun e w' => EmpR L e ∧ Below w.heap.size w w' := by
  obtain ⟨gs', he, _, hgs, hcl⟩ := hs.cells
  injection he with he1 he2 he3
  clear he2 he3
  injection he1 with he1
  injection he1 with he1
  subst he1
  have HCL := Go.Lib.hid hcl
  have HLN := Go.Lib.hid hln
  have cB := Go.Lib.hid (fun (f t : Nat) w' => sp_empty f t w')
  unfold spanV at cB
  have bb0 := Below.refl w.heap.size w
  clear hcl hln hs
  go_enter Try.func42, Try.ntmps42
  go_wp2_with fail
  go_loopw [5, 8] (fun _ s8 wr => ∃ k : Nat, k ≤ ln ∧ s8 = .int .i64 (k : Nat) ∧ Hid (∀ j (h : j < L.length), j < k → L[j].1 ≠ L[j].2.1) ∧ Below w.heap.size w wr) (fun _ s8 _ => ln - (RowKit.intOf s8).toNat)
  case atStart => exact ⟨0, Nat.zero_le _, rfl, Go.Lib.hid fun j h h' => absurd h' (Nat.not_lt_zero _), bb0⟩
  case round =>
    clear bb0
    obtain ⟨k, hk, rfl, HM, hbk⟩ := hrel
    have HBK := Go.Lib.hid hbk
    by_cases hlt : k < ln
    · have r0 : (0 : Int) ≤ (k : Int) := by omega
      have r1 : (k : Int) < (ln : Int) := by omega
      have hkL : k < L.length := by rw [HLN.out]; exact hlt
      obtain ⟨x0, x1⟩ := HCL.out k hkL
      have z0 := (hbk.cell (p := ⟨gs, k * 2, none⟩) hgs).trans x0
      have z1 := (hbk.cell (p := ⟨gs, k * 2 + 1, none⟩) hgs).trans x1
      have cb := cB.out L[k].1 L[k].2.1 wr
      have HYES := Go.Lib.hid (fun (h : L[k].1 = L[k].2.1) => (.inl ⟨k, hkL, h, rfl⟩ : EmpR L (.returned (.int .i64 (k : Nat)))))
      have HNO := Go.Lib.hid (fun (h : L[k].1 ≠ L[k].2.1) => show ∀ j (h : j < L.length), j < k + 1 → L[j].1 ≠ L[j].2.1 from fun j hj hl => by
        by_cases e : j = k
        · subst e; exact h
        · exact HM.out j hj (by omega))
      have hs := hbk.size
      clear hbk x0 x1
      generalize L[k].1 = f1 at *
      generalize L[k].2.1 = t1 at *
      by_cases hqt : f1 = t1
      · rw [decide_eq_true hqt] at cb
        have HX := Go.Lib.hid (HYES.out hqt)
        clear hqt
        go_wp2_with fail
        (with_reducible refine cb.mono ?_)
        rintro e w7 ⟨rfl, k7⟩
        have K7 := Go.Lib.hid (HBK.out.trans (k7.mono hs))
        clear cb k7
        go_wp2
        go_ret
        exact ⟨by simp; exact HX.out, K7.out⟩
      · rw [decide_eq_false hqt] at cb
        have HX := Go.Lib.hid (HNO.out hqt)
        clear hqt
        go_wp2_with fail
        (with_reducible refine cb.mono ?_)
        rintro e w7 ⟨rfl, k7⟩
        have K7 := Go.Lib.hid (HBK.out.trans (k7.mono hs))
        clear cb k7 z0 z1
        go_wp2
        go_roundw
        case rel => exact ⟨k + 1, by omega, by go_num, HX, K7.out⟩
        case measure => simp [RowKit.intOf]; omega
    · obtain rfl : k = ln := by omega
      clear hbk
      go_wp2
      go_ret
      exact ⟨.inr ⟨fun j hj => HM.out j hj (by rw [← HLN.out]; exact hj), by simp⟩, HBK.out⟩

def BoolP (P : Prop) (e : Ending) : Prop := ∃ b : Bool, e = .returned (.bool b) ∧ (b = true ↔ P)
theorem BoolP.yes {P : Prop} (h : P) : BoolP P (.returned (.bool true)) := ⟨true, rfl, fun _ => h, fun _ => rfl⟩
theorem BoolP.no {P : Prop} (h : ¬ P) : BoolP P (.returned (.bool false)) := ⟨false, rfl, fun g => absurd g Bool.false_ne_true, fun g => absurd g h⟩

set_option maxRecDepth 100000 in
theorem contains_any (L : List Gd.Ce) (s : Value) (h40 : L.length ≤ 40) (b0 : Nat) (w : World) (hs : SpAt w b0 s L) :
    Calls Try.prog 47 #[s, .func (.func 48) #[] #[]] w fun e w' => BoolP (∃ x ∈ L, x.1 = x.2.1) e ∧ Below w.heap.size w w' := by
  obtain ⟨gs, rfl, h2⟩ := id hs
  have cI := empidx_any L L.length gs rfl h40 b0 w hs
  clear h2 hs
  generalize hln : L.length = ln at *
  have HLN := Go.Lib.hid hln
  clear hln
  go_enter Try.func47, Try.ntmps47
  go_wp2_with fail
  (with_reducible refine cI.mono ?_)
  rintro e w1 ⟨hX, k1⟩
  clear cI
  rcases hX with ⟨k, hk, h1, rfl⟩ | ⟨hno, rfl⟩
  · have HX := Go.Lib.hid (BoolP.yes (show ∃ x ∈ L, x.1 = x.2.1 from ⟨L[k], List.getElem_mem hk, h1⟩))
    have r0 : (0 : Int) ≤ (k : Int) := by omega
    clear h1 hk
    go_wp2
    go_ret
    exact ⟨by simpa using HX.out, k1⟩
  · have HX := Go.Lib.hid (BoolP.no (show ¬ ∃ x ∈ L, x.1 = x.2.1 from fun ⟨x, hx, e⟩ => by
      obtain ⟨j, hj, rfl⟩ := List.mem_iff_getElem.1 hx
      exact hno j hj e))
    clear hno
    go_wp2
    go_ret
    exact ⟨by simpa using HX.out, k1⟩

set_option maxRecDepth 100000 in
set_option maxHeartbeats 8000000 in
theorem regular_any (T : List (List Cl)) (hT : GoodT T) (A : Option Addr) (N c : Nat) (hN : T.length = N) (hc : N ≤ c ∧ c ≤ maxLen) (w : World) (hA : TbAt w A T) :
    Calls Try.prog 26 #[.slice A N c] w fun e w' => BoolP (RegP T) e ∧ Below w.heap.size w w' := by
  have cC := columns_any T hT A N c hN hc w hA
  have hc1 := hc.1
  have hc2 := hc.2
  unfold maxLen at hc2
  have HN := Go.Lib.hid hN
  have HA := Go.Lib.hid hA
  have HT := Go.Lib.hid hT
  clear hA hT hN hc
  have HW := Go.Lib.hid (show ∀ i (h : i < T.length), RowP (plR T[i]) (wdt (plT T)) ↔ RowP (plR T[i]) (wdt (plT T)) from fun i h => Iff.rfl)
  have HRP := Go.Lib.hid (show RegP T ↔ ∀ i (h : i < T.length), RowP (plR T[i]) (wdt (plT T)) from Iff.rfl)
  generalize wdt (plT T) = wd at *
  go_enter Try.func26, Try.ntmps26
  go_wp2_with fail
  (with_reducible refine cC.mono ?_)
  rintro e w0 ⟨rfl, hb0⟩
  clear cC
  go_wp2_with fail
  go_loopw [2, 4, 5, 10] (fun s2 _ _ s10 wr => s2 = .bool false ∧ ∃ k : Nat, k ≤ N ∧ s10 = .int .i64 (k : Nat) ∧ Hid (∀ i (h : i < T.length), i < k → RowP (plR T[i]) wd) ∧ Below w.heap.size w wr) (fun _ _ _ s10 _ => N - (RowKit.intOf s10).toNat)
  case atStart => exact ⟨rfl, 0, Nat.zero_le _, rfl, Go.Lib.hid fun i h h' => absurd h' (Nat.not_lt_zero _), hb0⟩
  case round =>
    clear hb0
    obtain ⟨rfl, k, hk, rfl, HV, hbk⟩ := hrel
    have HBK := Go.Lib.hid hbk
    have hsz := hbk.size
    clear hbk
    by_cases hlt : k < N
    · have q0 : (0 : Int) ≤ (k : Int) := by omega
      have q1 : (k : Int) < (N : Int) := by omega
      have hkT : k < T.length := by have := HN.out; omega
      obtain ⟨g, o, rfl, hg, hrows⟩ := HA.out.row hkT
      obtain ⟨a1, a2, B, n, cB, D, dn, dc, Y, yn, yc, Ac, kc, c0, c1, c2, c3, c4, c5, g1, g2, hcs⟩ := (hrows k hkT).below hg HBK.out
      have cS := spans_any T[k] (HT.out.2 _ (List.getElem_mem hkT)) (.slice B n cB) (.int .i64 a1) (.int .i64 a2) (.slice D dn dc) (.slice Y yn yc) Ac _ kc rfl ⟨g1, g2⟩ wr hcs
      have h40 : (plR T[k]).length ≤ 40 := by rw [plR_len]; exact (HT.out.2 _ (List.getElem_mem hkT)).1
      have cE := Go.Lib.hid (fun s w' (hs : SpAt w' wr.heap.size s (plR T[k])) => end_any (plR T[k]) s _ w' hs h40)
      have cX := Go.Lib.hid (fun s w' (hs : SpAt w' wr.heap.size s (plR T[k])) => contains_any (plR T[k]) s h40 _ w' hs)
      have HNX := Go.Lib.hid (fun (h : RowP (plR T[k]) wd) => show ∀ i (h : i < T.length), i < k + 1 → RowP (plR T[i]) wd from fun i hi hik => by
        by_cases e : i = k
        · subst e; exact h
        · exact HV.out i hi (by omega))
      have HNO := Go.Lib.hid (fun (h : ¬ RowP (plR T[k]) wd) => BoolP.no (show ¬ RegP T from fun hp => h (HRP.out.1 hp k hkT)))
      unfold RowP at HNX HNO
      generalize Gd.ends (plR T[k]) = en at *
      generalize T[k].length = tl at *
      clear hrows hcs g1 g2 h40
      go_wp2_with fail
      (with_reducible refine cS.mono ?_)
      rintro e w1 ⟨s, rfl, hs, k1⟩
      have ce := cE.out s w1 hs
      have cx := cX.out s w1 hs
      have K1 := Go.Lib.hid (HBK.out.trans (k1.mono hsz))
      have hs1 := K1.out.size
      clear cS k1 hs cE cX c0 c1 c2 c3 c4 c5
      by_cases he : en = wd
      · have b1 : ((en : Int) != (wd : Int)) = false := by rw [bne_eq_false_iff_eq]; omega
        have HE := Go.Lib.hid he
        clear he
        go_wp2_with fail
        (with_reducible refine ce.mono ?_)
        rintro e w2 ⟨rfl, rfl⟩
        go_wp2_with fail
        (with_reducible refine cx.mono ?_)
        rintro e w3 ⟨⟨b, rfl, hb⟩, k3⟩
        have K3 := Go.Lib.hid (K1.out.trans (k3.mono hs1))
        clear ce cx k3
        cases b with
        | true =>
          have HX := Go.Lib.hid (HNO.out fun h => by
            obtain ⟨x, hx, e⟩ := hb.1 rfl
            exact h.2 x hx e)
          clear hb
          go_wp2
          go_ret
          exact ⟨by simpa using HX.out, K3.out⟩
        | false =>
          have HX := Go.Lib.hid (HNX.out ⟨HE.out, fun x hx e => absurd (hb.2 ⟨x, hx, e⟩) Bool.false_ne_true⟩)
          clear hb
          go_wp2
          go_roundw
          case rel => exact ⟨rfl, k + 1, by omega, by go_num, HX, K3.out⟩
          case measure => simp [RowKit.intOf]; omega
      · have b1 : ((en : Int) != (wd : Int)) = true := by rw [bne_iff_ne]; omega
        have HX := Go.Lib.hid (HNO.out fun h => he h.1)
        clear he cx
        go_wp2_with fail
        (with_reducible refine ce.mono ?_)
        rintro e w2 ⟨rfl, rfl⟩
        clear ce
        go_wp2
        go_ret
        exact ⟨by simpa using HX.out, K1.out⟩
    · obtain rfl : k = N := by omega
      have HX := Go.Lib.hid (BoolP.yes (HRP.out.2 fun i h => HV.out i h (by rw [← HN.out]; exact h)))
      go_wp2
      go_ret
      exact ⟨by simpa using HX.out, HBK.out⟩

set_option maxRecDepth 100000 in
set_option maxHeartbeats 8000000 in
theorem rregular_any (T : List (List Cl)) (hT : GoodT T) (A : Option Addr) (N c : Nat) (hN : T.length = N) (hc : N ≤ c ∧ c ≤ maxLen) (w : World) (hA : TbAt w A T) :
    Calls Try.prog 27 #[.slice A N c] w fun e w' => BoolP (RegP T) e ∧ Below w.heap.size w w' := by
  have cC := width_any T hT A N c hN hc w hA
  have hc1 := hc.1
  have hc2 := hc.2
  unfold maxLen at hc2
  have HN := Go.Lib.hid hN
  have HA := Go.Lib.hid hA
  have HT := Go.Lib.hid hT
  clear hA hT hN hc
  have HRP := Go.Lib.hid (show RegP T ↔ ∀ i (h : i < T.length), RowQ (plR T[i]) (wdt (plT T)) from ⟨fun h i hi => (row_pq _ _).1 (h i hi), fun h i hi => (row_pq _ _).2 (h i hi)⟩)
  generalize wdt (plT T) = wd at *
  go_enter Try.func27, Try.ntmps27
  go_wp2_with fail
  (with_reducible refine cC.mono ?_)
  rintro e w0 ⟨rfl, hb0⟩
  clear cC
  go_wp2_with fail
  go_loopw [2, 4, 5, 6, 7] (fun s2 s4 _ _ _ wr => s2 = .bool false ∧ ∃ k : Nat, k ≤ N ∧ s4 = .int .i64 (k : Nat) ∧ Hid (∀ i (h : i < T.length), i < k → RowQ (plR T[i]) wd) ∧ Below w.heap.size w wr) (fun _ s4 _ _ _ _ => N - (RowKit.intOf s4).toNat)
  case atStart => exact ⟨rfl, 0, Nat.zero_le _, rfl, Go.Lib.hid fun i h h' => absurd h' (Nat.not_lt_zero _), hb0⟩
  case round =>
    clear hb0
    obtain ⟨rfl, k, hk, rfl, HV, hbk⟩ := hrel
    have HBK := Go.Lib.hid hbk
    have hsz := hbk.size
    clear hbk
    by_cases hlt : k < N
    · have q0 : (0 : Int) ≤ (k : Int) := by omega
      have q1 : (k : Int) < (N : Int) := by omega
      have hkT : k < T.length := by have := HN.out; omega
      obtain ⟨g, o, rfl, hg, hrows⟩ := HA.out.row hkT
      obtain ⟨a1, a2, B, n, cB, D, dn, dc, Y, yn, yc, Ac, kc, c0, c1, c2, c3, c4, c5, g1, g2, hcs⟩ := (hrows k hkT).below hg HBK.out
      have hgr := (HT.out.2 _ (List.getElem_mem hkT)).1
      have HNX := Go.Lib.hid (fun (h : RowQ (plR T[k]) wd) => show ∀ i (h : i < T.length), i < k + 1 → RowQ (plR T[i]) wd from fun i hi hik => by
        by_cases e : i = k
        · subst e; exact h
        · exact HV.out i hi (by omega))
      have HNO := Go.Lib.hid (fun (h : ¬ RowQ (plR T[k]) wd) => BoolP.no (show ¬ RegP T from fun hp => h (HRP.out.1 hp k hkT)))
      by_cases h0 : T[k].length = 0
      · have hnil : plR T[k] = [] := List.eq_nil_of_length_eq_zero (by rw [plR_len]; exact h0)
        rw [h0] at c5 g1
        by_cases hw : wd = 0
        · have HX := Go.Lib.hid (HNX.out (.inl ⟨hnil, hw⟩))
          have HW := Go.Lib.hid hw
          have hw2 : ¬ (0 : Int) < (wd : Int) := by omega
          have hw3 : ¬ 0 < wd := by omega
          clear hrows hcs g1 g2 h0 hgr hnil hw
          go_wp2
          go_roundw
          case rel => exact ⟨rfl, k + 1, by omega, by go_num, HX, HBK.out⟩
          case measure => simp [RowKit.intOf]; omega
        · have HX := Go.Lib.hid (HNO.out fun h => by
            rcases h with ⟨_, h⟩ | ⟨x, h, _⟩
            · exact hw h
            · rw [hnil] at h; cases h)
          have hw2 : (0 : Int) < (wd : Int) := by omega
          have hw3 : 0 < wd := by omega
          clear hrows hcs g1 g2 h0 hgr hnil hw
          go_wp2
          go_ret
          exact ⟨by simpa using HX.out, HBK.out⟩
      · obtain ⟨nn, hnn⟩ : ∃ nn, T[k].length = nn + 1 := ⟨T[k].length - 1, by omega⟩
        have cS := span_any T[k] (.slice B n cB) (.int .i64 a1) (.int .i64 a2) (.slice D dn dc) (.slice Y yn yc) Ac _ kc rfl (by omega) ⟨g1, g2⟩ nn (by omega) wr hcs
        have HLAST := Go.Lib.hid (show ∀ f t m, (plR T[k])[nn]? = some (f, t, m) → (RowQ (plR T[k]) wd ↔ f ≠ t ∧ t = wd) from fun f t m hx => by
          have hl : (plR T[k]).getLast? = some (f, t, m) := by rw [List.getLast?_eq_getElem?, plR_len, hnn]; exact hx
          constructor
          · rintro (⟨h, _⟩ | ⟨x, h, h1, h2⟩)
            · rw [h] at hl; cases hl
            · rw [hl] at h; cases h; exact ⟨h1, h2⟩
          · exact fun ⟨h1, h2⟩ => .inr ⟨_, hl, h1, h2⟩)
        rw [hnn] at c5 g1 cS hgr
        have HNN := Go.Lib.hid hnn
        have q2 : ((nn : Int) + 1 == 0) = false := by simp; omega
        have q3 : IntKind.i64.wrap ((nn : Int) + 1 - 1) = (nn : Int) := by rw [show (nn : Int) + 1 - 1 = nn by omega]; exact IntWalk.i64_in _ (by omega)
        have q3' : IntKind.i64.wrap (nn : Int) = (nn : Int) := IntWalk.i64_in _ (by omega)
        clear hrows hcs g1 g2 h0 hgr hnn
        go_wp2_with fail
        (with_reducible refine cS.mono ?_)
        rintro e w1 ⟨⟨f, t, m, hx, rfl⟩, k1⟩
        have K1 := Go.Lib.hid (HBK.out.trans (k1.mono hsz))
        have hq := HLAST.out f t m hx
        clear cS k1 hx c0 c1 c2 c3 c4 c5
        by_cases e1 : f = t
        · have b1 : ((f : Int) == (t : Int)) = true := beq_iff_eq.2 (by omega)
          have HX := Go.Lib.hid (HNO.out fun h => (hq.1 h).1 e1)
          clear hq e1
          go_wp2
          go_ret
          exact ⟨by simpa using HX.out, K1.out⟩
        · have b1 : ((f : Int) == (t : Int)) = false := beq_eq_false_iff_ne.2 (by omega)
          by_cases e2 : t = wd
          · have b2 : ((t : Int) != (wd : Int)) = false := by rw [bne_eq_false_iff_eq]; omega
            have HX := Go.Lib.hid (HNX.out (hq.2 ⟨e1, e2⟩))
            clear hq e1 e2
            go_wp2
            go_roundw
            case rel => exact ⟨rfl, k + 1, by omega, by go_num, HX, K1.out⟩
            case measure => simp [RowKit.intOf]; omega
          · have b2 : ((t : Int) != (wd : Int)) = true := by rw [bne_iff_ne]; omega
            have HX := Go.Lib.hid (HNO.out fun h => e2 (hq.1 h).2)
            clear hq e1 e2
            go_wp2
            go_ret
            exact ⟨by simpa using HX.out, K1.out⟩
    · obtain rfl : k = N := by omega
      have HX := Go.Lib.hid (BoolP.yes (HRP.out.2 fun i h => HV.out i h (by rw [← HN.out]; exact h)))
      go_wp2
      go_ret
      exact ⟨by simpa using HX.out, HBK.out⟩
end Go.Proofs.Ytkdhffidkopmcaa
