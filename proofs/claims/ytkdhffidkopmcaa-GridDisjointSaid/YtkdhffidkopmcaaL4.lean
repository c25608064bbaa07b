/- Layer 12: the law of disjoint rectangles (8), walked. -/
import Derived.Test.YtkdhffidkopmcaaD1
namespace Go.Proofs.Ytkdhffidkopmcaa
open Go.RowKit Go.Lib Go.Maps
set_option linter.unusedVariables false

set_option maxRecDepth 100000 in
set_option maxHeartbeats 8000000 in
theorem law_disjoint (A : Option Addr) (N c : Nat) (T : List (List Cl)) (hN : T.length = N) (hc : N ≤ c ∧ c ≤ maxLen) (w : World) (hA : TbAt w A T) : Calls Try.prog 8 #[.slice A N c] w (TrueW w) := by
  have cK := Go.Lib.hid (fun w' => known_any w')
  have cS := Go.Lib.hid (fun w' (hb : Below w.heap.size w w') => small_any T A N c hN hc w' (hA.below hb))
  have HA := Go.Lib.hid hA
  have HN := Go.Lib.hid hN
  have HC := Go.Lib.hid hc
  have hc1 := hc.1
  have hc2 := hc.2
  unfold maxLen at hc2
  clear hA hN hc
  go_enter Try.func8, Try.ntmps8
  go_wp2_with fail
  (with_reducible refine (cK.out _).mono ?_)
  rintro e w1 ⟨rfl, k1⟩
  have s1 := k1.size
  have cs := cS.out w1 k1
  go_wp2_with fail
  (with_reducible refine cs.mono ?_)
  rintro e w2 ⟨⟨b, rfl, hb⟩, k2⟩
  have K2 := Go.Lib.hid (k1.trans (k2.mono s1))
  have s2 := K2.out.size
  clear cs k1 k2
  cases b with
  | false =>
    clear hb
    go_wp2_with fail
    (with_reducible refine (cK.out _).mono ?_)
    rintro e w3 ⟨rfl, k3⟩
    go_wp2
    go_ret
    exact ⟨by simp, K2.out.trans (k3.mono s2)⟩
  | true =>
    have HT := Go.Lib.hid (hb rfl)
    clear hb
    have c1 := rects_any T HT.out A N c HN.out HC.out w2 (HA.out.below K2.out)
    have cA := Go.Lib.hid (fun (i q : Nat) w' (hb : Below w.heap.size w w') => gat_any T HT.out A N c HN.out HC.out i q w' (HA.out.below hb))
    have hN10 : N ≤ 10 := by rw [← HN.out]; exact HT.out.1
    go_wp2_with fail
    (with_reducible refine c1.mono ?_)
    rintro e w3 ⟨rv, rs, f, rfl, hR, hF, hl4, k3⟩
    have K3 := Go.Lib.hid (K2.out.trans (k3.mono s2))
    obtain ⟨rc, rcap, hrv⟩ : ∃ B d, rv = .slice B rs.length d := by
      obtain ⟨_, h | ⟨g, cap, cur, rfl, _⟩⟩ := id hR
      · exact ⟨none, 0, by rw [h.1, h.2]⟩
      · exact ⟨_, _, rfl⟩
    subst hrv
    have HR := Go.Lib.hid hR
    have HF := Go.Lib.hid hF
    obtain ⟨ln, hln⟩ : ∃ ln, rs.length = ln := ⟨_, rfl⟩
    have HLN := Go.Lib.hid hln
    rw [hln] at hl4 ⊢
    clear c1 k3 hR hF hln
    have bb0 := Below.refl w3.heap.size w3
    go_wp2_with fail
    go_loopw [2, 4, 5, 6, 7, 8, 9, 10] (fun s2 s4 _ _ _ _ _ _ wr => s2 = .bool false ∧ ∃ i : Nat, i ≤ N ∧ s4 = .int .i64 (i : Nat) ∧ Below w3.heap.size w3 wr) (fun _ s4 _ _ _ _ _ _ _ => N - (RowKit.intOf s4).toNat)
    case atStart => exact ⟨rfl, 0, Nat.zero_le _, rfl, bb0⟩
    case round =>
      clear bb0
      obtain ⟨rfl, i, hi, rfl, hbk⟩ := hrel
      have HBK := Go.Lib.hid hbk
      by_cases hlt : i < N
      · have p0 : (0 : Int) ≤ (i : Int) := by omega
        have p1 : (i : Int) < (N : Int) := by omega
        have hiT : i < T.length := by have := HN.out; omega
        have HI := Go.Lib.hid hiT
        clear hiT
        go_wp2_with fail
        go_loopw [2, 5, 6, 7, 8, 9, 10] (fun s2 s5 _ _ _ _ _ w5 => s2 = .bool false ∧ ∃ q : Nat, q ≤ 32 ∧ s5 = .int .i64 (q : Nat) ∧ Below w3.heap.size w3 w5) (fun _ s5 _ _ _ _ _ _ => 32 - (RowKit.intOf s5).toNat)
        case atStart => exact ⟨rfl, 0, Nat.zero_le _, rfl, hbk⟩
        case round =>
          clear hbk HBK
          obtain ⟨rfl, q, hq, rfl, hb5⟩ := hrel
          have HB5 := Go.Lib.hid hb5
          by_cases hlt2 : q < 32
          · have HZ := Go.Lib.hid (HD.zero rs i q)
            go_wp2_with fail
            go_loopw [6, 7, 8] (fun s6 s7 _ w7 => ∃ k n : Nat, k ≤ ln ∧ s7 = .int .i64 (k : Nat) ∧ s6 = .int .i64 (n : Nat) ∧ n ≤ 1 ∧ Hid (HD rs i q k n) ∧ Below w3.heap.size w3 w7) (fun _ s7 _ _ => ln - (RowKit.intOf s7).toNat)
            case atStart => exact ⟨0, 0, Nat.zero_le _, rfl, rfl, Nat.zero_le _, HZ, hb5⟩
            case round =>
              clear hb5 HB5 HZ
              obtain ⟨k, n, hk, rfl, rfl, hn1, HH, hb7⟩ := hrel
              by_cases hlt3 : k < ln
              · have r0 : (0 : Int) ≤ (k : Int) := by omega
                have r1 : (k : Int) < (ln : Int) := by omega
                have hkr : k < rs.length := by rw [HLN.out]; exact hlt3
                obtain ⟨gr, hgr⟩ : ∃ gr, rc = some ⟨gr, 0, none⟩ := by
                  obtain ⟨_, h | ⟨g, cap, cur, he, _⟩⟩ := id HR.out
                  · have := h.2; omega
                  · injection he with he1; exact ⟨_, he1⟩
                subst hgr
                have hgl := (World.ownsRow.lt HR.out gr rfl).2
                have dd := fun d (hd : d < 6) => (hb7.cell (p := ⟨gr, k * 6 + d, none⟩) hgl).trans ((HR.out.cellAt (k * 6 + d) (by omega)).trans (rcC_get rs k hkr d hd))
                have v2 : wr.cell? ⟨gr, k * 6 + 2, none⟩ = some (.int .i64 (rs[k].row : Nat)) := by have := dd 2 (by omega); simpa [rcV] using this
                have v3 : wr.cell? ⟨gr, k * 6 + 3, none⟩ = some (.int .i64 (rs[k].left : Nat)) := by have := dd 3 (by omega); simpa [rcV] using this
                have v4 : wr.cell? ⟨gr, k * 6 + 4, none⟩ = some (.int .i64 (rs[k].bot : Nat)) := by have := dd 4 (by omega); simpa [rcV] using this
                have v5 : wr.cell? ⟨gr, k * 6 + 5, none⟩ = some (.int .i64 (rs[k].right : Nat)) := by have := dd 5 (by omega); simpa [rcV] using this
                have HYES := Go.Lib.hid (fun h => HH.out.yes (plT_ok T) HF.out hkr h)
                have HNO := Go.Lib.hid (fun h => HH.out.no hkr h)
                unfold Hold at HYES HNO
                have HB7 := Go.Lib.hid (fun o => hb7.alloc hb7.size o)
                generalize rs[k].row = x2 at *
                generalize rs[k].left = x3 at *
                generalize rs[k].bot = x4 at *
                generalize rs[k].right = x5 at *
                clear dd hkr hb7
                by_cases t1 : x2 ≤ i
                · by_cases t2 : i < x4
                  · by_cases t3 : x3 ≤ q
                    · by_cases t4 : q < x5
                      · have HNX := Go.Lib.hid (HYES.out ⟨t1, t2, t3, t4⟩)
                        have hle := HNX.out.le
                        go_wp2
                        go_roundw
                        case rel => exact ⟨k + 1, n + 1, by omega, by go_num, by go_num, hle, HNX, HB7.out _⟩
                        case measure => simp [RowKit.intOf]; omega
                      · have HNX := Go.Lib.hid (HNO.out fun h => t4 h.2.2.2)
                        go_wp2
                        go_roundw
                        case rel => exact ⟨k + 1, n, by omega, by go_num, rfl, hn1, HNX, HB7.out _⟩
                        case measure => simp [RowKit.intOf]; omega
                    · have HNX := Go.Lib.hid (HNO.out fun h => t3 h.2.2.1)
                      go_wp2
                      go_roundw
                      case rel => exact ⟨k + 1, n, by omega, by go_num, rfl, hn1, HNX, HB7.out _⟩
                      case measure => simp [RowKit.intOf]; omega
                  · have HNX := Go.Lib.hid (HNO.out fun h => t2 h.2.1)
                    go_wp2
                    go_roundw
                    case rel => exact ⟨k + 1, n, by omega, by go_num, rfl, hn1, HNX, HB7.out _⟩
                    case measure => simp [RowKit.intOf]; omega
                · have HNX := Go.Lib.hid (HNO.out fun h => t1 h.1)
                  go_wp2
                  go_roundw
                  case rel => exact ⟨k + 1, n, by omega, by go_num, rfl, hn1, HNX, HB7.out _⟩
                  case measure => simp [RowKit.intOf]; omega
              · obtain rfl : k = ln := by omega
                have HB7 := Go.Lib.hid hb7
                have hbw := K3.out.trans (hb7.mono K3.out.size)
                have ca := cA.out i q wr hbw
                have hs := hb7.size
                clear hb7 hbw
                go_wp2_with fail
                (with_reducible refine ca.mono ?_)
                rintro e w8 ⟨hG, k8⟩
                have HB8 := Go.Lib.hid (HB7.out.trans (k8.mono hs))
                have hcase := gat_of hG HI.out hlt2
                clear ca hG k8
                rcases hcase with ⟨kk, f1, t1, m1, hx, h1, h2, rfl⟩ | ⟨hno, rfl⟩
                · obtain rfl : n = 1 := HD.one (by rw [HLN.out]; exact HH.out) HF.out HI.out hx h1 h2
                  clear hx h1 h2
                  unfold retP
                  go_wp2
                  go_roundw
                  case rel => exact ⟨rfl, q + 1, by omega, by go_num, HB8.out⟩
                  case measure => simp [RowKit.intOf]; omega
                · obtain rfl : n = 0 := HD.none (by rw [HLN.out]; exact HH.out) HF.out HI.out hno
                  clear hno
                  unfold retP
                  go_wp2
                  go_roundw
                  case rel => exact ⟨rfl, q + 1, by omega, by go_num, HB8.out⟩
                  case measure => simp [RowKit.intOf]; omega
          · obtain rfl : q = 32 := by omega
            clear hb5
            go_wp2
            go_roundw
            case rel => exact ⟨rfl, i + 1, by omega, by go_num, HB5.out⟩
            case measure => simp [RowKit.intOf]; omega
      · obtain rfl : i = N := by omega
        clear hbk
        go_wp2
        go_ret
        exact ⟨by simp, K3.out.trans (HBK.out.mono K3.out.size)⟩
end Go.Proofs.Ytkdhffidkopmcaa
