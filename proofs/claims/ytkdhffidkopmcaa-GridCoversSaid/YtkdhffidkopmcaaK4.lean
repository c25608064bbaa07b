/- Layer 12: Small (13). -/
import Derived.Test.YtkdhffidkopmcaaK3
namespace Go.Proofs.Ytkdhffidkopmcaa
open Go.RowKit Go.Lib Go.Maps
set_option linter.unusedVariables false

def Incr (l : List Pr) (j : Nat) : Prop := ∀ a (h : a + 1 < l.length), a + 1 < j → l[a].1 < l[a + 1].1
theorem sort_incr {l : List Pr} (h : Incr l l.length) : SortP l := by
  have key : ∀ d i (hi : i < l.length) (hj : i + (d + 1) < l.length), l[i].1 < l[i + (d + 1)].1 := by
    intro d
    induction d with
    | zero => intro i hi hj; exact h i hj hj
    | succ d ih =>
      intro i hi hj
      have h1 := ih i hi (by omega)
      have h2 := h (i + (d + 1)) (by omega) (by omega)
      have e : i + (d + 1) + 1 = i + (d + 1 + 1) := by omega
      simp only [e] at h2
      omega
  intro i j hi hj hij
  obtain ⟨d, rfl⟩ : ∃ d, j = i + (d + 1) := ⟨j - i - 1, by omega⟩
  exact key d i hi hj
def SmR (T : List (List Cl)) (e : Ending) : Prop := ∃ b : Bool, e = .returned (.bool b) ∧ (b = true → GoodT T)

set_option maxRecDepth 100000 in
set_option maxHeartbeats 8000000 in
theorem small_any (T : List (List Cl)) (A : Option Addr) (N c : Nat) (hN : T.length = N) (hc : N ≤ c ∧ c ≤ maxLen) (w : World) (hA : TbAt w A T) :
    Calls Try.prog 13 #[.slice A N c] w fun e w' => SmR T e ∧ Below w.heap.size w w' := by
  have hc1 := hc.1
  have hc2 := hc.2
  unfold maxLen at hc2
  have HN := Go.Lib.hid hN
  have HA := Go.Lib.hid hA
  have hb0 := Below.refl w.heap.size w
  clear hN hA hc
  by_cases h10 : N ≤ 10
  · have q0 : ¬ (10 : Int) < (N : Int) := by omega
    go_enter Try.func13, Try.ntmps13
    go_wp2_with fail
    go_loopw [3, 4, 5, 6] (fun s3 _ _ _ wr => ∃ i : Nat, i ≤ N ∧ s3 = .int .i64 (i : Nat) ∧ Hid (∀ j (h : j < T.length), j < i → GoodR T[j]) ∧ Below w.heap.size w wr) (fun s3 _ _ _ _ => N - (RowKit.intOf s3).toNat)
    case atStart => exact ⟨0, Nat.zero_le _, rfl, Go.Lib.hid fun j h h' => absurd h' (Nat.not_lt_zero _), hb0⟩
    case round =>
      clear hb0
      obtain ⟨i, hi, rfl, HG, hbk⟩ := hrel
      have HBK := Go.Lib.hid hbk
      by_cases hlt : i < N
      · have p0 : (0 : Int) ≤ (i : Int) := by omega
        have p1 : (i : Int) < (N : Int) := by omega
        have hiT : i < T.length := by have := HN.out; omega
        obtain ⟨g, o, rfl, hg, hrows⟩ := HA.out.row hiT
        obtain ⟨a1, a2, B, n, cB, D, dn, dc, Y, yn, yc, Ac, kc, c0, c1, c2, c3, c4, c5, g1, g2, hcs⟩ := hrows i hiT
        have x5 := (hbk.cell (p := ⟨g, o + i * 6 + 5, none⟩) hg).trans c5
        have C5 := Go.Lib.hid c5
        have HCS := Go.Lib.hid hcs
        obtain ⟨ln, hln⟩ : ∃ ln, T[i].length = ln := ⟨_, rfl⟩
        rw [hln] at x5 g1
        rw [hln] at C5
        have HLN := Go.Lib.hid hln
        unfold maxLen at g2
        clear hrows c0 c1 c2 c3 c4 c5 hcs hln
        by_cases h40 : ln ≤ 40
        · have p2 : ¬ (40 : Int) < (ln : Int) := by omega
          go_wp2_with fail
          clear x5
          go_loopw [4, 5, 6] (fun s4 _ _ w5 => ∃ k : Nat, k ≤ ln ∧ s4 = .int .i64 (k : Nat) ∧ Hid (∀ j (h : j < T[i].length), j < k → GoodC T[i][j]) ∧ Below w.heap.size w w5) (fun s4 _ _ _ => ln - (RowKit.intOf s4).toNat)
          case atStart => exact ⟨0, Nat.zero_le _, rfl, Go.Lib.hid fun j h h' => absurd h' (Nat.not_lt_zero _), hbk⟩
          case round =>
            clear hbk
            obtain ⟨k, hk, rfl, HC, hb2⟩ := hrel
            have HB2 := Go.Lib.hid hb2
            have y5 := (hb2.cell (p := ⟨g, o + i * 6 + 5, none⟩) hg).trans C5.out
            by_cases hlt2 : k < ln
            · have r0 : (0 : Int) ≤ (k : Int) := by omega
              have r1 : (k : Int) < (ln : Int) := by omega
              have hkr : k < T[i].length := by have := HLN.out; omega
              rcases HCS.out with h0 | ⟨ga, oa, rfl, hga, hcl⟩
              · rw [h0] at hkr; exact absurd hkr (Nat.not_lt_zero _)
              obtain ⟨b0, b2, b3, Bp, cp, Dd, ddn, ddc, Yy, yyn, yyc, F, fc, d0, d1, d2, d3, d4, d5, d6, hp1, hp2, hP⟩ := hcl k hkr
              have z1 := (hb2.cell (p := ⟨ga, oa + k * 7 + 1, none⟩) hga).trans d1
              have z6 := (hb2.cell (p := ⟨ga, oa + k * 7 + 6, none⟩) hga).trans d6
              have HKR := Go.Lib.hid hkr
              obtain ⟨x, hx⟩ : ∃ x, T[i][k] = x := ⟨_, rfl⟩
              have HX := Go.Lib.hid hx
              replace z1 : wr.cell? ⟨ga, oa + k * 7 + 1, none⟩ = some (.slice Bp x.props.length cp) := by rw [← hx]; exact z1
              replace z6 : wr.cell? ⟨ga, oa + k * 7 + 6, none⟩ = some (.slice F x.flow fc) := by rw [← hx]; exact z6
              replace hp1 : x.props.length ≤ cp := by rw [← hx]; exact hp1
              have HP : Hid (PrAt w Bp x.props) := Go.Lib.hid (by rw [← hx]; exact hP)
              obtain ⟨lp, hlp⟩ : ∃ lp, x.props.length = lp := ⟨_, rfl⟩
              rw [hlp] at z1 hp1
              have HLP := Go.Lib.hid hlp
              unfold maxLen at hp2
              obtain ⟨fl, hfl⟩ : ∃ fl, x.flow = fl := ⟨_, rfl⟩
              rw [hfl] at z6
              have HFL := Go.Lib.hid hfl
              clear hcl d0 d1 d2 d3 d4 d5 d6 hP hx hlp hfl hkr
              by_cases h8 : lp ≤ 8
              · have t0 : ¬ (8 : Int) < (lp : Int) := by omega
                by_cases hf8 : fl ≤ 8
                · have t1 : ¬ (8 : Int) < (fl : Int) := by omega
                  go_wp2_with fail
                  clear z1 z6 y5
                  go_loopw [6] (fun s6 w6 => ∃ j : Nat, 1 ≤ j ∧ (j ≤ lp ∨ j = 1) ∧ s6 = .int .i64 (j : Nat) ∧ Hid (Incr x.props j) ∧ Below w.heap.size w w6) (fun s6 _ => lp - (RowKit.intOf s6).toNat)
                  case atStart => exact ⟨1, Nat.le_refl _, .inr rfl, rfl, Go.Lib.hid fun a h h' => by omega, hb2⟩
                  case round =>
                    clear hb2
                    obtain ⟨j, hj1, hj2, rfl, HJ, hb3⟩ := hrel
                    have HB3 := Go.Lib.hid hb3
                    by_cases hlt3 : j < lp
                    · obtain ⟨j', rfl⟩ : ∃ j', j = j' + 1 := ⟨j - 1, by omega⟩
                      have hjl : j' + 1 < x.props.length := by have := HLP.out; omega
                      rcases HP.out with h0 | ⟨gp, op, rfl, hgp, hpc⟩
                      · rw [h0] at hjl; exact absurd hjl (Nat.not_lt_zero _)
                      have u0 := (hb3.cell (p := ⟨gp, op + j' * 2, none⟩) hgp).trans (hpc j' (by omega)).1
                      have u1 := (hb3.cell (p := ⟨gp, op + (j' + 1) * 2, none⟩) hgp).trans (hpc (j' + 1) hjl).1
                      have HS := Go.Lib.hid (show x.props[j'].1 < x.props[j' + 1].1 → Incr x.props (j' + 1 + 1) from fun h a ha hl => by
                        by_cases e : a = j'
                        · subst e; exact h
                        · exact HJ.out a ha (by omega))
                      have v0 : (0 : Int) ≤ (j' : Int) := by omega
                      have v1 : (j' : Int) + 1 < (lp : Int) := by omega
                      have v2 : (j' : Int) < (lp : Int) := by omega
                      have v3 : (0 : Int) ≤ (j' : Int) + 1 := by omega
                      have v4 : IntKind.i64.wrap (j' : Int) = (j' : Int) := IntWalk.i64_in _ (by omega)
                      clear hpc hb3
                      generalize x.props[j'].1 = ka at *
                      generalize x.props[j' + 1].1 = kb at *
                      by_cases hle : kb ≤ ka
                      · go_wp2_with fail
                        go_region
                        all_goals
                          go_wp2
                          go_ret
                          exact ⟨⟨false, by simp, fun h => absurd h Bool.false_ne_true⟩, by first | exact HB3.out.drew | exact HB3.out⟩
                      · have HI := Go.Lib.hid (HS.out (by omega))
                        clear HS
                        go_wp2_with fail
                        go_region
                        all_goals
                          go_wp2
                          go_roundw
                          case rel => exact ⟨j' + 1 + 1, by omega, .inl (by omega), by go_num, HI, by first | exact HB3.out.drew | exact HB3.out⟩
                          case measure => simp [RowKit.intOf]; omega
                    · have v1 : ¬ (j : Int) < (lp : Int) := by omega
                      have HGC := Go.Lib.hid (show GoodC x from ⟨sort_incr fun a ha hl => HJ.out a ha (by have := HLP.out; omega), by rw [HLP.out]; exact h8, by rw [HFL.out]; exact hf8⟩)
                      clear hb3
                      go_wp2
                      go_roundw
                      case rel => exact ⟨k + 1, by omega, by go_num, Go.Lib.hid fun q hq hl => (by
                        by_cases e : q = k
                        · subst e; exact Eq.mpr (congrArg GoodC HX.out) HGC.out
                        · exact HC.out q hq (by omega)), HB3.out⟩
                      case measure => simp [RowKit.intOf]; omega
                · have t1 : (8 : Int) < (fl : Int) := by omega
                  clear hb2
                  go_wp2
                  go_ret
                  exact ⟨⟨false, by simp, fun h => absurd h Bool.false_ne_true⟩, HB2.out⟩
              · have t0 : (8 : Int) < (lp : Int) := by omega
                clear hb2
                go_wp2
                go_ret
                exact ⟨⟨false, by simp, fun h => absurd h Bool.false_ne_true⟩, HB2.out⟩
            · obtain rfl : k = ln := by omega
              clear hb2
              go_wp2
              go_roundw
              case rel => exact ⟨i + 1, by omega, by go_num, Go.Lib.hid fun q hq hl => (by
                by_cases e : q = i
                · subst e
                  refine ⟨by rw [HLN.out]; exact h40, fun y hy => ?_⟩
                  obtain ⟨z, hz, rfl⟩ := List.mem_iff_getElem.1 hy
                  exact HC.out z hz (by have := HLN.out; omega)
                · exact HG.out q hq (by omega)), HB2.out⟩
              case measure => simp [RowKit.intOf]; omega
        · have p2 : (40 : Int) < (ln : Int) := by omega
          clear hbk
          go_wp2
          go_ret
          exact ⟨⟨false, by simp, fun h => absurd h Bool.false_ne_true⟩, HBK.out⟩
      · obtain rfl : i = N := by omega
        clear hbk
        go_wp2
        go_ret
        refine ⟨⟨true, by simp, fun _ => ⟨by rw [HN.out]; exact h10, fun r hr => ?_⟩⟩, HBK.out⟩
        obtain ⟨z, hz, rfl⟩ := List.mem_iff_getElem.1 hr
        exact HG.out z hz (by have := HN.out; omega)
  · have q0 : (10 : Int) < (N : Int) := by omega
    go_enter Try.func13, Try.ntmps13
    go_wp2
    go_ret
    exact ⟨⟨false, by simp, fun h => absurd h Bool.false_ne_true⟩, hb0⟩
end Go.Proofs.Ytkdhffidkopmcaa
