/- Layer 12: the law of removed cells (11), walked. -/
import Derived.Test.YtkdhffidkopmcaaE1
import Derived.Deep.RegionLaw
import Derived.Deep.QuietTactic
import Derived.BigQuiet
namespace Go.Proofs.Ytkdhffidkopmcaa
open Go.RowKit Go.Lib Go.Maps
set_option linter.unusedVariables false

def Lft (w wr : World) (N : Nat) (v : Value) (L : List (List Cl)) : Prop := LfAt w wr w.heap.size v L ∧ (∀ r ∈ L, GoodR r) ∧ Below w.heap.size w wr
theorem goodR_snoc {L : List (List Cl)} {r : List Cl} (h : ∀ r ∈ L, GoodR r) (hr : GoodR r) : ∀ x ∈ L ++ [r], GoodR x := fun x hx => by
  rcases List.mem_append.1 hx with hx | hx
  · exact h x hx
  · rw [List.mem_singleton.1 hx]; exact hr
theorem goodR_cut {r : List Cl} (h : GoodR r) (k : Nat) : GoodR (r.take k ++ r.drop (k + 1)) := by
  refine ⟨?_, fun x hx => ?_⟩
  · have := h.1
    rw [List.length_append, List.length_take, List.length_drop]; omega
  · rcases List.mem_append.1 hx with hx | hx
    · exact h.2 x (List.mem_of_mem_take hx)
    · exact h.2 x (List.mem_of_mem_drop hx)

set_option maxRecDepth 100000 in
set_option maxHeartbeats 8000000 in
theorem law_removes (A : Option Addr) (N c : Nat) (T : List (List Cl)) (hN : T.length = N) (hc : N ≤ c ∧ c ≤ maxLen) (row cell : Int) (w : World) (hA : TbAt w A T) : Calls Try.prog 11 #[.slice A N c, .int .i64 row, .int .i64 cell] w (TrueW w) := by
  have cK := Go.Lib.hid (fun w' => known_any w')
  have cS := Go.Lib.hid (fun w' (hb : Below w.heap.size w w') => small_any T A N c hN hc w' (hA.below hb))
  obtain ⟨i9, hi9, hz90, hz91, hz92⟩ := info_parts info39
  obtain ⟨i7, hi7, hz70, hz71, hz72⟩ := info_parts info74
  have HA := Go.Lib.hid hA
  have HN := Go.Lib.hid hN
  have HC := Go.Lib.hid hc
  have hc1 := hc.1
  have hc2 := hc.2
  unfold maxLen at hc2
  clear hA hN hc
  go_enter Try.func11, Try.ntmps11
  go_wp2_with fail
  (with_reducible refine (cK.out _).mono ?_)
  rintro e w1 ⟨rfl, k1⟩
  have s1 := k1.size
  have cs := cS.out w1 k1
  go_wp2_with fail
  (with_reducible refine cs.mono ?_)
  rintro e w2 ⟨⟨b, rfl, hb⟩, k2⟩
  have K2 := Go.Lib.hid (k1.trans (k2.mono s1))
  have s2 := K2.out.size
  clear cs k1 k2
  have hout : b = false ∨ row < 0 ∨ (N : Int) ≤ row ∨ (b = true ∧ 0 ≤ row ∧ row < (N : Int)) := by
    cases b with
    | false => exact .inl rfl
    | true => rcases Int.lt_or_le row 0 with h | h
              · exact .inr (.inl h)
              · rcases Int.lt_or_le row N with h' | h'
                · exact .inr (.inr (.inr ⟨rfl, h, h'⟩))
                · exact .inr (.inr (.inl h'))
  have HB := Go.Lib.hid hb
  clear hb
  rcases hout with rfl | h | h | ⟨rfl, h1, h2⟩
  · go_wp2_with fail
    (with_reducible refine (cK.out _).mono ?_)
    rintro e w3 ⟨rfl, k3⟩
    go_wp2
    go_ret
    exact ⟨by simp, K2.out.trans (k3.mono s2)⟩
  · have hd : decide (row < 0) = true := decide_eq_true h
    cases b
    all_goals
      go_wp2_with fail
      (with_reducible refine (cK.out _).mono ?_)
      rintro e w3 ⟨rfl, k3⟩
      go_wp2
      go_ret
      exact ⟨by simp, K2.out.trans (k3.mono s2)⟩
  · have hd : decide (row < 0) = false := decide_eq_false (by omega)
    cases b
    all_goals
      go_wp2_with fail
      (with_reducible refine (cK.out _).mono ?_)
      rintro e w3 ⟨rfl, k3⟩
      go_wp2
      go_ret
      exact ⟨by simp, K2.out.trans (k3.mono s2)⟩
  · have HT := Go.Lib.hid (HB.out rfl)
    clear HB
    obtain ⟨rw_, rfl⟩ := Int.eq_ofNat_of_zero_le h1
    have hrN : rw_ < N := by omega
    have hd : decide ((rw_ : Int) < 0) = false := decide_eq_false (by omega)
    have hd2 : decide (N ≤ rw_) = false := decide_eq_false (by omega)
    have cE := Go.Lib.hid (fun w' (hb : Below w.heap.size w w') => exists_any T HT.out A N c HN.out HC.out rw_ cell w' (HA.out.below hb))
    have hN10 : N ≤ 10 := by rw [← HN.out]; exact HT.out.1
    have hst := Go.Lib.hid (show Lft w w2 N (.slice none 0 0) [] from ⟨LfAt.nil _ _ _, (fun r h => absurd h (List.not_mem_nil)), K2.out⟩)
    clear s2 K2 h1 h2
    go_wp2_with fail
    go_loopw [7, 8, 9] (fun s7 s8 _ wr => ∃ (i : Nat) (L : List (List Cl)), i ≤ N ∧ s8 = .int .i64 (i : Nat) ∧ L.length ≤ i ∧ Hid (Lft w wr N s7 L)) (fun _ s8 _ _ => N - (RowKit.intOf s8).toNat)
    case atStart => exact ⟨0, [], Nat.zero_le _, rfl, Nat.le_refl _, hst⟩
    case round =>
      obtain ⟨i, L, hi, rfl, hLi, HL⟩ := hrel
      clear hst
      by_cases hlt : i < N
      · have p0 : (0 : Int) ≤ (i : Int) := by omega
        have p1 : (i : Int) < (N : Int) := by omega
        have hiT : i < T.length := by have := HN.out; omega
        obtain ⟨g, o, rfl, hg, hrows⟩ := HA.out.row hiT
        obtain ⟨a1, a2, B, n2, cB, D, dn, dc, Y, yn, yc, Ac, kc, d0, d1, d2, d3, d4, d5, g1, g2, hcs⟩ := hrows i hiT
        have hbk := HL.out.2.2
        have HCS := Go.Lib.hid hcs
        have HGR := Go.Lib.hid (HT.out.2 _ (List.getElem_mem hiT))
        have z0 := (hbk.cell (p := ⟨g, o + i * 6, none⟩) hg).trans d0
        have z1 := (hbk.cell (p := ⟨g, o + i * 6 + 1, none⟩) hg).trans d1
        have z2 := (hbk.cell (p := ⟨g, o + i * 6 + 2, none⟩) hg).trans d2
        have z3 := (hbk.cell (p := ⟨g, o + i * 6 + 3, none⟩) hg).trans d3
        have z4 := (hbk.cell (p := ⟨g, o + i * 6 + 4, none⟩) hg).trans d4
        have z5 := (hbk.cell (p := ⟨g, o + i * 6 + 5, none⟩) hg).trans d5
        have HBK := Go.Lib.hid hbk
        have hsz := hbk.size
        obtain ⟨rl, hrl⟩ : ∃ rl, T[i].length = rl := ⟨_, rfl⟩
        have HRL := Go.Lib.hid hrl
        rw [hrl] at z5 g1
        have G12 := Go.Lib.hid (⟨g1, g2⟩ : rl ≤ kc ∧ kc ≤ maxLen)
        unfold maxLen at g2
        have hr40 : rl ≤ 40 := by rw [← hrl]; exact HGR.out.1
        have o1 := ObjAt.new wr #[.slice B n2 cB, .int .i64 a1, .int .i64 a2, .slice D dn dc, .slice Y yn yc, .slice Ac rl kc] 39
        have O1 := Go.Lib.hid o1
        have x0 := o1.s0
        have x1 := o1.s1
        have x2 := o1.s2
        have x3 := o1.s3
        have x4 := o1.s4
        have x5 := o1.s5
        have f5 := o1.frozen 5
        have BX := Go.Lib.hid ((Below.refl wr.heap.size wr).alloc (Nat.le_refl _) (.cells #[.slice B n2 cB, .int .i64 a1, .int .i64 a2, .slice D dn dc, .slice Y yn yc, .slice Ac rl kc] 39))
        have ce := cE.out (wr.alloc (.cells #[.slice B n2 cB, .int .i64 a1, .int .i64 a2, .slice D dn dc, .slice Y yn yc, .slice Ac rl kc] 39)) (hbk.trans (BX.out.mono hbk.size))
        have VS := Go.Lib.hid (HL.out.1)
        obtain ⟨vss, hvl, hown, hvr⟩ := HL.out.1
        have HOW := Go.Lib.hid (⟨hvl, hown, hvr⟩ : vss.length = L.length ∧ wr.ownsRow w.heap.size 39 6 u7 L.length vss.flatten ∧ ∀ k (h : k < L.length) (h' : k < vss.length), RV w wr L[k] vss[k])
        obtain ⟨ll, hll⟩ : ∃ ll, L.length = ll := ⟨_, rfl⟩
        have HLL := Go.Lib.hid hll
        have how := hown
        rw [hll] at how
        have HOW2 := Go.Lib.hid how
        have hll10 : ll ≤ 10 := by omega
        clear hrows hcs d0 d1 d2 d3 d4 d5 hrl hbk o1 hvl hown hvr how hll
        by_cases hir : i = rw_
        · have b1 : ((i : Int) == (rw_ : Int)) = true := beq_iff_eq.2 (by omega)
          have HIR := Go.Lib.hid hir
          clear hir
          go_wp2_with fail
          (with_reducible refine ce.mono ?_)
          rintro e w5 ⟨⟨b, rfl, hb⟩, rfl⟩
          clear ce
          cases b with
          | false =>
            clear hb
            have HLN := Go.Lib.hid (show Lft w (wr.alloc (.cells #[.slice B n2 cB, .int .i64 a1, .int .i64 a2, .slice D dn dc, .slice Y yn yc, .slice Ac rl kc] 39)) N u7 L from ⟨HL.out.1.keep BX.out, HL.out.2.1, HL.out.2.2.trans (BX.out.mono hsz)⟩)
            go_wp2
            go_roundw
            case rel => exact ⟨i + 1, L, by omega, by go_num, by omega, HLN⟩
            case measure => simp [RowKit.intOf]; omega
          | true =>
            have hex := hb.1 rfl
            have hcl0 := hex.lt.2.2
            rw [← HIR.out] at hex
            have hcl1 := hex.lt2 hiT
            rw [HRL.out] at hcl1
            obtain ⟨kk, rfl⟩ := Int.eq_ofNat_of_zero_le hcl0
            clear hb hex hcl0
            have c0' : (0 : Int) ≤ (kk : Int) := by omega
            have c1' : (kk : Int) ≤ (kc : Int) := by have := G12.out.1; omega
            have c2' : (kk : Int) + 1 ≤ (rl : Int) := by omega
            have c3' : IntKind.i64.wrap ((kk : Int) + 1) = (kk : Int) + 1 := IntWalk.i64_in _ (by omega)
            have c4' : (0 : Int) ≤ (kk : Int) + 1 := by omega
            have c5' : (kk : Int) + 1 ≤ (kc : Int) := by have := G12.out.1; omega
            obtain ⟨gc, oc, rfl⟩ : ∃ gc oc, Ac = some ⟨gc, oc, none⟩ := by
              rcases HCS.out with h | ⟨gc, oc, h, _⟩
              · exact absurd (by rw [h]; rfl : T[i].length = 0) (by rw [HRL.out]; omega)
              · exact ⟨gc, oc, h⟩
            obtain ⟨cvs, hcv, hnw⟩ := HCS.out.vals
            have hcl7 := hcv.len
            have hcvl : cvs.length = rl := by rw [hcv.1, HRL.out]
            have N1 := Go.Lib.hid (fun X (hb : Below w.heap.size w X) => news_at (k := 0) hnw hb (flat_take hcl7 kk))
            have N2 := Go.Lib.hid (fun X (hb : Below w.heap.size w X) => news_at (k := (kk + 1) * 7) hnw hb (flat_drop hcl7 (kk + 1) (by omega)))
            have L1 := Go.Lib.hid (show (cvs.take kk).flatten.length = kk * 7 by rw [flat_len _ fun vs hv => hcl7 vs (List.mem_of_mem_take hv), List.length_take, Nat.min_eq_left (by omega)])
            have L2 := Go.Lib.hid (show (cvs.drop (kk + 1)).flatten.length = (rl - (kk + 1)) * 7 by rw [flat_len _ fun vs hv => hcl7 vs (List.mem_of_mem_drop hv), List.length_drop, hcvl])
            have ON1 := Go.Lib.hid (hcv.take kk).one
            have ON2 := Go.Lib.hid (hcv.drop (kk + 1)).one
            have CVR := Go.Lib.hid ((hcv.take kk).append (hcv.drop (kk + 1)))
            have GRC := Go.Lib.hid (goodR_cut HGR.out kk)
            have RLN := Go.Lib.hid (show (T[i].take kk ++ T[i].drop (kk + 1)).length = 0 + kk + (rl - (kk + 1)) by rw [List.length_append, List.length_take, List.length_drop, HRL.out]; omega)
            obtain ⟨nn, hnn⟩ : ∃ nn, 0 + kk + (rl - (kk + 1)) = nn := ⟨_, rfl⟩
            have RNN := Go.Lib.hid (show (T[i].take kk ++ T[i].drop (kk + 1)).length = nn by rw [RLN.out, hnn])
            have HXS := Go.Lib.hid (show ([] ++ (cvs.take kk).flatten) ++ (cvs.drop (kk + 1)).flatten = (cvs.take kk ++ cvs.drop (kk + 1)).flatten by simp)
            clear hnn
            have HBB := Go.Lib.hid (HBK.out.trans ((BX.out.alloc BX.out.size (.cells #[] 74)).mono hsz))
            have OE := Go.Lib.hid (own_empty (wr.alloc (.cells #[.slice B n2 cB, .int .i64 a1, .int .i64 a2, .slice D dn dc, .slice Y yn yc, .slice (some ⟨gc, oc, none⟩) rl kc] 39)) wr.heap.size (wr.heap.size + 1) 74 7 (by simp) (by omega))
            have OBX := Go.Lib.hid (O1.out.alloc (.cells #[] 74))
            have BX2 := Go.Lib.hid (BX.out.alloc BX.out.size (.cells #[] 74))
            have hob := OBX.out.s5
            have hbs2 : w.heap.size ≤ wr.heap.size := hsz
            obtain ⟨ad, had, N3⟩ : ∃ ad : Addr, (if kc = kk + 1 then (some ⟨gc, oc, none⟩ : Option Addr) else some ⟨gc, oc + (kk + 1) * 7, none⟩) = some ad ∧ Hid (∀ X, Below w.heap.size w X → ∀ j u, (cvs.drop (kk + 1)).flatten[j]? = some u → X.cell? (ad.add j) = some u) := by
              by_cases hcap : kc = kk + 1
              · rw [if_pos hcap]
                refine ⟨_, rfl, Go.Lib.hid fun X hb j u hj => ?_⟩
                have h1 := (List.getElem?_eq_some_iff.1 hj).1
                rw [L2.out] at h1
                have := G12.out.1
                omega
              · rw [if_neg hcap]
                exact ⟨_, rfl, Go.Lib.hid N2.out⟩
            clear hcv hnw hcl7 hcvl N2
            generalize T[i].take kk ++ T[i].drop (kk + 1) = rn at *
            generalize (cvs.take kk).flatten = ns1 at *
            generalize (cvs.drop (kk + 1)).flatten = ns2 at *
            go_wp2_with fail
            go_region_law (first
                | (refine step_append_own (by rfl) _ _ 37 (by rfl) wr.heap.size 74 i7 _ 7 120 Try.underlying37 hi7 hz70 hz71 hz72 rfl (by decide) _ 0 [] (by rfl) (OE.out.drew) ⟨gc, oc + 0, none⟩ kk _ ns1 (by rfl) L1.out (N1.out _ HBB.out.drew) ON1.out (by unfold maxLen; omega) (by omega) (by simp; omega) ?_; intro v5 w5 hown5 hgrow5; have OB5 := OBX.out.drew.kept hgrow5 (own_ne OBX.out.drew OE.out.drew (by decide)); have q5 := OB5.s5; have qf5 := OB5.frozen 5; have KK5 := Go.Lib.hid (Below.grown BX2.out.drew hgrow5 BX2.out.size (fun j e => (World.ownsRow.lt OE.out.drew j e).1)))
                | (refine step_append_own (by rfl) _ _ 37 (by rfl) wr.heap.size 74 i7 _ 7 120 Try.underlying37 hi7 hz70 hz71 hz72 rfl (by decide) v5 (0 + kk) ([] ++ ns1) (by rfl) hown5 ad (rl - (kk + 1)) _ ns2 (by rfl) L2.out (N3.out _ (HBK.out.trans (KK5.out.mono hsz))) ON2.out (by unfold maxLen; omega) (by omega) KK5.out.size ?_; intro v6 w6 hown6 hgrow6; obtain ⟨A6, cap6, rfl, c6a, c6b, hX6⟩ := own_csx hown6 HXS.out CVR.out RLN.out.symm nn RNN.out; have C6 := Go.Lib.hid (⟨c6a, c6b, hX6⟩ : nn ≤ cap6 ∧ cap6 ≤ maxLen ∧ CsX w w6 A6 rn); clear c6a c6b hX6; have OB6 := OB5.kept hgrow6 (own_ne OB5 hown5 (by decide)); have q6 := OB6.s5; have qf6 := OB6.frozen 5; have KK6 := Go.Lib.hid (Below.grown KK5.out hgrow6 KK5.out.size (fun j e => (World.ownsRow.lt hown5 j e).1)))
                | fail)
            all_goals
              have OB7 : ObjAt (w6.setCell ⟨wr.heap.size, 5, none⟩ (.slice A6 nn cap6)) wr.heap.size #[.slice B n2 cB, .int .i64 a1, .int .i64 a2, .slice D dn dc, .slice Y yn yc, .slice A6 nn cap6] 39 := OB6.set 5 _
              have KK7 := Go.Lib.hid (KK6.out.setCell (p := ⟨wr.heap.size, 5, none⟩) (Nat.le_refl _) (.slice A6 nn cap6))
              have C7 := Go.Lib.hid (C6.out.2.2.keep (keep9_set OB6 5 (.slice A6 nn cap6)))
              have K97 := Go.Lib.hid (show Keep9 wr (w6.setCell ⟨wr.heap.size, 5, none⟩ (.slice A6 nn cap6)) from keep9_below KK7.out)
              have HW7 := Go.Lib.hid (own_below HOW2.out KK7.out)
              have hs7 := KK7.out.size
              clear OB5 OB6 q5 q6 qf5 qf6 hown5 hgrow5 hown6 hgrow6 KK5 KK6 had N1 N3 hob
              generalize w6.setCell ⟨wr.heap.size, 5, none⟩ (.slice A6 nn cap6) = Z at *
              have y0 := OB7.s0
              have y1 := OB7.s1
              have y2 := OB7.s2
              have y3 := OB7.s3
              have y4 := OB7.s4
              have y5 := OB7.s5
              have BZ := Go.Lib.hid (fun o => (Below.refl Z.heap.size Z).alloc (Nat.le_refl _) o)
              go_wp2_with (first
                | (at_builtin; refine wpList_append_own _ rfl _ _ 22 rfl w.heap.size 39 i9 (.agg #[.slice none 0 0, .int .i64 0, .int .i64 0, .slice none 0 0, .slice none 0 0, .slice none 0 0]) 6 112 Try.underlying22 hi9 hz90 hz91 hz92 rfl (by decide) _ _ _ rfl (HW7.out.alloc _) _ 1 1 [.slice B n2 cB, .int .i64 a1, .int .i64 a2, .slice D dn dc, .slice Y yn yc, .slice A6 nn cap6] rfl rfl (cell_newA _ #[.slice B n2 cB, .int .i64 a1, .int .i64 a2, .slice D dn dc, .slice Y yn yc, .slice A6 nn cap6] 39 [.slice B n2 cB, .int .i64 a1, .int .i64 a2, .slice D dn dc, .slice Y yn yc, .slice A6 nn cap6] rfl _ (by simp)) (by intro u hu; simp at hu; rcases hu with rfl | rfl | rfl | rfl | rfl | rfl <;> rfl) (by unfold maxLen; omega) (by omega) (by simp; omega) ?_; intro v7 w7 hown7 hgrow7 _)
                | fail)
              have KZ9 : Keep9 Z w7 := (keep9_below (BZ.out _)).trans (keep9_own hgrow7 (HW7.out.alloc _))
              have K9 : Keep9 wr w7 := K97.out.trans KZ9
              have LN : Lft w w7 N v7 (L ++ [rn]) := ⟨LfAt.snoc (v := u7) HOW.out.1 HOW.out.2.2 (vs := [.slice B n2 cB, .int .i64 a1, .int .i64 a2, .slice D dn dc, .slice Y yn yc, .slice A6 nn cap6]) ⟨a1, a2, B, n2, cB, D, dn, dc, Y, yn, yc, A6, cap6, by rw [RNN.out], by rw [RNN.out]; exact C6.out.1, C6.out.2.1, C7.out.keep KZ9⟩ (by rw [HLL.out]; exact hown7) K9, goodR_snoc HL.out.2.1 GRC.out,
                Below.grown (HBK.out.trans ((KK7.out.alloc hs7 _).mono hsz)) hgrow7 (Nat.le_trans hsz (Nat.le_trans hs7 (BZ.out _).size)) (fun j e => (World.ownsRow.lt HOW2.out j e).1)⟩
              have HLN2 := Go.Lib.hid LN
              clear LN hown7 hgrow7 KZ9 K9 y0 y1 y2 y3 y4 y5 OB7
              go_wp2
              go_roundw
              case rel => exact ⟨i + 1, L ++ [rn], by omega, by go_num, by simp; omega, HLN2⟩
              case measure => simp [RowKit.intOf]; omega
        · have b1 : ((i : Int) == (rw_ : Int)) = false := beq_eq_false_iff_ne.2 (by omega)
          clear hir ce
          go_wp2_with (first
              | (at_builtin; refine wpList_append_own _ rfl _ _ 22 rfl w.heap.size 39 i9 (.agg #[.slice none 0 0, .int .i64 0, .int .i64 0, .slice none 0 0, .slice none 0 0, .slice none 0 0]) 6 112 Try.underlying22 hi9 hz90 hz91 hz92 rfl (by decide) _ _ _ rfl ((HOW2.out.alloc _).alloc _) _ 1 1 [.slice B n2 cB, .int .i64 a1, .int .i64 a2, .slice D dn dc, .slice Y yn yc, .slice Ac rl kc] rfl rfl (cell_newA _ #[.slice B n2 cB, .int .i64 a1, .int .i64 a2, .slice D dn dc, .slice Y yn yc, .slice Ac rl kc] 39 [.slice B n2 cB, .int .i64 a1, .int .i64 a2, .slice D dn dc, .slice Y yn yc, .slice Ac rl kc] rfl _ (by simp)) (by intro u hu; simp at hu; rcases hu with rfl | rfl | rfl | rfl | rfl | rfl <;> rfl) (by unfold maxLen; omega) (by omega) (by simp; omega) ?_; intro v7 w7 hown7 hgrow7 _)
              | fail)
          have K9 : Keep9 wr w7 := (keep9_below (BX.out.alloc BX.out.size _)).trans (keep9_own hgrow7 (own_below HOW2.out (BX.out.alloc BX.out.size _)))
          have LN : Lft w w7 N v7 (L ++ [T[i]]) := ⟨LfAt.snoc (v := u7) HOW.out.1 HOW.out.2.2 (vs := [.slice B n2 cB, .int .i64 a1, .int .i64 a2, .slice D dn dc, .slice Y yn yc, .slice Ac rl kc]) (RV.keep ⟨a1, a2, B, n2, cB, D, dn, dc, Y, yn, yc, Ac, kc, by rw [HRL.out], by rw [HRL.out]; exact G12.out.1, G12.out.2, .inl HCS.out⟩ K9) (by rw [HLL.out]; exact hown7) K9, goodR_snoc HL.out.2.1 HGR.out,
            Below.grown (HBK.out.trans ((BX.out.alloc BX.out.size _).mono hsz)) hgrow7 (Nat.le_trans hsz (BX.out.alloc BX.out.size _).size) (fun j e => (World.ownsRow.lt HOW2.out j e).1)⟩
          have HLN2 := Go.Lib.hid LN
          clear LN hown7 hgrow7
          go_wp2
          go_roundw
          case rel => exact ⟨i + 1, L ++ [T[i]], by omega, by go_num, by simp; omega, HLN2⟩
          case measure => simp [RowKit.intOf]; omega
      · obtain rfl : i = N := by omega
        obtain ⟨A7, cap7, hv7, hcl7, hcm7, hT7⟩ := HL.out.1.tb HL.out.2.2
        subst hv7
        obtain ⟨wB, rfl⟩ : ∃ x, x = wr := ⟨_, rfl⟩
        have HT7 := Go.Lib.hid hT7
        have GT7 := Go.Lib.hid (show GoodT L from ⟨by omega, HL.out.2.1⟩)
        have KB := Go.Lib.hid HL.out.2.2
        obtain ⟨ll, hll⟩ : ∃ ll, L.length = ll := ⟨_, rfl⟩
        have HLL := Go.Lib.hid hll
        rw [hll] at hcl7 hLi ⊢
        have HC7 := Go.Lib.hid (⟨hcl7, hcm7⟩ : ll ≤ cap7 ∧ cap7 ≤ maxLen)
        unfold maxLen at hcm7
        have cSp := Go.Lib.hid (fun (j : Int) w' (hb : Below wB.heap.size wB w') => spansAt_any L GT7.out A7 ll cap7 HLL.out HC7.out j w' (HT7.out.below hb))
        have cPl := Go.Lib.hid (fun (j k : Int) w' (hb : Below wB.heap.size wB w') => gplace_any L GT7.out A7 ll cap7 HLL.out HC7.out j k w' (HT7.out.below hb))
        have bb0 := Below.refl wB.heap.size wB
        clear hT7 hll HL cE
        go_wp2_with fail
        go_loopw [6, 10, 11, 12, 13, 14, 15] (fun s6 s10 _ _ _ _ _ wr => s6 = .bool false ∧ ∃ j : Nat, j ≤ ll ∧ s10 = .int .i64 (j : Nat) ∧ Below wB.heap.size wB wr) (fun _ s10 _ _ _ _ _ _ => ll - (RowKit.intOf s10).toNat)
        case atStart => exact ⟨rfl, 0, Nat.zero_le _, rfl, bb0⟩
        case round =>
          clear bb0
          obtain ⟨rfl, j, hj, rfl, hbk⟩ := hrel
          have HBK := Go.Lib.hid hbk
          by_cases hlt2 : j < ll
          · have r0 : (0 : Int) ≤ (j : Int) := by omega
            have r1 : (j : Int) < (ll : Int) := by omega
            have hjL : j < L.length := by rw [HLL.out]; exact hlt2
            obtain ⟨g, o, rfl, hg, hrows⟩ := HT7.out.row hjL
            obtain ⟨a1, a2, B, n2, cB, D, dn, dc, Y, yn, yc, Ac, kc, d0, d1, d2, d3, d4, d5, g1, g2, hcs⟩ := hrows j hjL
            obtain ⟨rl, hrl⟩ : ∃ rl, L[j].length = rl := ⟨_, rfl⟩
            have HRL := Go.Lib.hid hrl
            rw [hrl] at d5
            have hr40 : rl ≤ 40 := by rw [← hrl]; exact (GT7.out.2 _ (List.getElem_mem hjL)).1
            have D5 := Go.Lib.hid (fun w' (hb : Below wB.heap.size wB w') => (hb.cell (p := ⟨g, o + j * 6 + 5, none⟩) hg).trans d5)
            have csp := cSp.out j wr hbk
            have hs4 := hbk.size
            clear hrows hcs d0 d1 d2 d3 d4 d5 hrl g1 g2 hbk
            go_wp2_with fail
            (with_reducible refine csp.mono ?_)
            rintro e w4 ⟨hR, k4⟩
            have K4 := Go.Lib.hid (HBK.out.trans (k4.mono hs4))
            have y5 := D5.out w4 K4.out
            clear csp k4
            rcases hR with ⟨hno, rfl⟩ | ⟨j', hj', s, e1, hsp, rfl⟩
            · exact absurd hjL (hno j rfl)
            · obtain rfl : j = j' := by omega
              have HLP := Go.Lib.hid (plR_len L[j])
              obtain ⟨gs, rfl⟩ : ∃ gs, s = .slice (some ⟨gs, 0, none⟩) rl rl := by
                obtain ⟨gs, h1, _⟩ := id hsp
                exact ⟨gs, by rw [h1, HLP.out, HRL.out]⟩
              have HSP := Go.Lib.hid hsp
              have bm : ((rl : Int) != (rl : Int)) = false := by simp
              have hb4 := K4.out
              clear hsp e1
              go_wp2_with fail
              go_loopw [6, 13, 14, 15] (fun s6 s13 _ _ w5 => s6 = .bool false ∧ ∃ k : Nat, k ≤ rl ∧ s13 = .int .i64 (k : Nat) ∧ Hid (∃ b0, SpAt w5 b0 (.slice (some ⟨gs, 0, none⟩) rl rl) (plR L[j])) ∧ Below wB.heap.size wB w5) (fun _ s13 _ _ _ => rl - (RowKit.intOf s13).toNat)
              case atStart => exact ⟨rfl, 0, Nat.zero_le _, rfl, Go.Lib.hid ⟨_, HSP.out⟩, hb4⟩
              case round =>
                clear HSP hb4 y5 K4
                obtain ⟨rfl, k, hk, rfl, HS, hb5⟩ := hrel
                have HB5 := Go.Lib.hid hb5
                by_cases hlt3 : k < rl
                · have q0 : (0 : Int) ≤ (k : Int) := by omega
                  have q1 : (k : Int) < (rl : Int) := by omega
                  have hkL : k < L[j].length := by rw [HRL.out]; exact hlt3
                  have cp := cPl.out j k wr hb5
                  have hs5 := hb5.size
                  obtain ⟨b0, hsp⟩ := HS.out
                  have HSP := Go.Lib.hid hsp
                  obtain ⟨gs', he, _, hgs, hcl⟩ := hsp.cells
                  injection he with he1 he2 he3
                  clear he2 he3
                  injection he1 with he1
                  injection he1 with he1
                  subst he1
                  obtain ⟨x0, x1⟩ := hcl k (by rw [HLP.out]; exact hkL)
                  have hat0 := At_of hjL (List.getElem?_eq_getElem (show k < (plR L[j]).length by rw [HLP.out]; exact hkL))
                  clear hb5 hcl hsp
                  go_wp2_with fail
                  (with_reducible refine cp.mono ?_)
                  rintro e w6 ⟨hpl, k6⟩
                  obtain ⟨f1, t1, m1, hat, hcase⟩ := place_of hpl hjL hkL
                  obtain ⟨e1, e2, _⟩ := Gd.At.fn hat0 hat
                  have hkl' : k < (plR L[j]).length := by rw [HLP.out]; exact hkL
                  have e1' : (plR L[j])[k].1 = f1 := e1
                  have e2' : (plR L[j])[k].2.1 = t1 := e2
                  rw [e1'] at x0
                  rw [e2'] at x1
                  have y0 := (k6.cell (p := ⟨gs, k * 2, none⟩) hgs).trans x0
                  have y1 := (k6.cell (p := ⟨gs, k * 2 + 1, none⟩) hgs).trans x1
                  have HB6 := Go.Lib.hid (HB5.out.trans (k6.mono hs5))
                  have HS6 := Go.Lib.hid (HSP.out.below k6)
                  have hgs6 := Nat.lt_of_lt_of_le hgs k6.size
                  have hx : ∀ (o : Obj) j, (w6.alloc o).cell? ⟨gs, j, none⟩ = w6.cell? ⟨gs, j, none⟩ := fun o j => World.cell?_alloc_old w6 o ⟨gs, j, none⟩ (by show gs ≠ w6.heap.size; omega)
                  have HSA := Go.Lib.hid (fun (o : Obj) => (⟨b0, HS6.out.below ((Below.refl w6.heap.size w6).alloc (Nat.le_refl _) o)⟩ : ∃ b0, SpAt (w6.alloc o) b0 (.slice (some ⟨gs, 0, none⟩) rl rl) (plR L[j])))
                  clear cp hpl hat hat0 e1 e2 e1' e2' x0 x1 k6
                  rcases hcase with ⟨hft, rfl⟩ | ⟨hft, c1, b1, m', ha', hbt, rfl⟩
                  · have bq : ((f1 : Int) == (t1 : Int)) = true := beq_iff_eq.2 (by omega)
                    clear hft
                    unfold rectV
                    go_wp2_with fail
                    go_quiet (fail)
                    go_wp2
                    go_roundw
                    case rel => exact ⟨rfl, k + 1, by omega, by go_num, Go.Lib.hid (HSA.out _), below_drewN (HB6.out.alloc HB6.out.size _) _⟩
                    case measure => simp [RowKit.intOf]; omega
                  · have bq : ((f1 : Int) == (t1 : Int)) = false := beq_eq_false_iff_ne.2 (by omega)
                    have htl := Gd.top_le (plT L) f1 t1 j
                    have hbb := hbt.1
                    clear ha' hbt
                    generalize Gd.top (plT L) f1 t1 j = tp at *
                    have m1 : ((f1 : Int) != (f1 : Int)) = false := by simp
                    have m2 : ((t1 : Int) != (t1 : Int)) = false := by simp
                    have m3 : decide (j < tp) = false := decide_eq_false (by omega)
                    have m4 : decide (b1 ≤ j) = false := decide_eq_false (by omega)
                    unfold rectV
                    clear hft
                    go_wp2_with fail
                    go_quiet (fail)
                    go_wp2_with fail
                    go_quiet (fail)
                    go_wp2
                    go_roundw
                    case rel => exact ⟨rfl, k + 1, by omega, by go_num, Go.Lib.hid (HSA.out _), by first | exact below_drewN (HB6.out.alloc HB6.out.size _) _ | exact below_drewN (below_drewN (HB6.out.alloc HB6.out.size _) _) _⟩
                    case measure => simp [RowKit.intOf]; omega
                · obtain rfl : k = rl := by omega
                  clear hb5
                  go_wp2
                  go_roundw
                  case rel => exact ⟨rfl, j + 1, by omega, by go_num, HB5.out⟩
                  case measure => simp [RowKit.intOf]; omega
          · obtain rfl : j = ll := by omega
            clear hbk
            go_wp2
            go_ret
            exact ⟨by simp, KB.out.trans (HBK.out.mono KB.out.size)⟩

end Go.Proofs.Ytkdhffidkopmcaa
