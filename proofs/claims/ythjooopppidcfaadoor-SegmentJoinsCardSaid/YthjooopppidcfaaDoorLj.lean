/- Layer 3: the law Joins, where both strings are valid. -/
import Derived.Test.YthjooopppidcfaaDoorLj1
import Derived.Deep.RegionHeld3
namespace Go.Proofs.YthjooopppidcfaaDoor
open Go.RowKit Go.Shelf
open Gc

theorem tg_of {w : World} {A : Option Addr} {l : List Tok} (h : TAt w A l) (h0 : 0 < l.length) : ∃ g, A = some ⟨g, 0, none⟩ ∧ g < w.heap.size ∧ ∀ k x, l[k]? = some x →
    w.cell? ⟨g, k * 3, none⟩ = some (.int .i64 x.1) ∧ w.cell? ⟨g, k * 3 + 1, none⟩ = some (.int .i64 (x.2.1 : Nat)) ∧ w.cell? ⟨g, k * 3 + 2, none⟩ = some (.int .i64 (x.2.2 : Nat)) := by
  rcases h with h | ⟨g, h1, h2, h3⟩
  · rw [h] at h0; exact absurd h0 (Nat.not_lt_zero _)
  · refine ⟨g, h1, h2, fun k x hx => ?_⟩
    obtain ⟨hk, e⟩ := List.getElem?_eq_some_iff.1 hx
    rw [← e]; exact h3 k hk
theorem bg_of {w : World} {A : Option Addr} {l : List (Nat × Int)} (h : BAt w A l) (h0 : 0 < l.length) : ∃ g, A = some ⟨g, 0, none⟩ ∧ g < w.heap.size ∧ ∀ k, k < l.length →
    w.cell? ⟨g, k * 2, none⟩ = some (.int .i64 ((bk l k).1 : Nat)) ∧ w.cell? ⟨g, k * 2 + 1, none⟩ = some (.int .i64 (bk l k).2) := by
  rcases h with h | ⟨g, h1, h2, h3⟩
  · rw [h] at h0; exact absurd h0 (Nat.not_lt_zero _)
  · refine ⟨g, h1, h2, fun k hk => ?_⟩
    rw [← bk_get l k hk]; exact h3 k hk

theorem wantB_yes (P Q : List Nat) (h : Q ≠ []) : wantB P Q = wantA P ++ [(P.length + 1, 2)] := by unfold wantB; rw [if_pos ((segC_pos Q).2 h)]
theorem wantB_no (P Q : List Nat) (h : Q = []) : wantB P Q = wantA P := by unfold wantB; rw [if_neg (fun x => (segC_pos Q).1 x h), List.append_nil]
theorem wantA_yes (P : List Nat) (hP : P ≠ []) (h : Sg.classOf (lastPt P) = 1) : wantA P = ubrk P ++ [(P.length, 2)] := by
  unfold wantA
  rw [if_pos ⟨(segC_pos P).2 hP, by rw [← lastPt_class P hP]; exact h⟩]
theorem wantA_no (P : List Nat) (hP : P ≠ []) (h : Sg.classOf (lastPt P) ≠ 1) : wantA P = ubrk P := by
  unfold wantA
  rw [if_neg (fun x => h (by rw [lastPt_class P hP]; exact x.2)), List.append_nil]
theorem wantA_nil (P : List Nat) (hP : P = []) : wantA P = ubrk P := by
  unfold wantA
  rw [if_neg (fun x => (segC_pos P).1 x.1 hP), List.append_nil]
/-- append(nil, u...), u a row of breaks. -/
theorem append_first {w : World} {ops : Array Oper} {rest : List Oper} {o : Oper} {a : Act} {Q : Exit → Act → World → Prop} (hgd : o.guard = none) (s x : Operand)
    (ho : o.op = .call { callee := .builtin .append, args := #[s, x], argTypes := #[52, 52] }) (hs : a.eval s = .slice none 0 0) (v : Value) (hx : a.eval x = v) (b n : Nat) (l : List (Nat × Int)) (how : w.ownsRow b 59 2 v n (rowB l)) (hn : l.length = n) (hl : n ≤ 1000)
    (h : ∀ v' w', w'.ownsRow w.heap.size 59 2 v' n (rowB l) → w.grownBy w' none → wpList Tryd.prog ops Q rest (a.put o.dst v') w') : wpList Tryd.prog ops Q (o :: rest) a w := by
  obtain ⟨i0, hi, hz0, hz1, hz2⟩ := info_parts info59
  have how2 := how
  rcases how.2 with ⟨hv, h0⟩ | ⟨g, cap, cur, hv, hb, hg, h3⟩
  · subst hv
    subst h0
    have hl0 : l = [] := List.eq_nil_of_length_eq_zero hn
    subst hl0
    refine wpList_append_own_none hgd s x 52 ho w.heap.size 59 i0 2 Tryd.underlying52 hi _ 0 [] hs (World.ownsRow_nil _ _ _ _) hx ?_
    exact h _ _ (World.ownsRow_nil _ _ _ _) ⟨rfl, rfl, rfl, Nat.le_refl _, fun _ _ _ => rfl⟩
  · subst hv
    refine wpList_append_own w hgd s x 52 ho w.heap.size 59 i0 (.agg #[.int .i64 0, .int .i64 0]) 2 16 Tryd.underlying52 hi hz0 hz1 hz2 rfl (by decide) _ 0 [] hs (World.ownsRow_nil _ _ _ _) ⟨g, 0, none⟩ n cap (rowB l) hx (by rw [rowB_len, hn]) (fun j u hj => ?_) ?_ (by unfold maxLen; omega) (by omega) (Nat.le_refl _) ?_
    · have hjl : j < n * 2 := by
        have := (List.getElem?_eq_some_iff.1 hj).1
        rw [rowB_len, hn] at this; exact this
      have := how2.cellAt j hjl
      rw [hj] at this
      rcases Nat.eq_zero_or_pos j with rfl | h0
      · simpa [Addr.add] using this
      · have h1 : ¬ j = 0 := by omega
        simpa [Addr.add, h1] using this
    · intro u hu
      unfold rowB at hu
      obtain ⟨y, _, hy⟩ := List.mem_flatMap.1 hu
      simp at hy
      rcases hy with rfl | rfl <;> rfl
    · intro v' w' h1 h2 _
      rw [Nat.zero_add, List.nil_append] at h1
      exact h v' w' h1 h2

set_option maxRecDepth 100000 in
set_option maxHeartbeats 16000000 in
theorem joins_nil {a b c d : ByteArray} {P : List Nat} (h : Str c P []) (l1 : P.length ≤ 240) {Q : List Nat} (h2 : Str d Q []) (l2 : Q.length ≤ 240) (z1 : c.size ≤ 240) (z2 : d.size ≤ 240) (hcr : (cp P).reverse.headD 0 ≠ 1)
    (hn : P = []) (w : World) (hT : Tabs w)
    (cC : ∀ w, Calls Tryd.prog 15 #[.string a] w fun e w' => e = .returned (.string c) ∧ w = w') (cD : ∀ w, Calls Tryd.prog 15 #[.string b] w fun e w' => e = .returned (.string d) ∧ w = w') : Calls Tryd.prog 11 #[.string a, .string b] w (BoolPost true w) := by
  obtain ⟨i0, hi, hz0, hz1, hz2⟩ := info_parts info59
  have HT := Go.Lib.hid hT
  clear hT
  have hj := join_str h h2 z1 z2
  have hjl : (P ++ 10 :: Q).length ≤ 1000 := by simp; omega
  have cA := fun w' hT' => tokens_ok h (by omega) w' hT'
  have cB := fun w' hT' => tokens_ok h2 (by omega) w' hT'
  have cJ := fun w' hT' => tokens_ok hj hjl w' hT'
  have cS := fun w' => size_any h w'
  have cU := fun w' hT' => breaks_own h (by omega) w' hT'
  have cV := fun w' hT' => breaks_ok h2 (by omega) w' hT'
  have cW := fun w' hT' => breaks_ok hj hjl w' hT'

  have ul1 := utok_len P
  have ul2 := utok_len Q
  have TL := Go.Lib.hid (tk_join_left P Q hcr)
  have TM := Go.Lib.hid (tk_join_mid P Q hcr)
  have TR := Go.Lib.hid (tk_join_right P Q hcr)
  have WB1 := Go.Lib.hid (wantB_yes P Q)
  have WB0 := Go.Lib.hid (wantB_no P Q)
  have WA0 := Go.Lib.hid (wantA_nil P)
  have WE := Go.Lib.hid (wantC_end P Q hcr)
  have WS := Go.Lib.hid (wantC_succ P Q)
  have WL := Go.Lib.hid (wantC_len P Q)
  have WZ := Go.Lib.hid (wantC_zero P Q)
  have hd1 := ubrk_small P
  have hd3 := ubrk_small (P ++ 10 :: Q)
  have hd2 := ubrk_small Q
  have hsq := segC_pos Q
  have sn1 := str_nil h
  have sn2 := str_nil h2
  unfold TokensRet at cA cB cJ
  unfold BreaksRet at cV cW
  unfold BreaksOwn at cU
  unfold IntPost at cS
  rw [tk_join_len P Q hcr] at cJ
  unfold joinS at cJ cW
  clear h h2 hj hjl
  obtain ⟨n1, hn1⟩ : ∃ n, (utok P).length = n := ⟨_, rfl⟩
  obtain ⟨n2, hn2⟩ : ∃ n, (utok Q).length = n := ⟨_, rfl⟩
  obtain ⟨m, hm⟩ : ∃ n, P.length = n := ⟨_, rfl⟩
  obtain ⟨q1, hq1⟩ : ∃ n, (ubrk P).length = n := ⟨_, rfl⟩
  obtain ⟨q2, hq2⟩ : ∃ n, (ubrk Q).length = n := ⟨_, rfl⟩
  obtain ⟨q3, hq3⟩ : ∃ n, (ubrk (P ++ 10 :: Q)).length = n := ⟨_, rfl⟩
  obtain ⟨mq, hmq⟩ : ∃ n, Q.length = n := ⟨_, rfl⟩
  have N1 := Go.Lib.hid hn1
  have MQ := Go.Lib.hid hmq
  have N2 := Go.Lib.hid hn2
  have MM := Go.Lib.hid hm
  have Q1 := Go.Lib.hid hq1
  have Q2 := Go.Lib.hid hq2
  have Q3 := Go.Lib.hid hq3
  rw [hn1, hm] at ul1
  rw [hn2, hmq] at ul2
  rw [hq1, hm] at hd1
  rw [hq2, hmq] at hd2
  rw [hq3, List.length_append, List.length_cons, hm, hmq] at hd3
  rw [hm] at l1
  rw [hmq] at l2
  simp only [hn1] at cA TM TR TL
  simp only [hn2] at cB TR
  simp only [hn1, hn2] at cJ
  simp only [hm] at cS TM TR WL
  simp only [hmq] at WL
  simp only [hq1] at cU
  simp only [hq2] at cV WE WL WS
  simp only [hq3] at cW
  simp only [hm] at WS WB1
  obtain ⟨j3, hj3⟩ : ∃ l, utok (P ++ 10 :: Q) = l := ⟨_, rfl⟩
  rw [hj3] at TL TM TR
  simp only [hj3] at cJ
  have len3 : j3.length = n1 + 1 + n2 := by rw [← hj3, tk_join_len P Q hcr, hn1, hn2]
  clear hn1 hn2 hm hq1 hq2 hq3 hmq hj3 hcr
  have hwm : IntKind.i64.wrap ((m : Int) + 1) = (m : Int) + 1 := IntWalk.i64_in _ (by omega)
  have hwm2 : IntKind.i64.wrap (m : Int) = (m : Int) := IntWalk.i64_in _ (by omega)
  have hwn : IntKind.i64.wrap ((n1 : Int) + 1) = (n1 : Int) + 1 := IntWalk.i64_in _ (by omega)
  have hwn2 : IntKind.i64.wrap ((n1 : Int) + 1 + (n2 : Int)) = (n1 : Int) + 1 + (n2 : Int) := IntWalk.i64_in _ (by omega)
  have hb1 : (0 : Int) ≤ (n1 : Int) := by omega
  have hb2 : (n1 : Int) < (n1 : Int) + 1 + (n2 : Int) := by omega
  have hg0 : ¬ (0 : Int) < (c.size : Int) := by have := sn1.2 hn; omega
  have HN := Go.Lib.hid hn
  clear hn sn1
  go_enter Tryd.func11, Tryd.ntmps11
  go_wp2_with (first
    | (go_at_call 15; (with_reducible refine (cC _).mono ?_); rintro e w' ⟨rfl, rfl⟩)
    | (go_at_call 15; (with_reducible refine (cD _).mono ?_); rintro e w' ⟨rfl, rfl⟩)
    | (go_at_call 16; (with_reducible refine (cA _ HT.out).mono ?_); rintro e w1 ⟨A1, p1, rfl, T1, b1⟩; have K1 := Go.Lib.hid T1; have B1 := Go.Lib.hid b1; clear b1 T1)
    | (go_at_call 16; (with_reducible refine (cB _ (HT.out.below B1.out)).mono ?_); rintro e w2 ⟨A2, p2, rfl, T2, b2⟩; have K2 := Go.Lib.hid T2; have K12 := Go.Lib.hid (K1.out.below b2 (Nat.le_refl _)); have B2 := Go.Lib.hid (B1.out.trans (b2.mono B1.out.size)); clear b2 T2)
    | (go_at_call 12; (with_reducible refine (known_any w2 (HT.out.below B2.out)).mono ?_); rintro e w3 ⟨rfl, b3⟩; have K23 := Go.Lib.hid (K2.out.below b3 (Nat.le_refl _)); have K13 := Go.Lib.hid (K12.out.below b3 (Nat.le_refl _)); have B3 := Go.Lib.hid (B2.out.trans (b3.mono B2.out.size)); clear b3)
    | (go_at_call 16; (with_reducible refine (cJ _ (HT.out.below B3.out)).mono ?_); rintro e w4 ⟨A3, p3, rfl, T4, b4⟩; have K3 := Go.Lib.hid T4; have K24 := Go.Lib.hid (K23.out.below b4 (Nat.le_refl _)); have K14 := Go.Lib.hid (K13.out.below b4 (Nat.le_refl _)); have B4 := Go.Lib.hid (B3.out.trans (b4.mono B3.out.size)); clear b4 T4)
    | (go_at_call 26; (with_reducible refine (cS _).mono ?_); rintro e w5 ⟨rfl, b5⟩; have K25 := Go.Lib.hid (K24.out.below b5 (Nat.le_refl _)); have K15 := Go.Lib.hid (K14.out.below b5 (Nat.le_refl _)); have B5 := Go.Lib.hid (B4.out.trans (b5.mono B4.out.size)); obtain ⟨g3, rfl, hg3', hc3'⟩ := tg_of (K3.out.below b5 (Nat.le_refl _)) (by rw [len3]; omega); have HG3 := Go.Lib.hid hc3'; obtain ⟨m0, m1, m2⟩ := hc3' n1 _ TM.out; clear b5 hc3'))
  have hg3 : g3 < w5.heap.size := hg3'
  clear hg3' m0 m1 m2 cA cB cJ cS cC cD hwn2 hb1 hb2
  have HWM := Go.Lib.hid hwm
  have HWM2 := Go.Lib.hid hwm2
  go_loopw [12] (fun s12 wr => ∃ k : Nat, k ≤ n1 ∧ s12 = .int .i64 (k : Nat) ∧ Hid (Below w5.heap.size w5 wr)) (fun i _ => n1 - (RowKit.intOf i).toNat)
  case atStart => exact ⟨0, Nat.zero_le _, rfl, Go.Lib.hid (Below.refl _ _)⟩
  case round =>
    obtain ⟨k, hk, rfl, HB⟩ := hrel
    by_cases hlt : k < n1
    · have hkl : k < (utok P).length := by rw [N1.out]; exact hlt
      rcases K15.out with h0 | ⟨g1, rfl, hg1, hc1⟩
      · rw [h0] at hkl; exact absurd hkl (Nat.not_lt_zero _)
      obtain ⟨x0, x1, x2⟩ := hc1 k hkl
      rw [tk_get (utok P) k hkl] at x0 x1 x2
      obtain ⟨y0, y1, y2⟩ := HG3.out k _ (TL.out k hlt)
      have u0 := (HB.out.cell (p := ⟨g1, k * 3, none⟩) hg1).trans x0
      have u1 := (HB.out.cell (p := ⟨g1, k * 3 + 1, none⟩) hg1).trans x1
      have u2 := (HB.out.cell (p := ⟨g1, k * 3 + 2, none⟩) hg1).trans x2
      have v0 := (HB.out.cell (p := ⟨g3, k * 3, none⟩) hg3).trans y0
      have v1 := (HB.out.cell (p := ⟨g3, k * 3 + 1, none⟩) hg3).trans y1
      have v2 := (HB.out.cell (p := ⟨g3, k * 3 + 2, none⟩) hg3).trans y2
      clear x0 x1 x2 y0 y1 y2 hc1 hkl
      generalize tk (utok P) k = x at u0 u1 u2 v0 v1 v2
      obtain ⟨kd, f, t⟩ := x
      dsimp only at u0 u1 u2 v0 v1 v2
      have hk0 : (0 : Int) ≤ (k : Int) := by omega
      have hk1 : (k : Int) < (n1 : Int) := by omega
      have hk2 : (k : Int) < (n1 : Int) + 1 + (n2 : Int) := by omega
      have hk3 : k < n1 + 1 + n2 := by omega
      go_wp2
      go_quiet (fail)
      clear u0 u1 u2 v0 v1 v2
      go_wp2
      go_roundw
      case rel => exact ⟨k + 1, by omega, by go_num, Go.Lib.hid (bdrew HB.out _)⟩
      case measure => simp [RowKit.intOf]; omega
    · obtain rfl : k = n1 := by omega
      have B6 := Go.Lib.hid (B5.out.trans (HB.out.mono B5.out.size))
      go_wp2
      go_loopw [13] (fun s13 wx => ∃ j : Nat, j ≤ n2 ∧ s13 = .int .i64 (j : Nat) ∧ Hid (Below w5.heap.size w5 wx)) (fun i _ => n2 - (RowKit.intOf i).toNat)
      case atStart => exact ⟨0, Nat.zero_le _, rfl, HB⟩
      case round =>
        obtain ⟨j, hj, rfl, HX⟩ := hrel
        by_cases hjt : j < n2
        · have hjl : j < (utok Q).length := by rw [N2.out]; exact hjt
          rcases K25.out with h0 | ⟨g2, rfl, hg2, hc2⟩
          · rw [h0] at hjl; exact absurd hjl (Nat.not_lt_zero _)
          obtain ⟨x0, x1, x2⟩ := hc2 j hjl
          rw [tk_get (utok Q) j hjl] at x0 x1 x2
          obtain ⟨y0, y1, y2⟩ := HG3.out _ _ (TR.out j hjt)
          have hqt := chain_to (utok_chain Q) _ (tk_mem _ j hjl)
          have hqf := (tok_num Q j hjl).lt
          rw [MQ.out] at hqt
          have u0 := (HX.out.cell (p := ⟨g2, j * 3, none⟩) hg2).trans x0
          have u1 := (HX.out.cell (p := ⟨g2, j * 3 + 1, none⟩) hg2).trans x1
          have u2 := (HX.out.cell (p := ⟨g2, j * 3 + 2, none⟩) hg2).trans x2
          have v0 := (HX.out.cell (p := ⟨g3, (k + 1 + j) * 3, none⟩) hg3).trans y0
          have v1 := (HX.out.cell (p := ⟨g3, (k + 1 + j) * 3 + 1, none⟩) hg3).trans y1
          have v2 := (HX.out.cell (p := ⟨g3, (k + 1 + j) * 3 + 2, none⟩) hg3).trans y2
          clear x0 x1 x2 y0 y1 y2 hc2 hjl
          generalize tk (utok Q) j = x at u0 u1 u2 v0 v1 v2 hqt hqf
          obtain ⟨kd, f, t⟩ := x
          unfold umoved at v0 v1 v2
          dsimp only at u0 u1 u2 v0 v1 v2 hqt hqf
          have e1 : (((m + 1 + f : Nat) : Int)) = (f : Int) + ((m : Int) + 1) := by omega
          have e2 : (((m + 1 + t : Nat) : Int)) = (t : Int) + ((m : Int) + 1) := by omega
          rw [e1] at v1
          rw [e2] at v2
          have hw3 : IntKind.i64.wrap ((f : Int) + ((m : Int) + 1)) = (f : Int) + ((m : Int) + 1) := IntWalk.i64_in _ (by omega)
          have hw4 : IntKind.i64.wrap ((t : Int) + ((m : Int) + 1)) = (t : Int) + ((m : Int) + 1) := IntWalk.i64_in _ (by omega)
          have hw5 : IntKind.i64.wrap ((k : Int) + 1 + (j : Int)) = (k : Int) + 1 + (j : Int) := IntWalk.i64_in _ (by omega)
          have ht5 : ((k : Int) + 1 + (j : Int)).toNat = k + 1 + j := by omega
          have hk0 : (0 : Int) ≤ (j : Int) := by omega
          have hk1 : (j : Int) < (n2 : Int) := by omega
          have hk2 : (k : Int) + 1 + (j : Int) < (k : Int) + 1 + (n2 : Int) := by omega
          have hk3 : (0 : Int) ≤ (k : Int) + 1 + (j : Int) := by omega
          clear e1 e2 hqt hqf
          go_wp2
          go_quiet (fail)
          clear u0 u1 u2 v0 v1 v2 hw3 hw4 hw5 ht5 hk3
          go_wp2
          go_roundw
          case rel => exact ⟨j + 1, by omega, by go_num, Go.Lib.hid (bdrew HX.out _)⟩
          case measure => simp [RowKit.intOf]; omega
        · obtain rfl : j = n2 := by omega
          have B7 := Go.Lib.hid (B5.out.trans (HX.out.mono B5.out.size))
          clear B6 HG3 TL TM TR K15 K25 hg3 hwn
          by_cases hq : Q = []
          · have hgq : ¬ (0 : Int) < (d.size : Int) := by have := sn2.2 hq; omega
            have HQ := Go.Lib.hid hq
            clear hq hsq sn2
            go_wp2_with (first
              | (go_at_call 27; (with_reducible refine (cU _ (HT.out.below B7.out)).mono ?_); rintro e w8 ⟨v8, rfl, o8, b8⟩; have O8 := Go.Lib.hid o8; have B8 := Go.Lib.hid (B7.out.trans (b8.mono B7.out.size)); clear b8 o8)
              | (go_at_call 27; (with_reducible refine (cV _ (HT.out.below B8.out)).mono ?_); rintro e w9 ⟨A9, p9, rfl, d9, b9⟩; have D9 := Go.Lib.hid d9; have O9 := Go.Lib.hid (row_below O8.out b9); have B9 := Go.Lib.hid (B8.out.trans (b9.mono B8.out.size)); clear b9 d9)
              | (go_at_call 27; (with_reducible refine (cW _ (HT.out.below B9.out)).mono ?_); rintro e w10 ⟨A10, p10, rfl, d10, b10⟩; have D10 := Go.Lib.hid d10; have D9' := Go.Lib.hid (D9.out.below b10 (Nat.le_refl _)); have O10 := Go.Lib.hid (row_below O9.out b10); have B10 := Go.Lib.hid (B9.out.trans (b10.mono B9.out.size)); clear b10 d10)
              | (at_builtin; refine append_first rfl _ _ rfl rfl _ rfl _ _ _ O10.out Q1.out (by omega) ?_; intro v11 w11 own11 hgr11; have B11 := Go.Lib.hid ((Below.refl w10.heap.size w10).grown hgr11 (Nat.le_refl _) (fun k e => by cases e)); have OW11 := Go.Lib.hid own11; clear own11 hgr11))
            have OWB : Hid (w11.ownsRow w10.heap.size 59 2 v11 (wantB P Q).length (rowB (wantB P Q))) := by
              have e := OW11.out
              have e2 : wantB P Q = ubrk P := by rw [WB0.out HQ.out, WA0.out HN.out]
              have e3 : (wantB P Q).length = q1 := by rw [e2]; simp [Q1.out]
              have e4 : rowB (wantB P Q) = rowB (ubrk P) := by rw [e2]
              rw [← e3, ← e4] at e
              exact Go.Lib.hid e
            have BWB : Hid (Below w10.heap.size w10 w11) := Go.Lib.hid B11.out
            have HQ0 : Hid (q2 = 0) := Go.Lib.hid (by have h1 := MQ.out; rw [HQ.out] at h1; simp at h1; omega)
            go_wp2
            go_loopw [20, 21] (fun s20 s21 wy => ∃ k : Nat, k ≤ q2 ∧ s21 = .int .i64 (k : Nat) ∧ wy.ownsRow w10.heap.size 59 2 s20 (wantC P Q k).length (rowB (wantC P Q k)) ∧ Hid (Below w10.heap.size w10 wy)) (fun _ i _ => q2 - (RowKit.intOf i).toNat)
            case atStart => exact ⟨0, Nat.zero_le _, rfl, by rw [WZ.out]; exact OWB.out, BWB⟩
            case round =>
              obtain ⟨y, hy, rfl, hown, HY⟩ := hrel
              have hsy := HY.out.size
              by_cases hyt : y < q2
              · exact absurd hyt (by have := HQ0.out; omega)
              · obtain rfl : y = q2 := by omega
                rw [WE.out] at hown
                have OWE := Go.Lib.hid (bat_of hown)
                rw [Q3.out] at hown
                have hsl := hown
                have OE := OWE.out
                obtain ⟨A13, p13, rfl, d13⟩ := OE
                rw [Q3.out] at hsl
                have D13 := Go.Lib.hid d13
                have D10' := Go.Lib.hid (D10.out.below HY.out (Nat.le_refl _))
                have Q3' := Q3.out
                have B13 := Go.Lib.hid (B10.out.trans (HY.out.mono B10.out.size))
                clear hown d13 OWE hsl
                rw [Q3']
                clear Q3'
                go_wp2
                go_loopw [22] (fun s22 wz => ∃ k : Nat, k ≤ q3 ∧ s22 = .int .i64 (k : Nat) ∧ Hid (Below wr.heap.size wr wz)) (fun i _ => q3 - (RowKit.intOf i).toNat)
                case atStart => exact ⟨0, Nat.zero_le _, rfl, Go.Lib.hid (Below.refl _ _)⟩
                case round =>
                  obtain ⟨p, hp, rfl, HZ⟩ := hrel
                  by_cases hpt : p < q3
                  · have hpl : p < (ubrk (P ++ 10 :: Q)).length := by rw [Q3.out]; exact hpt
                    obtain ⟨ga, rfl, hga, hca⟩ := bg_of D13.out (by omega)
                    obtain ⟨gb, rfl, hgb, hcb⟩ := bg_of D10'.out (by omega)
                    obtain ⟨x0, x1⟩ := hca p hpl
                    obtain ⟨y0, y1⟩ := hcb p hpl
                    have u0 := (HZ.out.cell (p := ⟨ga, p * 2, none⟩) hga).trans x0
                    have u1 := (HZ.out.cell (p := ⟨ga, p * 2 + 1, none⟩) hga).trans x1
                    have v0 := (HZ.out.cell (p := ⟨gb, p * 2, none⟩) hgb).trans y0
                    have v1 := (HZ.out.cell (p := ⟨gb, p * 2 + 1, none⟩) hgb).trans y1
                    clear x0 x1 y0 y1 hca hcb hpl
                    generalize bk (ubrk (P ++ 10 :: Q)) p = x at u0 u1 v0 v1
                    obtain ⟨f, kd⟩ := x
                    dsimp only at u0 u1 v0 v1
                    have hk0 : (0 : Int) ≤ (p : Int) := by omega
                    have hk1 : (p : Int) < (q3 : Int) := by omega
                    go_wp2
                    go_quiet (fail)
                    clear u0 u1 v0 v1
                    go_wp2
                    go_roundw
                    case rel => exact ⟨p + 1, by omega, by go_num, Go.Lib.hid (bdrew HZ.out _)⟩
                    case measure => simp [RowKit.intOf]; omega
                  · go_wp2
                    go_ret
                    exact ⟨rfl, B13.out.trans (HZ.out.mono B13.out.size)⟩
          · have hgq : (0 : Int) < (d.size : Int) := by have : d.size ≠ 0 := (fun h => hq (sn2.1 h)); omega
            have HQ := Go.Lib.hid hq
            clear hq hsq sn2
            go_wp2_with (first
              | (go_at_call 27; (with_reducible refine (cU _ (HT.out.below B7.out)).mono ?_); rintro e w8 ⟨v8, rfl, o8, b8⟩; have O8 := Go.Lib.hid o8; have B8 := Go.Lib.hid (B7.out.trans (b8.mono B7.out.size)); clear b8 o8)
              | (go_at_call 27; (with_reducible refine (cV _ (HT.out.below B8.out)).mono ?_); rintro e w9 ⟨A9, p9, rfl, d9, b9⟩; have D9 := Go.Lib.hid d9; have O9 := Go.Lib.hid (row_below O8.out b9); have B9 := Go.Lib.hid (B8.out.trans (b9.mono B8.out.size)); clear b9 d9)
              | (go_at_call 27; (with_reducible refine (cW _ (HT.out.below B9.out)).mono ?_); rintro e w10 ⟨A10, p10, rfl, d10, b10⟩; have D10 := Go.Lib.hid d10; have D9' := Go.Lib.hid (D9.out.below b10 (Nat.le_refl _)); have O10 := Go.Lib.hid (row_below O9.out b10); have B10 := Go.Lib.hid (B9.out.trans (b10.mono B9.out.size)); clear b10 d10)
              | (at_builtin; refine append_first rfl _ _ rfl rfl _ rfl _ _ _ O10.out Q1.out (by omega) ?_; intro v11 w11 own11 hgr11; have B11 := Go.Lib.hid ((Below.refl w10.heap.size w10).grown hgr11 (Nat.le_refl _) (fun k e => by cases e)); have OW11 := Go.Lib.hid own11; clear own11 hgr11)
              | (at_builtin; refine wpList_append_own _ rfl _ _ 52 rfl w10.heap.size 59 i0 (.agg #[.int .i64 0, .int .i64 0]) 2 16 Tryd.underlying52 hi hz0 hz1 hz2 rfl (by decide) _ _ _ rfl (OW11.out.alloc _) ⟨w11.heap.size, 0, none⟩ 1 1 [.int .i64 ((m : Int) + 1), .int .i64 2] rfl rfl (cell_new2 _ _ _ _) (by intro u hu; simp at hu; rcases hu with rfl | rfl <;> rfl) (by unfold maxLen; omega) (by omega) (by have := B11.out.size; simp; omega) ?_; intro v15 w15 own15 hgr15 hnil15; have OW15 := Go.Lib.hid own15; have BW15 := Go.Lib.hid ((B11.out.alloc B11.out.size _).grown hgr15 (by have := B11.out.size; simp; omega) (fun j e => (OW11.out.lt j e).1)); clear own15 hgr15 hnil15))
            have OWB : Hid (w15.ownsRow w10.heap.size 59 2 v15 (wantB P Q).length (rowB (wantB P Q))) := by
              have e := OW15.out
              have e2 : wantB P Q = ubrk P ++ [(m + 1, 2)] := by rw [WB1.out HQ.out, WA0.out HN.out]
              have e3 : (wantB P Q).length = q1 + 1 := by rw [e2]; simp [Q1.out]
              have e4 : rowB (wantB P Q) = rowB (ubrk P) ++ [.int .i64 ((m : Int) + 1), .int .i64 2] := by rw [e2, rowB_snoc]; rfl
              rw [← e3, ← e4] at e
              exact Go.Lib.hid e
            have BWB : Hid (Below w10.heap.size w10 w15) := Go.Lib.hid BW15.out
            go_wp2
            go_loopw [20, 21] (fun s20 s21 wy => ∃ k : Nat, k ≤ q2 ∧ s21 = .int .i64 (k : Nat) ∧ wy.ownsRow w10.heap.size 59 2 s20 (wantC P Q k).length (rowB (wantC P Q k)) ∧ Hid (Below w10.heap.size w10 wy)) (fun _ i _ => q2 - (RowKit.intOf i).toNat)
            case atStart => exact ⟨0, Nat.zero_le _, rfl, by rw [WZ.out]; exact OWB.out, BWB⟩
            case round =>
              obtain ⟨y, hy, rfl, hown, HY⟩ := hrel
              have hsy := HY.out.size
              by_cases hyt : y < q2
              · have hyl : y < (ubrk Q).length := by rw [Q2.out]; exact hyt
                obtain ⟨gv, rfl, hgv, hcv⟩ := bg_of D9'.out (by omega)
                obtain ⟨x0, x1⟩ := hcv y hyl
                have bnd := (brk_num Q y hyl).lt
                rw [MQ.out] at bnd
                have WSy := Go.Lib.hid (WS.out y hyt)
                have WLy := Go.Lib.hid (WL.out y hy)
                have u0 := (HY.out.cell (p := ⟨gv, y * 2, none⟩) hgv).trans x0
                have u1 := (HY.out.cell (p := ⟨gv, y * 2 + 1, none⟩) hgv).trans x1
                clear x0 x1 hcv hyl
                generalize bk (ubrk Q) y = x at u0 u1 bnd WSy
                obtain ⟨f, kd⟩ := x
                unfold bmoved at WSy
                dsimp only at u0 u1 bnd WSy
                have hk0 : (0 : Int) ≤ (y : Int) := by omega
                have hk1 : (y : Int) < (q2 : Int) := by omega
                have hw3 : IntKind.i64.wrap ((f : Int) + ((m : Int) + 1)) = (f : Int) + ((m : Int) + 1) := IntWalk.i64_in _ (by omega)
                have ag : Value.ownBlock _ ≠ some gv := fun h => by have := (hown.lt gv h).1; omega
                have wl := WLy.out
                go_wp2_with fail
                go_region_held3 (fun w' => w'.cell? ⟨gv, y * 2, none⟩ = some (.int .i64 (f : Nat)) ∧ w'.cell? ⟨gv, y * 2 + 1, none⟩ = some (.int .i64 kd))
                  (first
                    | go_keep
                    | (go_split_ands
                       refine ⟨?_, ?_⟩
                       · (rw [hgrow.cell_far _ (by simp; omega) (Ne.symm ag)]; assumption)
                       · (rw [hgrow.cell_far _ (by simp; omega) (Ne.symm ag)]; assumption)))
                  ((refine step_append_lies _ (by rfl) _ _ _ (by rfl) w10.heap.size 59 i0 _ 2 16 Tryd.underlying52 hi hz0 hz1 hz2 rfl (by omega) _ (wantC P Q y).length (rowB (wantC P Q y)) (by rfl) ((hown.alloc _).drew)
                      ⟨wr.heap.size, 0, none⟩ 1 1 [.int .i64 ((f : Int) + ((m : Int) + 1)), .int .i64 kd] (by rfl) (by rfl) (World.news_of_block (cs := #[.int .i64 ((f : Int) + ((m : Int) + 1)), .int .i64 kd]) (t := 59) (fr := (0, 0)) (heap_alloc_new wr _)) (by simp [Value.oneCell'])
                      (by omega) (by unfold maxLen; omega) (by omega) (by simp; omega) (wr.heap.size + 1) (by simp) ?_; intro gg cap' w1 hown1 hgrow hat hlt'))
                have own0 := hown
                have hown2 := Go.Lib.hid hown1
                have hgrow2 := Go.Lib.hid hgrow
                clear hown1 hgrow u0 u1
                go_wp2
                go_roundw
                case rel =>
                  have HYN := Go.Lib.hid ((bdrew1 (HY.out.alloc (by omega) _)).grown hgrow2.out (by simp; omega) (fun j e => (own0.lt j e).1))
                  have e1 : (((m + 1 + f : Nat) : Int)) = (f : Int) + ((m : Int) + 1) := by omega
                  have e2 : rowB (wantC P Q (y + 1)) = rowB (wantC P Q y) ++ [.int .i64 ((f : Int) + ((m : Int) + 1)), .int .i64 kd] := by rw [WSy.out, rowB_snoc, ← e1]
                  have e3 : (wantC P Q (y + 1)).length = (wantC P Q y).length + 1 := by rw [WSy.out, List.length_append]; rfl
                  first
                    | exact ⟨y + 1, by omega, by go_num, (by rw [e2, e3]; exact hown2.out), HYN⟩
                    | ((repeat apply Exists.intro); exact ⟨⟨y + 1, by omega, by go_num, (by rw [e2, e3]; exact hown2.out), HYN⟩, rfl⟩)
                case measure => simp [RowKit.intOf]; omega
              · obtain rfl : y = q2 := by omega
                rw [WE.out] at hown
                have OWE := Go.Lib.hid (bat_of hown)
                rw [Q3.out] at hown
                have hsl := hown
                have OE := OWE.out
                obtain ⟨A13, p13, rfl, d13⟩ := OE
                rw [Q3.out] at hsl
                have D13 := Go.Lib.hid d13
                have D10' := Go.Lib.hid (D10.out.below HY.out (Nat.le_refl _))
                have Q3' := Q3.out
                have B13 := Go.Lib.hid (B10.out.trans (HY.out.mono B10.out.size))
                clear hown d13 OWE hsl
                rw [Q3']
                clear Q3'
                go_wp2
                go_loopw [22] (fun s22 wz => ∃ k : Nat, k ≤ q3 ∧ s22 = .int .i64 (k : Nat) ∧ Hid (Below wr.heap.size wr wz)) (fun i _ => q3 - (RowKit.intOf i).toNat)
                case atStart => exact ⟨0, Nat.zero_le _, rfl, Go.Lib.hid (Below.refl _ _)⟩
                case round =>
                  obtain ⟨p, hp, rfl, HZ⟩ := hrel
                  by_cases hpt : p < q3
                  · have hpl : p < (ubrk (P ++ 10 :: Q)).length := by rw [Q3.out]; exact hpt
                    obtain ⟨ga, rfl, hga, hca⟩ := bg_of D13.out (by omega)
                    obtain ⟨gb, rfl, hgb, hcb⟩ := bg_of D10'.out (by omega)
                    obtain ⟨x0, x1⟩ := hca p hpl
                    obtain ⟨y0, y1⟩ := hcb p hpl
                    have u0 := (HZ.out.cell (p := ⟨ga, p * 2, none⟩) hga).trans x0
                    have u1 := (HZ.out.cell (p := ⟨ga, p * 2 + 1, none⟩) hga).trans x1
                    have v0 := (HZ.out.cell (p := ⟨gb, p * 2, none⟩) hgb).trans y0
                    have v1 := (HZ.out.cell (p := ⟨gb, p * 2 + 1, none⟩) hgb).trans y1
                    clear x0 x1 y0 y1 hca hcb hpl
                    generalize bk (ubrk (P ++ 10 :: Q)) p = x at u0 u1 v0 v1
                    obtain ⟨f, kd⟩ := x
                    dsimp only at u0 u1 v0 v1
                    have hk0 : (0 : Int) ≤ (p : Int) := by omega
                    have hk1 : (p : Int) < (q3 : Int) := by omega
                    go_wp2
                    go_quiet (fail)
                    clear u0 u1 v0 v1
                    go_wp2
                    go_roundw
                    case rel => exact ⟨p + 1, by omega, by go_num, Go.Lib.hid (bdrew HZ.out _)⟩
                    case measure => simp [RowKit.intOf]; omega
                  · go_wp2
                    go_ret
                    exact ⟨rfl, B13.out.trans (HZ.out.mono B13.out.size)⟩
end Go.Proofs.YthjooopppidcfaaDoor
