/- Layer 12: the law of places (5), walked. -/
import Derived.Test.YtkdhffidkopmcaaM3
import Derived.Test.YtkdhffidkopmcaaD1
namespace Go.Proofs.Ytkdhffidkopmcaa
open Go.RowKit Go.Lib Go.Maps
set_option linter.unusedVariables false

theorem PlcR.form {T : List (List Cl)} {r n : Int} {e : Ending} (h : PlcR T r n e) : ∃ a b c d f g er : Int, e = .returned (.tuple #[.agg #[.int .i64 a, .int .i64 b, .int .i64 c, .int .i64 d, .int .i64 f, .int .i64 g], .int .i64 er]) := by
  rcases h with ⟨_, rfl⟩ | ⟨i, k, f, t, m, _, _, _, ⟨_, rfl⟩ | ⟨_, c, b, m', _, _, rfl⟩⟩
  · exact ⟨_, _, _, _, _, _, _, rfl⟩
  · exact ⟨_, _, _, _, _, _, _, rfl⟩
  · exact ⟨_, _, _, _, _, _, _, rfl⟩
theorem gat_bad {T : List (List Cl)} {row q : Int} {e : Ending} (h : GAtR T row q e) (hb : row < 0 ∨ (T.length : Int) ≤ row ∨ q < 0 ∨ 32 ≤ q) : e = retP 0 2 := by
  rcases h with ⟨_, h⟩ | ⟨i, hi, e1, h1, h2, _⟩
  · exact h
  · omega
theorem at_same {r : List Cl} {q : Nat} {k f t k' f' t' : Nat} {m m' : Int} (h : (plR r)[k]? = some (f, t, m)) (h1 : f ≤ q) (h2 : q < t) (h' : (plR r)[k']? = some (f', t', m')) (h1' : f' ≤ q) (h2' : q < t') : k = k' := by
  obtain ⟨a, ea⟩ := List.getElem?_eq_some_iff.1 h
  obtain ⟨b, eb⟩ := List.getElem?_eq_some_iff.1 h'
  exact (Gd.cel_ok (r.map val) (show 0 ≤ 32 by omega)).disj (c := q) a b (by show (plR r)[k].1 ≤ q; rw [ea]; exact h1) (by show q < (plR r)[k].2.1; rw [ea]; exact h2) (by show (plR r)[k'].1 ≤ q; rw [eb]; exact h1') (by show q < (plR r)[k'].2.1; rw [eb]; exact h2')

set_option maxRecDepth 100000 in
set_option maxHeartbeats 8000000 in
theorem law_places (A : Option Addr) (N c : Nat) (T : List (List Cl)) (hN : T.length = N) (hc : N ≤ c ∧ c ≤ maxLen) (row n : Int) (w : World) (hA : TbAt w A T) : Calls Try.prog 5 #[.slice A N c, .int .i64 row, .int .i64 n] w (TrueW w) := by
  have cK := Go.Lib.hid (fun w' => known_any w')
  have cS := Go.Lib.hid (fun w' (hb : Below w.heap.size w w') => small_any T A N c hN hc w' (hA.below hb))
  have HA := Go.Lib.hid hA
  have HN := Go.Lib.hid hN
  have HC := Go.Lib.hid hc
  have hc1 := hc.1
  have hc2 := hc.2
  unfold maxLen at hc2
  clear hA hN hc
  go_enter Try.func5, Try.ntmps5
  go_wp2_with fail
  (with_reducible refine (cK.out _).mono ?_)
  rintro e w1 ⟨rfl, k1⟩
  have s1 := k1.size
  have cs := cS.out w1 k1
  go_wp2_with fail
  (with_reducible refine cs.mono ?_)
  rintro e w2 ⟨⟨b, rfl, hb⟩, k2⟩
  have K2 := Go.Lib.hid (k1.trans (k2.mono s1))
  have s2 := K2.out.size
  clear cs k1 k2
  cases b with
  | false =>
    clear hb
    go_wp2_with fail
    (with_reducible refine (cK.out _).mono ?_)
    rintro e w3 ⟨rfl, k3⟩
    go_wp2
    go_ret
    exact ⟨by simp, K2.out.trans (k3.mono s2)⟩
  | true =>
    have HT := Go.Lib.hid (hb rfl)
    clear hb
    have c1 := gplace_any T HT.out A N c HN.out HC.out row n w2 (HA.out.below K2.out)
    have cP := Go.Lib.hid (fun w' (hb : Below w.heap.size w w') => place_any T HT.out A N c HN.out HC.out row n w' (HA.out.below hb))
    have cA := Go.Lib.hid (fun w' (hb : Below w.heap.size w w') => gat_any T HT.out A N c HN.out HC.out row n w' (HA.out.below hb))
    go_wp2_with fail
    (with_reducible refine c1.mono ?_)
    rintro e w3 ⟨hP, k3⟩
    have K3' := Go.Lib.hid (K2.out.trans (k3.mono s2))
    have HP := Go.Lib.hid hP
    obtain ⟨x1, x2, x3, x4, x5, x6, er, he⟩ := hP.form
    subst he
    have y1 := ObjAt.new w3 #[.int .i64 x1, .int .i64 x2, .int .i64 x3, .int .i64 x4, .int .i64 x5, .int .i64 x6] 50
    have B3 := Go.Lib.hid ((Below.refl w3.heap.size w3).alloc (Nat.le_refl _) (.cells #[.int .i64 x1, .int .i64 x2, .int .i64 x3, .int .i64 x4, .int .i64 x5, .int .i64 x6] 50))
    have KW := Go.Lib.hid (K3'.out.trans (B3.out.mono K3'.out.size))
    have Y1 := Go.Lib.hid y1
    have cp := cP.out _ KW.out
    have sz := KW.out.size
    clear c1 k3 hP y1
    go_wp2_with fail
    (with_reducible refine cp.mono ?_)
    rintro e w4 ⟨hP', k4⟩
    have he := hP'.unique HP.out
    subst he
    have Y2 := Go.Lib.hid (Y1.out.below k4)
    have K4 := Go.Lib.hid (KW.out.trans (k4.mono sz))
    have s4 := K4.out.size
    have z0 := (Y2.out.alloc (.cells #[.int .i64 x1, .int .i64 x2, .int .i64 x3, .int .i64 x4, .int .i64 x5, .int .i64 x6] 50)).s0
    have z1 := (Y2.out.alloc (.cells #[.int .i64 x1, .int .i64 x2, .int .i64 x3, .int .i64 x4, .int .i64 x5, .int .i64 x6] 50)).s1
    have z2 := (Y2.out.alloc (.cells #[.int .i64 x1, .int .i64 x2, .int .i64 x3, .int .i64 x4, .int .i64 x5, .int .i64 x6] 50)).s2
    have z3 := (Y2.out.alloc (.cells #[.int .i64 x1, .int .i64 x2, .int .i64 x3, .int .i64 x4, .int .i64 x5, .int .i64 x6] 50)).s3
    have z4 := (Y2.out.alloc (.cells #[.int .i64 x1, .int .i64 x2, .int .i64 x3, .int .i64 x4, .int .i64 x5, .int .i64 x6] 50)).s4
    have z5 := (Y2.out.alloc (.cells #[.int .i64 x1, .int .i64 x2, .int .i64 x3, .int .i64 x4, .int .i64 x5, .int .i64 x6] 50)).s5
    have K5 := Go.Lib.hid (fun o => K4.out.alloc s4 o)
    have hlt := Go.Lib.hid Y2.out.lt
    have ca := cA.out _ (K5.out (.cells #[.int .i64 x1, .int .i64 x2, .int .i64 x3, .int .i64 x4, .int .i64 x5, .int .i64 x6] 50))
    have s5 := (K5.out (.cells #[.int .i64 x1, .int .i64 x2, .int .i64 x3, .int .i64 x4, .int .i64 x5, .int .i64 x6] 50)).size
    have KZ := Go.Lib.hid (K5.out (.cells #[.int .i64 x1, .int .i64 x2, .int .i64 x3, .int .i64 x4, .int .i64 x5, .int .i64 x6] 50))
    have be : (er != er) = false := by simp
    clear cp hP' k4
    go_wp2_with fail
    (with_reducible refine ca.mono ?_)
    rintro e w6 ⟨hG, k6⟩
    have K6 := Go.Lib.hid (KZ.out.trans (k6.mono s5))
    clear ca k6 z0 z1 z2 z3 z4 z5
    by_cases hgood : (0 ≤ row ∧ row < (N : Nat)) ∧ (0 ≤ n ∧ n < 32)
    · obtain ⟨⟨g1, g2⟩, g3, g4⟩ := hgood
      obtain ⟨i, rfl⟩ := Int.eq_ofNat_of_zero_le g1
      obtain ⟨q, rfl⟩ := Int.eq_ofNat_of_zero_le g3
      have hiT : i < T.length := by have := HN.out; omega
      have hcase := gat_of hG hiT (by omega)
      obtain ⟨g, o, rfl, hg, hrows⟩ := HA.out.row hiT
      obtain ⟨a1, a2, B, n2, cB, D, dn, dc, Y, yn, yc, Ac, kc, d0, d1, d2, d3, d4, d5, j1, j2, hcs⟩ := (hrows i hiT).below hg K6.out
      have cR := rat_any T[i] (.slice B n2 cB) (.int .i64 a1) (.int .i64 a2) (.slice D dn dc) (.slice Y yn yc) Ac _ kc rfl (by have := (HT.out.2 _ (List.getElem_mem hiT)).1; omega) ⟨j1, j2⟩ q w6 hcs
      have s6 := K6.out.size
      have p2 : ¬ (i : Int) < 0 := by omega
      have p3 : ¬ (q : Int) < 0 := by omega
      clear hG hrows hcs j1 j2
      rcases hcase with ⟨k, f, t, m, hx, h1, h2, rfl⟩ | ⟨hno, rfl⟩
      · have HX := Go.Lib.hid (fun k' f' t' m' hx' h1' h2' => at_same hx h1 h2 (k' := k') (f' := f') (t' := t') (m' := m') hx' h1' h2')
        have HIN := Go.Lib.hid (⟨List.mem_of_getElem? hx, h1, h2⟩ : (f, t, m) ∈ plR T[i] ∧ f ≤ q ∧ q < t)
        clear hx h1 h2
        generalize T[i].length = ln at *
        unfold retP
        go_wp2_with fail
        (with_reducible refine cR.mono ?_)
        rintro e w7 ⟨hR, k7⟩
        have K7 := Go.Lib.hid (K6.out.trans (k7.mono s6))
        clear cR k7
        rcases hR with ⟨k', f', t', m', hx', h1', h2', rfl⟩ | ⟨hno, rfl⟩
        · obtain rfl := HX.out k' f' t' m' hx' h1' h2'
          have r0 : ¬ (k : Int) < 0 := by omega
          have r1 : ((k : Int) == (k : Int)) = true := by simp
          clear hx' h1' h2'
          go_wp2
          go_ret
          exact ⟨by simp, K7.out⟩
        · exact absurd HIN.out.2 (hno _ HIN.out.1)
      · have HNO := Go.Lib.hid hno
        clear hno
        generalize T[i].length = ln at *
        unfold retP
        go_wp2_with fail
        (with_reducible refine cR.mono ?_)
        rintro e w7 ⟨hR, k7⟩
        have K7 := Go.Lib.hid (K6.out.trans (k7.mono s6))
        clear cR k7
        rcases hR with ⟨k', f', t', m', hx', h1', h2', rfl⟩ | ⟨_, rfl⟩
        · exact absurd ⟨h1', h2'⟩ (HNO.out _ (List.mem_of_getElem? hx'))
        · go_wp2
          go_ret
          exact ⟨by simp, K7.out⟩
    · have hr : e = retP 0 2 := gat_bad hG (by rw [HN.out]; omega)
      subst hr
      clear hG
      unfold retP
      by_cases t1 : row < 0
      · clear hgood
        go_wp2
        go_ret
        exact ⟨by simp, K6.out⟩
      · by_cases t2 : (N : Int) ≤ row
        · clear hgood
          go_wp2
          go_ret
          exact ⟨by simp, K6.out⟩
        · by_cases t3 : n < 0
          · clear hgood
            go_wp2
            go_ret
            exact ⟨by simp, K6.out⟩
          · have t4 : 32 ≤ n := by omega
            clear hgood
            go_wp2
            go_ret
            exact ⟨by simp, K6.out⟩
end Go.Proofs.Ytkdhffidkopmcaa
