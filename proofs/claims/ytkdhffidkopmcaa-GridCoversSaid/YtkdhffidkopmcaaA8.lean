/- Layer 12: the law's exists (35) and place (19). -/
import Derived.Test.YtkdhffidkopmcaaA7
namespace Go.Proofs.Ytkdhffidkopmcaa
open Go.RowKit Go.Lib
set_option linter.unusedVariables false

/-- There is a cell. -/
def Ex (T : List (List Cl)) (row cell : Int) : Prop := ∃ (i k f t : Nat) (m : Int), row = (i : Nat) ∧ cell = (k : Nat) ∧ Gd.At (plT T) i k f t m
theorem Ex.of {T : List (List Cl)} {i k : Nat} (hi : i < T.length) (hk : k < T[i].length) : Ex T i k := by
  have h : k < (plR T[i]).length := by rw [plR_len]; exact hk
  exact ⟨i, k, (plR T[i])[k].1, (plR T[i])[k].2.1, (plR T[i])[k].2.2, rfl, rfl, At_of hi (List.getElem?_eq_getElem h)⟩
theorem Ex.lt {T : List (List Cl)} {i k : Int} (h : Ex T i k) : 0 ≤ i ∧ i < (T.length : Nat) ∧ 0 ≤ k := by
  obtain ⟨i', k', f, t, m, rfl, rfl, ha⟩ := h
  have := At_lt ha
  omega
theorem Ex.lt2 {T : List (List Cl)} {i : Nat} {k : Int} (h : Ex T i k) (hi : i < T.length) : k < (T[i].length : Nat) := by
  obtain ⟨i', k', f, t, m, e, rfl, ha⟩ := h
  have : i = i' := by omega
  subst this
  have := At_len ha hi
  omega
def ExR (T : List (List Cl)) (row cell : Int) (e : Ending) : Prop := ∃ b : Bool, e = .returned (.bool b) ∧ (b = true ↔ Ex T row cell)

set_option maxRecDepth 100000 in
set_option maxHeartbeats 8000000 in
theorem exists_any (T : List (List Cl)) (hT : GoodT T) (A : Option Addr) (N c : Nat) (hN : T.length = N) (hc : N ≤ c ∧ c ≤ maxLen) (row cell : Int) (w : World) (hA : TbAt w A T) :
    Calls Try.prog 35 #[.slice A N c, .int .i64 row, .int .i64 cell] w fun e w' => ExR T row cell e ∧ w = w' := by
  have hc1 := hc.1
  have hc2 := hc.2
  unfold maxLen at hc2
  have HN := Go.Lib.hid hN
  have no : ∀ {P : Prop}, (Ex T row cell → False) → (false = true ↔ Ex T row cell) := fun h => ⟨fun g => absurd g Bool.false_ne_true, fun g => (h g).elim⟩
  have NO := Go.Lib.hid (fun h => @no True h)
  clear no
  by_cases h0 : 0 ≤ row
  · obtain ⟨i, rfl⟩ := Int.eq_ofNat_of_zero_le h0
    by_cases h1 : i < N
    · have q1 : (i : Int) < (N : Int) := by omega
      by_cases h2 : 0 ≤ cell
      · have hiT : i < T.length := by omega
        obtain ⟨g, o, rfl, hg, hrows⟩ := hA.row hiT
        obtain ⟨a1, a2, B, n, cB, D, dn, dc, Y, yn, yc, Ac, kc, c0, c1, c2, c3, c4, c5, g1, g2, hcs⟩ := hrows i hiT
        by_cases h3 : cell < (T[i].length : Nat)
        · have HX := Go.Lib.hid (show Ex T (i : Nat) cell from by
            obtain ⟨k, rfl⟩ := Int.eq_ofNat_of_zero_le h2
            exact Ex.of hiT (by omega))
          generalize T[i].length = n2 at *
          clear hrows hA hT
          go_enter Try.func35, Try.ntmps35
          go_wp2
          go_ret
          exact ⟨⟨true, by simp, fun _ => HX.out, fun _ => rfl⟩, rfl⟩
        · have HX := Go.Lib.hid (NO.out fun h => h3 (h.lt2 hiT))
          generalize T[i].length = n2 at *
          clear hrows hA hT
          go_enter Try.func35, Try.ntmps35
          go_wp2
          go_ret
          exact ⟨⟨false, by simp, HX.out⟩, rfl⟩
      · have HX := Go.Lib.hid (NO.out fun h => h2 h.lt.2.2)
        go_enter Try.func35, Try.ntmps35
        go_wp2
        go_ret
        exact ⟨⟨false, by simp, HX.out⟩, rfl⟩
    · have q1 : ¬ (i : Int) < (N : Int) := by omega
      have HX := Go.Lib.hid (NO.out fun h => q1 (by have := h.lt; omega))
      go_enter Try.func35, Try.ntmps35
      go_wp2
      go_ret
      exact ⟨⟨false, by simp, HX.out⟩, rfl⟩
  · have HX := Go.Lib.hid (NO.out fun h => h0 h.lt.1)
    go_enter Try.func35, Try.ntmps35
    go_wp2
    go_ret
    exact ⟨⟨false, by simp, HX.out⟩, rfl⟩

theorem set6 {W : World} {b : Nat} {t : TypeId} {u0 u1 u2 u3 u4 u5 : Value} (h : ObjAt W b #[u0, u1, u2, u3, u4, u5] t) (v0 v1 v2 v3 v4 v5 : Value) :
    ObjAt ((((((W.setCell ⟨b, 0, none⟩ v0).setCell ⟨b, 1, none⟩ v1).setCell ⟨b, 2, none⟩ v2).setCell ⟨b, 3, none⟩ v3).setCell ⟨b, 4, none⟩ v4).setCell ⟨b, 5, none⟩ v5) b #[v0, v1, v2, v3, v4, v5] t :=
  (((((h.set 0 v0).set 1 v1).set 2 v2).set 3 v3).set 4 v4).set 5 v5
def rectV (a b c d e f : Int) : Value := .agg #[.int .i64 a, .int .i64 b, .int .i64 c, .int .i64 d, .int .i64 e, .int .i64 f]
/-- What place hands back. -/
def PlcR (T : List (List Cl)) (row cell : Int) (e : Ending) : Prop :=
  (¬ Ex T row cell ∧ e = .returned (.tuple #[rectV 0 0 0 0 0 0, .int .i64 2])) ∨
  (∃ (i k f t : Nat) (m : Int), row = (i : Nat) ∧ cell = (k : Nat) ∧ Gd.At (plT T) i k f t m ∧ ((f = t ∧ e = .returned (.tuple #[rectV 0 0 0 0 0 0, .int .i64 20])) ∨
    (f < t ∧ ∃ (c b : Nat) (m' : Int), Gd.At (plT T) (Gd.top (plT T) f t i) c f t m' ∧ Gd.Bt (plT T) f t i b ∧ e = .returned (.tuple #[rectV (Gd.top (plT T) f t i : Nat) c (Gd.top (plT T) f t i : Nat) f b t, .int .i64 0]))))

set_option maxRecDepth 100000 in
set_option maxHeartbeats 8000000 in
theorem place_any (T : List (List Cl)) (hT : GoodT T) (A : Option Addr) (N c : Nat) (hN : T.length = N) (hc : N ≤ c ∧ c ≤ maxLen) (row cell : Int) (w : World) (hA : TbAt w A T) :
    Calls Try.prog 19 #[.slice A N c, .int .i64 row, .int .i64 cell] w fun e w' => PlcR T row cell e ∧ Below w.heap.size w w' := by
  have hB : Below w.heap.size w (w.alloc (.cells #[.int .i64 0, .int .i64 0, .int .i64 0, .int .i64 0, .int .i64 0, .int .i64 0] 50)) := (Below.refl _ w).alloc (Nat.le_refl _) _
  have cE := exists_any T hT A N c hN hc row cell _ (hA.below hB)
  have cP := Go.Lib.hid (fun (i k f t : Nat) (m : Int) (ha : Gd.At (plT T) i k f t m) (hft : f < t) w' (hb : Below w.heap.size w w') => rplace_any T hT A N c hN hc i k f t m ha hft w' (hA.below hb))
  have o1 := ObjAt.new w #[.int .i64 0, .int .i64 0, .int .i64 0, .int .i64 0, .int .i64 0, .int .i64 0] 50
  have HB := Go.Lib.hid hB
  have O1 := Go.Lib.hid o1
  have HA := Go.Lib.hid hA
  have HT := Go.Lib.hid hT
  have hc1 := hc.1
  have hc2 := hc.2
  unfold maxLen at hc2
  clear hB o1 hA hT hc
  go_enter Try.func19, Try.ntmps19
  go_wp2_with fail
  (with_reducible refine cE.mono ?_)
  rintro e w1 ⟨⟨b, rfl, hb⟩, rfl⟩
  clear cE
  cases b with
  | false =>
    have HX := Go.Lib.hid (show ¬ Ex T row cell from fun h => absurd (hb.2 h) Bool.false_ne_true)
    clear hb
    have s0 := O1.out.s0
    have s1 := O1.out.s1
    have s2 := O1.out.s2
    have s3 := O1.out.s3
    have s4 := O1.out.s4
    have s5 := O1.out.s5
    go_wp2
    refine bodyPost_ret (v := .tuple #[rectV 0 0 0 0 0 0, .int .i64 2]) ?_ rfl ⟨.inl ⟨HX.out, rfl⟩, HB.out⟩
    unfold rectV
    simp [results, Try.results19, go_sem, *]
  | true =>
    obtain ⟨i, k, f, t, m, hri, hck, ha⟩ := hb.1 rfl
    subst hri hck
    have hiT := At_lt ha
    obtain ⟨g, o, rfl, hg, hrows⟩ := HA.out.row hiT
    obtain ⟨a1, a2, B, n, cB, D, dn, dc, Y, yn, yc, Ac, kc, c0, c1, c2, c3, c4, c5, g1, g2, hcs⟩ := (hrows i hiT).below hg HB.out
    have hgr := HT.out.2 _ (List.getElem_mem hiT)
    have cSp := span_any T[i] (.slice B n cB) (.int .i64 a1) (.int .i64 a2) (.slice D dn dc) (.slice Y yn yc) Ac _ kc rfl (by have := hgr.1; omega) ⟨g1, g2⟩ k (At_len ha hiT) _ hcs
    have q0 : (0 : Int) ≤ (i : Int) := by omega
    have q1 : (i : Int) < (N : Int) := by omega
    have HAt := Go.Lib.hid ha
    have hs1 := HB.out.size
    clear hb ha hrows hgr g1 g2 hcs
    go_wp2_with fail
    generalize (w.alloc (.cells #[.int .i64 0, .int .i64 0, .int .i64 0, .int .i64 0, .int .i64 0, .int .i64 0] 50)) = W at *
    (with_reducible refine cSp.mono ?_)
    rintro e w2 ⟨⟨f', t', m', hx, rfl⟩, k2⟩
    obtain ⟨rfl, rfl, rfl⟩ : f = f' ∧ t = t' ∧ m = m' := Gd.At.fn HAt.out (At_of hiT hx)
    have K2 := Go.Lib.hid (HB.out.trans (k2.mono hs1))
    have O2 := Go.Lib.hid (O1.out.below k2)
    have hs2 := K2.out.size
    clear hx k2 cSp c0 c1 c2 c3 c4 c5
    by_cases hft : f = t
    · have b1 : ((f : Int) == (t : Int)) = true := beq_iff_eq.2 (by omega)
      have HE := Go.Lib.hid hft
      clear hft
      have s0 := O2.out.s0
      have s1 := O2.out.s1
      have s2 := O2.out.s2
      have s3 := O2.out.s3
      have s4 := O2.out.s4
      have s5 := O2.out.s5
      have f0 := O2.out.frozen 0
      have f1 := O2.out.frozen 1
      have f2 := O2.out.frozen 2
      have f3 := O2.out.frozen 3
      have f4 := O2.out.frozen 4
      have f5 := O2.out.frozen 5
      have O3 := Go.Lib.hid (set6 O2.out (.int .i64 0) (.int .i64 0) (.int .i64 0) (.int .i64 0) (.int .i64 0) (.int .i64 0))
      go_wp2
      have t0 := O3.out.s0
      have t1 := O3.out.s1
      have t2 := O3.out.s2
      have t3 := O3.out.s3
      have t4 := O3.out.s4
      have t5 := O3.out.s5
      refine bodyPost_ret (v := .tuple #[rectV 0 0 0 0 0 0, .int .i64 20]) ?_ rfl ⟨.inr ⟨i, k, f, t, m, rfl, rfl, HAt.out, .inl ⟨HE.out, rfl⟩⟩, ?_⟩
      · unfold rectV
        simp [results, Try.results19, go_sem, *]
      · exact (((((K2.out.setCell (Nat.le_refl _) _).setCell (Nat.le_refl _) _).setCell (Nat.le_refl _) _).setCell (Nat.le_refl _) _).setCell (Nat.le_refl _) _).setCell (Nat.le_refl _) _
    · have b1 : ((f : Int) == (t : Int)) = false := beq_eq_false_iff_ne.2 (by omega)
      have hlt : f < t := by have := HAt.out.ok (plT_ok T); omega
      have cQ := cP.out i k f t m HAt.out hlt w2 K2.out
      have HLT := Go.Lib.hid hlt
      clear hft
      go_wp2_with fail
      (with_reducible refine cQ.mono ?_)
      rintro e w3 ⟨⟨cc, bb, m', ha', hbt, rfl⟩, k3⟩
      have K3 := Go.Lib.hid (K2.out.trans (k3.mono hs2))
      have O4 := Go.Lib.hid (O2.out.below k3)
      have HA' := Go.Lib.hid ha'
      have HBT := Go.Lib.hid hbt
      clear k3 cQ ha' hbt
      have s0 := O4.out.s0
      have s1 := O4.out.s1
      have s2 := O4.out.s2
      have s3 := O4.out.s3
      have s4 := O4.out.s4
      have s5 := O4.out.s5
      have f0 := O4.out.frozen 0
      have f1 := O4.out.frozen 1
      have f2 := O4.out.frozen 2
      have f3 := O4.out.frozen 3
      have f4 := O4.out.frozen 4
      have f5 := O4.out.frozen 5
      generalize htp : Gd.top (plT T) f t i = tp at *
      have HTP := Go.Lib.hid htp
      clear htp
      have O3 := Go.Lib.hid (set6 O4.out (.int .i64 (tp : Nat)) (.int .i64 (cc : Nat)) (.int .i64 (tp : Nat)) (.int .i64 (f : Nat)) (.int .i64 (bb : Nat)) (.int .i64 (t : Nat)))
      go_wp2
      have t0 := O3.out.s0
      have t1 := O3.out.s1
      have t2 := O3.out.s2
      have t3 := O3.out.s3
      have t4 := O3.out.s4
      have t5 := O3.out.s5
      refine bodyPost_ret (v := .tuple #[rectV tp cc tp f bb t, .int .i64 0]) ?_ rfl ⟨.inr ⟨i, k, f, t, m, rfl, rfl, HAt.out, .inr ⟨HLT.out, cc, bb, m', by rw [HTP.out]; exact HA'.out, HBT.out, by rw [HTP.out]⟩⟩, ?_⟩
      · unfold rectV
        simp [results, Try.results19, go_sem, *]
      · exact (((((K3.out.setCell (Nat.le_refl _) _).setCell (Nat.le_refl _) _).setCell (Nat.le_refl _) _).setCell (Nat.le_refl _) _).setCell (Nat.le_refl _) _).setCell (Nat.le_refl _) _
end Go.Proofs.Ytkdhffidkopmcaa
