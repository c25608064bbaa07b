/- Layer 12: Spans (14), Columns (15); the reference's Width (16). -/
import Derived.Test.YtkdhffidkopmcaaA8
namespace Go.Proofs.Ytkdhffidkopmcaa
open Go.RowKit Go.Lib
set_option linter.unusedVariables false

/-- How wide a table is. -/
def wdt (T : Gd.Tb) : Nat := T.foldl (fun n L => max n (Gd.ends L)) 0
theorem wdt_snoc (T : Gd.Tb) (L : List Gd.Ce) : wdt (T ++ [L]) = max (wdt T) (Gd.ends L) := by unfold wdt; rw [List.foldl_append]; rfl
theorem wdt_take {T : Gd.Tb} {k : Nat} (h : k < T.length) : wdt (T.take (k + 1)) = max (wdt (T.take k)) (Gd.ends T[k]) := by
  rw [List.take_succ_eq_append_getElem h, wdt_snoc]
theorem ends_le (r : List Cl) : Gd.ends (plR r) ≤ 32 := by
  unfold Gd.ends
  cases h : (plR r).getLast? with
  | none => simp
  | some x => exact ((Gd.cel_ok (r.map val) (by omega : 0 ≤ 32)).2 x (List.mem_of_getLast? h)).2
theorem wdt_le (T : List (List Cl)) : ∀ k, wdt ((plT T).take k) ≤ 32
  | 0 => by simp [wdt]
  | k + 1 => by
    by_cases h : k < (plT T).length
    · rw [wdt_take h]
      have h1 := wdt_le T k
      have h2 : k < T.length := by rw [plT_len] at h; exact h
      have h3 : (plT T)[k] = plR T[k] := by have := plT_get h2; rw [List.getElem?_eq_getElem h] at this; exact Option.some.inj this
      rw [h3]
      have := ends_le T[k]
      omega
    · rw [List.take_of_length_le (by omega)]
      have := wdt_le T k
      rw [List.take_of_length_le (by omega)] at this
      exact this
def SpsR (T : List (List Cl)) (row : Int) (w : World) (e : Ending) (w' : World) : Prop :=
  ((∀ i : Nat, row = (i : Nat) → ¬ i < T.length) ∧ e = .returned (.tuple #[.slice none 0 0, .int .i64 2])) ∨ (∃ (i : Nat) (h : i < T.length) (s : Value), row = (i : Nat) ∧ SpAt w' w.heap.size s (plR T[i]) ∧ e = .returned (.tuple #[s, .int .i64 0]))

set_option maxRecDepth 100000 in
set_option maxHeartbeats 8000000 in
theorem spansAt_any (T : List (List Cl)) (hT : GoodT T) (A : Option Addr) (N c : Nat) (hN : T.length = N) (hc : N ≤ c ∧ c ≤ maxLen) (row : Int) (w : World) (hA : TbAt w A T) :
    Calls Try.prog 14 #[.slice A N c, .int .i64 row] w fun e w' => SpsR T row w e w' ∧ Below w.heap.size w w' := by
  have hc1 := hc.1
  have hc2 := hc.2
  unfold maxLen at hc2
  have HN := Go.Lib.hid hN
  by_cases h0 : 0 ≤ row
  · obtain ⟨i, rfl⟩ := Int.eq_ofNat_of_zero_le h0
    by_cases h1 : i < N
    · have q1 : (i : Int) < (N : Int) := by omega
      have hiT : i < T.length := by omega
      obtain ⟨g, o, rfl, hg, hrows⟩ := hA.row hiT
      obtain ⟨a1, a2, B, n, cB, D, dn, dc, Y, yn, yc, Ac, kc, c0, c1, c2, c3, c4, c5, g1, g2, hcs⟩ := hrows i hiT
      have cS := spans_any T[i] (hT.2 _ (List.getElem_mem hiT)) (.slice B n cB) (.int .i64 a1) (.int .i64 a2) (.slice D dn dc) (.slice Y yn yc) Ac _ kc rfl ⟨g1, g2⟩ w hcs
      clear hrows hA hT hN hc hcs g1 g2
      go_enter Try.func14, Try.ntmps14
      go_wp2_with fail
      (with_reducible refine cS.mono ?_)
      rintro e w1 ⟨s, rfl, hs, k1⟩
      go_wp2
      go_ret2
      exact ⟨.inr ⟨i, hiT, s, rfl, hs, rfl⟩, k1⟩
    · have q1 : ¬ (i : Int) < (N : Int) := by omega
      have HX := Go.Lib.hid (show ∀ j : Nat, (i : Int) = (j : Nat) → ¬ j < T.length from fun j e => by omega)
      clear hA hT hN hc
      go_enter Try.func14, Try.ntmps14
      go_wp2
      go_ret2
      exact ⟨.inl ⟨HX.out, rfl⟩, Below.refl _ _⟩
  · have HX := Go.Lib.hid (show ∀ j : Nat, row = (j : Nat) → ¬ j < T.length from fun j e => by omega)
    clear hA hT hN hc
    go_enter Try.func14, Try.ntmps14
    go_wp2
    go_ret2
    exact ⟨.inl ⟨HX.out, rfl⟩, Below.refl _ _⟩

set_option maxRecDepth 100000 in
set_option maxHeartbeats 8000000 in
theorem columns_any (T : List (List Cl)) (hT : GoodT T) (A : Option Addr) (N c : Nat) (hN : T.length = N) (hc : N ≤ c ∧ c ≤ maxLen) (w : World) (hA : TbAt w A T) :
    Calls Try.prog 15 #[.slice A N c] w fun e w' => e = .returned (.int .i64 (wdt (plT T) : Nat)) ∧ Below w.heap.size w w' := by
  have hc1 := hc.1
  have hc2 := hc.2
  unfold maxLen at hc2
  have HN := Go.Lib.hid hN
  have HA := Go.Lib.hid hA
  have HT := Go.Lib.hid hT
  clear hA hT hN hc
  go_enter Try.func15, Try.ntmps15
  go_wp2_with fail
  have hb0 := Below.refl w.heap.size w
  go_loopw [3, 7] (fun s3 s7 wr => ∃ k v : Nat, k ≤ N ∧ s7 = .int .i64 (k : Nat) ∧ s3 = .int .i64 (v : Nat) ∧ Hid (v = wdt ((plT T).take k)) ∧ Below w.heap.size w wr) (fun _ s7 _ => N - (RowKit.intOf s7).toNat)
  case atStart => exact ⟨0, 0, Nat.zero_le _, rfl, rfl, Go.Lib.hid rfl, hb0⟩
  case round =>
    clear hb0
    obtain ⟨k, v, hk, rfl, rfl, HV, hbk⟩ := hrel
    have HBK := Go.Lib.hid hbk
    have hsz := hbk.size
    clear hbk
    by_cases hlt : k < N
    · have q0 : (0 : Int) ≤ (k : Int) := by omega
      have q1 : (k : Int) < (N : Int) := by omega
      have hkT : k < T.length := by have := HN.out; omega
      obtain ⟨g, o, rfl, hg, hrows⟩ := HA.out.row hkT
      obtain ⟨a1, a2, B, n, cB, D, dn, dc, Y, yn, yc, Ac, kc, c0, c1, c2, c3, c4, c5, g1, g2, hcs⟩ := (hrows k hkT).below hg HBK.out
      have cS := spans_any T[k] (HT.out.2 _ (List.getElem_mem hkT)) (.slice B n cB) (.int .i64 a1) (.int .i64 a2) (.slice D dn dc) (.slice Y yn yc) Ac _ kc rfl ⟨g1, g2⟩ wr hcs
      have cE := Go.Lib.hid (fun s w' (hs : SpAt w' wr.heap.size s (plR T[k])) => end_any (plR T[k]) s _ w' hs (by rw [plR_len]; exact (HT.out.2 _ (List.getElem_mem hkT)).1))
      have HMX := Go.Lib.hid (show max v (Gd.ends (plR T[k])) = wdt ((plT T).take (k + 1)) by
        rw [wdt_take (by rw [plT_len]; exact hkT), ← HV.out]; simp [plT])
      have hle := ends_le T[k]
      have hvl : v ≤ 32 := by rw [HV.out]; exact wdt_le T k
      clear hrows hcs g1 g2
      go_wp2_with fail
      (with_reducible refine cS.mono ?_)
      rintro e w1 ⟨s, rfl, hs, k1⟩
      have ce := cE.out s w1 hs
      have K1 := Go.Lib.hid (HBK.out.trans (k1.mono hsz))
      clear cS k1 hs cE c0 c1 c2 c3 c4 c5
      generalize Gd.ends (plR T[k]) = en at *
      obtain ⟨mx, hmx, HM2⟩ : ∃ mx : Nat, (if v < en then (en : Int) else (v : Int)) = (mx : Nat) ∧ Hid (mx = max v en) := ⟨max v en, by split <;> omega, Go.Lib.hid rfl⟩
      go_wp2_with fail
      (with_reducible refine ce.mono ?_)
      rintro e w2 ⟨rfl, rfl⟩
      clear ce
      go_wp2
      go_roundw
      case rel => exact ⟨k + 1, mx, by omega, by go_num, rfl, Go.Lib.hid (by rw [HM2.out]; exact HMX.out), K1.out⟩
      case measure => simp [RowKit.intOf]; omega
    · obtain rfl : k = N := by omega
      go_wp2
      go_ret
      refine ⟨?_, HBK.out⟩
      have h := HV.out
      rw [List.take_of_length_le (by rw [plT_len, HN.out]; exact Nat.le_refl _)] at h
      rw [← h]; rfl

set_option maxRecDepth 100000 in
set_option maxHeartbeats 8000000 in
theorem width_any (T : List (List Cl)) (hT : GoodT T) (A : Option Addr) (N c : Nat) (hN : T.length = N) (hc : N ≤ c ∧ c ≤ maxLen) (w : World) (hA : TbAt w A T) :
    Calls Try.prog 16 #[.slice A N c] w fun e w' => e = .returned (.int .i64 (wdt (plT T) : Nat)) ∧ Below w.heap.size w w' := by
  have hc1 := hc.1
  have hc2 := hc.2
  unfold maxLen at hc2
  have HN := Go.Lib.hid hN
  have HA := Go.Lib.hid hA
  have HT := Go.Lib.hid hT
  clear hA hT hN hc
  go_enter Try.func16, Try.ntmps16
  go_wp2_with fail
  have hb0 := Below.refl w.heap.size w
  go_loopw [3, 4, 5, 6, 7] (fun s3 s4 _ _ _ wr => ∃ k v : Nat, k ≤ N ∧ s4 = .int .i64 (k : Nat) ∧ s3 = .int .i64 (v : Nat) ∧ Hid (v = wdt ((plT T).take k)) ∧ Below w.heap.size w wr) (fun _ s4 _ _ _ _ => N - (RowKit.intOf s4).toNat)
  case atStart => exact ⟨0, 0, Nat.zero_le _, rfl, rfl, Go.Lib.hid rfl, hb0⟩
  case round =>
    clear hb0
    obtain ⟨k, v, hk, rfl, rfl, HV, hbk⟩ := hrel
    have HBK := Go.Lib.hid hbk
    have hsz := hbk.size
    by_cases hlt : k < N
    · have q0 : (0 : Int) ≤ (k : Int) := by omega
      have q1 : (k : Int) < (N : Int) := by omega
      have hkT : k < T.length := by have := HN.out; omega
      obtain ⟨g, o, rfl, hg, hrows⟩ := HA.out.row hkT
      obtain ⟨a1, a2, B, n, cB, D, dn, dc, Y, yn, yc, Ac, kc, c0, c1, c2, c3, c4, c5, g1, g2, hcs⟩ := (hrows k hkT).below hg HBK.out
      have hgr := (HT.out.2 _ (List.getElem_mem hkT)).1
      have HMX := Go.Lib.hid (show max v (Gd.ends (plR T[k])) = wdt ((plT T).take (k + 1)) by
        rw [wdt_take (by rw [plT_len]; exact hkT), ← HV.out]; simp [plT])
      have hle := ends_le T[k]
      have hvl : v ≤ 32 := by rw [HV.out]; exact wdt_le T k
      by_cases h0 : T[k].length = 0
      · have HE := Go.Lib.hid (show v = wdt ((plT T).take (k + 1)) by
          rw [← HMX.out]
          have : plR T[k] = [] := List.eq_nil_of_length_eq_zero (by rw [plR_len]; exact h0)
          rw [this]; simp [Gd.ends])
        rw [h0] at c5 g1
        clear hrows hcs g1 g2 h0 HMX hgr hle
        go_wp2
        go_roundw
        case rel => exact ⟨k + 1, v, by omega, by go_num, rfl, HE, hbk⟩
        case measure => simp [RowKit.intOf]; omega
      · obtain ⟨nn, hnn⟩ : ∃ nn, T[k].length = nn + 1 := ⟨T[k].length - 1, by omega⟩
        have cS := span_any T[k] (.slice B n cB) (.int .i64 a1) (.int .i64 a2) (.slice D dn dc) (.slice Y yn yc) Ac _ kc rfl (by omega) ⟨g1, g2⟩ nn (by omega) wr hcs
        rw [hnn] at c5 g1 cS hgr
        have HNN := Go.Lib.hid hnn
        have q2 : (0 : Int) < (nn : Int) + 1 := by omega
        have q3 : IntKind.i64.wrap ((nn : Int) + 1 - 1) = (nn : Int) := by rw [show (nn : Int) + 1 - 1 = nn by omega]; exact IntWalk.i64_in _ (by omega)
        have q3' : IntKind.i64.wrap (nn : Int) = (nn : Int) := IntWalk.i64_in _ (by omega)
        clear hrows hcs g1 g2 h0 hgr hnn hbk
        go_wp2_with fail
        (with_reducible refine cS.mono ?_)
        rintro e w1 ⟨⟨f, t, m, hx, rfl⟩, k1⟩
        have K1 := Go.Lib.hid (HBK.out.trans (k1.mono hsz))
        have HEN := Go.Lib.hid (show Gd.ends (plR T[k]) = t by
          unfold Gd.ends
          rw [List.getLast?_eq_getElem?, plR_len, HNN.out, Nat.add_sub_cancel, hx])
        rw [HEN.out] at hle HMX
        clear cS k1 hx c0 c1 c2 c3 c4 c5
        obtain ⟨mx, hmx, HM2⟩ : ∃ mx : Nat, (if v < t then (t : Int) else (v : Int)) = (mx : Nat) ∧ Hid (mx = max v t) := ⟨max v t, by split <;> omega, Go.Lib.hid rfl⟩
        go_wp2
        go_roundw
        case rel => exact ⟨k + 1, mx, by omega, by go_num, rfl, Go.Lib.hid (by rw [HM2.out]; exact HMX.out), K1.out⟩
        case measure => simp [RowKit.intOf]; omega
    · obtain rfl : k = N := by omega
      go_wp2
      go_ret
      refine ⟨?_, HBK.out⟩
      have h := HV.out
      rw [List.take_of_length_le (by rw [plT_len, HN.out]; exact Nat.le_refl _)] at h
      rw [← h]; rfl
end Go.Proofs.Ytkdhffidkopmcaa
