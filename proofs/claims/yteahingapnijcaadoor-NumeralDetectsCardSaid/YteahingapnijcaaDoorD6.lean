/- Layer 9: Detect; the law Detects. -/
import Derived.Test.YteahingapnijcaaDoorD1
import Derived.Deep.QuietTactic
import Derived.BigQuiet
namespace Go.Proofs.YteahingapnijcaaDoor
open Go.RowKit Go.Lib Go.Shelf Nu9

theorem intInfo : (Tryd.prog.info? 3).map (fun i => (i.zero, i.size, i.bytes)) = some (some (.int .i64 0), 1, 8) := by kernel_rfl
def ints (P : List Int) : List Value := P.map fun p => Value.int .i64 p
theorem ints_snoc (P : List Int) (p : Int) : ints (P ++ [p]) = ints P ++ [Value.int .i64 p] := by simp [ints]
/-- Numbers in memory. -/
def IA (w : World) (A : Option Addr) (P : List Int) : Prop := P = [] ∨ ∃ g, A = some ⟨g, 0, none⟩ ∧ g < w.heap.size ∧ ∀ j (h : j < P.length), w.cell? ⟨g, j, none⟩ = some (.int .i64 P[j])
theorem IA.below {w w' : World} {A : Option Addr} {P : List Int} (h : IA w A P) (hb : Below w.heap.size w w') : IA w' A P := by
  rcases h with h | ⟨g, h1, h2, h3⟩
  · exact .inl h
  · exact .inr ⟨g, h1, Nat.lt_of_lt_of_le h2 hb.size, fun j hj => (hb.cell (p := ⟨g, j, none⟩) h2).trans (h3 j hj)⟩
theorem IA.of {w : World} {base n : Nat} {v : Value} {P : List Int} (h : w.ownsRow base 3 1 v n (ints P)) (hn : P.length = n) : ∃ A cap, v = .slice A n cap ∧ IA w A P := by
  subst hn
  have h2 := h
  rcases h.2 with ⟨hv, h0⟩ | ⟨g, cap, cur, hv, _⟩
  · exact ⟨none, 0, by rw [hv, h0], .inl (List.eq_nil_of_length_eq_zero h0)⟩
  · refine ⟨_, _, hv, .inr ⟨g, rfl, ?_, fun j hj => ?_⟩⟩
    · subst hv; exact (h.lt g rfl).2
    · subst hv
      rw [h2.cellAt j (by omega)]
      simp [ints, hj]
theorem own_below {w w' : World} {base n size : Nat} {e : TypeId} {v : Value} {xs : List Value} (h : w.ownsRow base e size v n xs) (hb : Below w.heap.size w w') : w'.ownsRow base e size v n xs := by
  obtain ⟨h1, h2⟩ := h
  refine ⟨h1, ?_⟩
  rcases h2 with h2 | ⟨g, cap, cur, a1, a2, a3, a4⟩
  · exact .inl h2
  · exact .inr ⟨g, cap, cur, a1, a2, (hb.block g (Array.getElem?_eq_some_iff.1 a3).1).trans a3, a4⟩
/-- The formats up to the k-th one in which a string is a numeral. -/
noncomputable def dls (l : List UInt8) : Nat → List Int
  | 0 => []
  | k + 1 => if (prs ((k : Int) + 1) l).2 = 0 then dls l k ++ [(k : Int) + 1] else dls l k
theorem dls_len (l : List UInt8) (k : Nat) : (dls l k).length ≤ k := by
  induction k with
  | zero => exact Nat.le_refl _
  | succ k ih =>
    unfold dls
    split
    · rw [List.length_append, List.length_singleton]; omega
    · omega
theorem dls_yes (l : List UInt8) (k : Nat) (h : (prs ((k : Int) + 1) l).2 = 0) : dls l (k + 1) = dls l k ++ [(k : Int) + 1] := by
  conv => lhs; unfold dls
  rw [if_pos h]
theorem dls_no (l : List UInt8) (k : Nat) (h : ¬ (prs ((k : Int) + 1) l).2 = 0) : dls l (k + 1) = dls l k := by
  conv => lhs; unfold dls
  rw [if_neg h]
theorem wf7 (k : Nat) (h : k < 7) : (Lit.int .i64 ((k : Int) + 1)).wf = true := by
  have : ∀ i : Fin 7, (Lit.int .i64 ((i.1 : Int) + 1)).wf = true := by decide
  exact this ⟨k, h⟩
def DetR (l : List UInt8) (w : World) (e : Ending) (w' : World) : Prop := ∃ A cap, e = .returned (.slice A (dls l 6).length cap) ∧ IA w' A (dls l 6) ∧ Below w.heap.size w w'
set_option maxRecDepth 100000 in
set_option maxHeartbeats 4000000 in
theorem detect_any (l : List UInt8) (hl : l.length ≤ 40) (w : World) (hW : LaidW w) : Calls Tryd.prog 22 #[.string (bs l)] w (DetR l w) := by
  obtain ⟨i0, hi, hz0, hz1, hz2⟩ := info_parts intInfo
  go_enter Tryd.func22, Tryd.ntmps22
  go_wp2
  go_loopw [3, 4, 5, 6] (fun v i _ _ wr => ∃ k : Nat, k ≤ 6 ∧ i = .int .i64 ((k : Int) + 1) ∧ wr.ownsRow w.heap.size 3 1 v (dls l k).length (ints (dls l k)) ∧ Below w.heap.size w wr) (fun _ i _ _ _ => (7 - intOf i).toNat)
  case atStart => exact ⟨0, by omega, rfl, World.ownsRow_nil _ _ _ _, Below.refl _ _⟩
  case round =>
    obtain ⟨k, hk, rfl, hown, hbw⟩ := hrel
    have hsz := hbw.size
    by_cases hlt : k < 6
    · have hWr := hW.below hbw
      have cP := fun w' (h : LaidW w') => parse_any ((k : Int) + 1) l (wf7 k (by omega)) hl w' h
      unfold ParR at cP
      have hlen := dls_len l k
      by_cases hE : (prs ((k : Int) + 1) l).2 = 0
      · have HS := Lib.hid (dls_yes l k hE)
        rw [hE] at cP
        generalize (prs ((k : Int) + 1) l).1 = N at cP
        clear hE
        generalize dls l k = D at hown hlen HS
        go_wp2_with fail
        refine (cP _ hWr).mono ?_
        rintro e w2 ⟨rfl, hb2⟩
        have hown2 := own_below hown hb2
        have hs2 := hb2.size
        have hbw2 := hbw.trans (hb2.mono hsz)
        go_wp2_with (at_builtin; refine wpList_append_own _ rfl _ _ 38 rfl w.heap.size 3 i0 (.int .i64 0) 1 8 Tryd.underlying38 hi hz0 hz1 hz2 rfl (by decide) _ _ _ rfl (hown2.alloc _) ⟨w2.heap.size, 0, none⟩ 1 1 [.int .i64 ((k : Int) + 1)] rfl rfl (cell_one_new _ _ _) (by intro u hu; simp at hu; subst hu; rfl) (by unfold maxLen; omega) (by omega) (by simp; omega) ?_; intro v1 w3 hown3 hgrow3 _)
        go_roundw
        case rel =>
          refine ⟨k + 1, by omega, by go_num, ?_, (hbw2.alloc (by omega) _).grown hgrow3 (by simp; omega) (fun j e => (hown2.lt j e).1)⟩
          rw [HS.out, ints_snoc, List.length_append, List.length_singleton]; exact hown3
        case measure => simp [intOf]; omega
      · have HS := Lib.hid (dls_no l k hE)
        generalize (prs ((k : Int) + 1) l).1 = N at cP
        generalize (prs ((k : Int) + 1) l).2 = E at cP hE
        have q : (E == 0) = false := neB hE
        clear hE
        generalize dls l k = D at hown hlen HS
        go_wp2_with (go_at_call 18; (with_reducible refine (cP _ hWr).mono ?_); rintro e w2 ⟨rfl, hb2⟩)
        have hown2 := own_below hown hb2
        have HO := Lib.hid hown2
        have HB := Lib.hid (hbw.trans (hb2.mono hsz))
        clear hown hown2
        go_roundw
        case rel => exact ⟨k + 1, by omega, by go_num, by rw [HS.out]; exact HO.out, HB.out⟩
        case measure => simp [intOf]; omega
    · obtain rfl : k = 6 := by omega
      obtain ⟨A, cap, rfl, hA⟩ := IA.of hown rfl
      have HA := Lib.hid hA
      clear hown hA
      go_wp2
      go_ret
      exact ⟨A, cap, rfl, HA.out, hbw⟩
set_option maxRecDepth 100000 in
set_option maxHeartbeats 8000000 in
theorem law_detects (s : ByteArray) (hs : s.size ≤ maxLen) (w : World) (hW : LaidW w) : Calls Tryd.prog 7 #[.string s] w (TrueB w) := by
  obtain ⟨i0, hi, hz0, hz1, hz2⟩ := info_parts intInfo
  obtain ⟨l, rfl⟩ := bs_ex s
  unfold maxLen at hs
  rw [bs_size] at hs
  have cC := fun w' => cut_any l hs w'
  have hl := take40 l
  generalize l.take 40 = m at cC hl
  have hdl := dls_len m 6
  obtain ⟨n, hn⟩ : ∃ n, (dls m 6).length = n := ⟨_, rfl⟩
  have HN := Lib.hid hn
  rw [hn] at hdl
  clear hn hs
  go_enter Tryd.func7, Tryd.ntmps7
  go_wp2_with (go_at_call 17; (with_reducible refine (cC _).mono ?_); rintro e w' ⟨rfl, rfl⟩)
  refine (detect_any m hl _ hW).mono ?_
  rintro e w1 ⟨A, cap, rfl, hA, hb1⟩
  rw [HN.out]
  have hW1 := hW.below hb1
  have HA := Lib.hid hA
  clear hA cC
  go_wp2
  go_loopw [4, 5, 6, 7] (fun v i _ _ wr => ∃ k : Nat, k ≤ 6 ∧ i = .int .i64 ((k : Int) + 1) ∧ wr.ownsRow w1.heap.size 3 1 v (dls m k).length (ints (dls m k)) ∧ Below w1.heap.size w1 wr) (fun _ i _ _ _ => (7 - intOf i).toNat)
  case atStart => exact ⟨0, by omega, rfl, World.ownsRow_nil _ _ _ _, Below.refl _ _⟩
  case round =>
    obtain ⟨k, hk, rfl, hown, hbw⟩ := hrel
    have hsz := hbw.size
    by_cases hlt : k < 6
    · have cP := fun w' => rparse_any ((k : Int) + 1) m hl w'
      unfold ParR at cP
      have hlen := dls_len m k
      by_cases hE : (prs ((k : Int) + 1) m).2 = 0
      · have HS := Lib.hid (dls_yes m k hE)
        rw [hE] at cP
        generalize (prs ((k : Int) + 1) m).1 = N at cP
        clear hE
        generalize dls m k = D at hown hlen HS
        go_wp2_with fail
        refine (cP _).mono ?_
        rintro e w2 ⟨rfl, hb2⟩
        have hown2 := own_below hown hb2
        have hs2 := hb2.size
        have hbw2 := hbw.trans (hb2.mono hsz)
        go_wp2_with (at_builtin; refine wpList_append_own _ rfl _ _ 38 rfl w1.heap.size 3 i0 (.int .i64 0) 1 8 Tryd.underlying38 hi hz0 hz1 hz2 rfl (by decide) _ _ _ rfl (hown2.alloc _) ⟨w2.heap.size, 0, none⟩ 1 1 [.int .i64 ((k : Int) + 1)] rfl rfl (cell_one_new _ _ _) (by intro u hu; simp at hu; subst hu; rfl) (by unfold maxLen; omega) (by omega) (by simp; omega) ?_; intro v1 w3 hown3 hgrow3 _)
        go_roundw
        case rel =>
          refine ⟨k + 1, by omega, by go_num, ?_, (hbw2.alloc (by omega) _).grown hgrow3 (by simp; omega) (fun j e => (hown2.lt j e).1)⟩
          rw [HS.out, ints_snoc, List.length_append, List.length_singleton]; exact hown3
        case measure => simp [intOf]; omega
      · have HS := Lib.hid (dls_no m k hE)
        generalize (prs ((k : Int) + 1) m).1 = N at cP
        generalize (prs ((k : Int) + 1) m).2 = E at cP hE
        have q : (E == 0) = false := neB hE
        clear hE
        generalize dls m k = D at hown hlen HS
        go_wp2_with (go_at_call 19; (with_reducible refine (cP _).mono ?_); rintro e w2 ⟨rfl, hb2⟩)
        have hown2 := own_below hown hb2
        have HO := Lib.hid hown2
        have HB := Lib.hid (hbw.trans (hb2.mono hsz))
        clear hown hown2
        go_roundw
        case rel => exact ⟨k + 1, by omega, by go_num, by rw [HS.out]; exact HO.out, HB.out⟩
        case measure => simp [intOf]; omega
    · obtain rfl : k = 6 := by omega
      obtain ⟨A2, cap2, rfl, hA2⟩ := IA.of hown rfl
      rw [HN.out]
      have hA1 := HA.out.below hbw
      clear hown
      have hWr := hW1.below hbw
      have p0 : ((n : Int) != (n : Int)) = false := by simp
      have HBW := Lib.hid (chain hb1 hbw)
      have HA1 := Lib.hid hA1
      have HA2 := Lib.hid hA2
      clear hA1 hA2 hb1 hbw hsz hW hW1 HA
      go_wp2_with (go_at_call 16; (with_reducible refine (known_any _ hWr).mono ?_); rintro e w4 ⟨rfl, hb4⟩)
      go_loopw [8] (fun x wr' => ∃ (k q : Nat), x = .int .i64 (k : Nat) ∧ k ≤ n ∧ wr' = w4.drewN q) (fun x _ => n - (intOf x).toNat)
      case atStart => exact ⟨0, 0, rfl, Nat.zero_le _, rfl⟩
      case round =>
        obtain ⟨k, q, rfl, hk, rfl⟩ := hrel
        by_cases hkn : k < n
        · rcases HA1.out.below hb4 with h | ⟨g1, rfl, _, h1⟩
          · exfalso; have := HN.out; rw [h] at this; simp at this; omega
          · rcases HA2.out.below hb4 with h | ⟨g2, rfl, _, h2⟩
            · exfalso; have := HN.out; rw [h] at this; simp at this; omega
            · have k1 := h1 k (by rw [HN.out]; exact hkn)
              have k2 := h2 k (by rw [HN.out]; exact hkn)
              generalize (dls m 6)[k]'(by rw [HN.out]; exact hkn) = X at k1 k2
              have px : (X != X) = false := by simp
              clear h1 h2
              go_wp2
              go_quiet (fail)
              all_goals
                go_wp2
                go_roundw
                case rel => exact ⟨k + 1, _, by go_num, by omega, by first | rfl | simp only [World.drewN_drewN]⟩
                case measure => simp [intOf]; omega
        · go_wp2
          go_ret
          exact ⟨rfl, (chain HBW.out hb4).trans ⟨rfl, rfl, rfl, Nat.le_refl _, fun _ _ => rfl⟩⟩
end Go.Proofs.YteahingapnijcaaDoor
