/- Layer 3: the reference's Tokens. -/
import Derived.Test.YthjooopppidcfaaDoorKs
import Derived.Deep.DeepCutAuto
import Derived.Deep.RegionHeld3
import Derived.Deep.AppendLies
namespace Go.Proofs.YthjooopppidcfaaDoor
open Go.RowKit Go.Shelf
open Gc

theorem info35 : (Tryd.prog.info? 35).map (fun i => (i.zero, i.size, i.bytes)) = some (some (.agg #[.int .i64 0, .int .i64 0, .int .i64 0]), 3, 24) := by kernel_rfl
theorem tat_of35 {w : World} {b : Nat} {v : Value} {l : List (Int × Nat × Nat)} (h : w.ownsRow b 35 3 v l.length (rowT l)) : ∃ A cap, v = .slice A l.length cap ∧ TAt w A l := by
  have h2 := h
  rcases h.2 with ⟨hv, h0⟩ | ⟨g, cap, cur, hv, hb, hg, _⟩
  · have : l = [] := List.eq_nil_of_length_eq_zero h0
    subst this
    exact ⟨none, 0, hv, .inl rfl⟩
  · subst hv
    refine ⟨_, cap, rfl, .inr ⟨g, rfl, (Array.getElem?_eq_some_iff.1 hg).1, fun k hk => ?_⟩⟩
    have e0 := rowT_get l k hk 0 (by decide)
    have e1 := rowT_get l k hk 1 (by decide)
    have e2 := rowT_get l k hk 2 (by decide)
    simp only [Nat.add_zero, List.getElem?_cons_zero, List.getElem?_cons_succ] at e0 e1 e2
    refine ⟨?_, ?_, ?_⟩
    · rw [h2.cellAt (k * 3) (by omega)]; exact e0
    · rw [h2.cellAt (k * 3 + 1) (by omega)]; exact e1
    · rw [h2.cellAt (k * 3 + 2) (by omega)]; exact e2
def RefTok (P : List Nat) (w : World) (e : Ending) (w' : World) : Prop := ∃ A cap, e = .returned (.tuple #[.slice A (utok P).length cap, .bool true]) ∧ TAt w' A (utok P) ∧ Below w.heap.size w w'
def RefNone (w : World) (e : Ending) (w' : World) : Prop := e = .returned (.tuple #[.slice none 0 0, .bool false]) ∧ Below w.heap.size w w'
set_option maxRecDepth 100000 in
set_option maxHeartbeats 1000000 in
theorem refTokens_bad {s P bad} (h : Str s P bad) (hb : bad ≠ []) (w : World) : Calls Tryd.prog 17 #[.string s] w (RefNone w) := by
  go_enter Tryd.func17, Tryd.ntmps17
  go_wp2_with (go_at_call 38; refine (clusters_bad h hb _).mono ?_; rintro e w1 ⟨rfl, hb1⟩)
  go_ret2
  exact ⟨rfl, hb1⟩

/-- The cases of a token. -/
theorem tok_wordy (c : List Int) (i : Nat) (h : Sg.cat c i = 5 ∨ Sg.cat c i = 6) : Sg.tokEnd c i = Sg.runTo (Sg.inside c) c.length (i + 1) ∧ Sg.tokKind c i = kindOf c i (Sg.tokEnd c i) := by
  have hw : Sg.wordy (Sg.cat c i) = true := by unfold Sg.wordy; rcases h with h | h <;> rw [h] <;> rfl
  constructor
  · unfold Sg.tokEnd; rw [if_pos hw]
  · unfold Sg.tokKind; rw [if_pos hw]; rfl
theorem tok_spacy (c : List Int) (i : Nat) (h : Sg.cat c i = 2 ∨ Sg.cat c i = 3) : Sg.tokEnd c i = Sg.runTo (fun k => Sg.spacy (Sg.cat c k)) c.length (i + 1) ∧ Sg.tokKind c i = 3 := by
  have hw : Sg.wordy (Sg.cat c i) = false := by unfold Sg.wordy; rcases h with h | h <;> rw [h] <;> rfl
  have hs : Sg.spacy (Sg.cat c i) = true := by unfold Sg.spacy; rcases h with h | h <;> rw [h] <;> rfl
  constructor
  · unfold Sg.tokEnd; rw [if_neg (by rw [hw]; simp), if_pos hs]
  · unfold Sg.tokKind; rw [if_neg (by rw [hw]; simp), if_pos hs]
theorem tok_other (c : List Int) (i : Nat) (h5 : Sg.cat c i ≠ 5) (h6 : Sg.cat c i ≠ 6) (h2 : Sg.cat c i ≠ 2) (h3 : Sg.cat c i ≠ 3) : Sg.tokEnd c i = i + 1 ∧ Sg.tokKind c i = if Sg.cat c i = 1 then 6 else if Sg.cat c i = 7 then 5 else 4 := by
  have hw : Sg.wordy (Sg.cat c i) = false := by unfold Sg.wordy; rw [decide_eq_false h5, decide_eq_false h6]; rfl
  have hs : Sg.spacy (Sg.cat c i) = false := by unfold Sg.spacy; rw [decide_eq_false h2, decide_eq_false h3]; rfl
  constructor
  · unfold Sg.tokEnd; rw [if_neg (by rw [hw]; simp), if_neg (by rw [hs]; simp)]
  · unfold Sg.tokKind; rw [if_neg (by rw [hw]; simp), if_neg (by rw [hs]; simp)]

set_option maxRecDepth 100000 in
set_option maxHeartbeats 8000000 in
theorem refTokens_ok {s P} (h : Str s P []) (hsm : P.length ≤ 1000) (w : World) : Calls Tryd.prog 17 #[.string s] w (RefTok P w) := by
  obtain ⟨i0, hi, hz0, hz1, hz2⟩ := info_parts info35
  have cC := clusters_ok h hsm w
  have cI := fun l A cap k hl hk w' hA => inside_any l A cap k hl hk w' hA
  have hle : (segC P).length ≤ 1000 := by rw [segC_len, ← clu_len]; exact Nat.le_trans (clu_le P) hsm
  have hbl : (bl (cls (cp P))).length = (segC P).length + 1 := by rw [bl_len, segC_len]
  have BG := Go.Lib.hid (fun k h => bl_get P k h)
  have hR0 := RestT.zero P
  have hRn := fun i pre (R : RestT P i pre) hi => R.next hi
  have hRe := fun i pre (R : RestT P i pre) hi => R.end hi
  have hRs := fun i pre (R : RestT P i pre) hi => R.short hi
  have hul := utok_len P
  obtain ⟨c, hc⟩ : ∃ c, segC P = c := ⟨_, rfl⟩
  unfold CluRet at cC
  rw [hc] at cC hle hbl
  simp only [hc] at hRn hRe hRs
  obtain ⟨n, hn⟩ : ∃ n, c.length = n := ⟨_, rfl⟩
  rw [hn] at cC hle hbl
  simp only [hn] at hRn hRe hRs
  have NN := Go.Lib.hid hn
  have BL := Go.Lib.hid hbl
  have RN := Go.Lib.hid hRn
  have RE := Go.Lib.hid hRe
  have RS := Go.Lib.hid hRs
  have UL := Go.Lib.hid hul
  have R0 := Go.Lib.hid hR0
  clear hn hbl hc hRn hRe hRs hul hR0
  go_enter Tryd.func17, Tryd.ntmps17
  go_wp2_with (go_at_call 38; (with_reducible refine cC.mono ?_); rintro e w2 ⟨g, cap, A, cap2, rfl, hCs, hCf, hb2⟩; have CS := Go.Lib.hid hCs; have CF := Go.Lib.hid hCf; have B2 := Go.Lib.hid hb2; clear hCs hCf hb2)
  clear cC
  go_loopw [7, 8] (fun v s8 wr => ∃ (i : Nat) (pre : List (Int × Nat × Nat)), i ≤ n ∧ s8 = .int .i64 (i : Nat) ∧ Hid (RestT P i pre) ∧ wr.ownsRow w2.heap.size 35 3 v pre.length (rowT pre) ∧ Hid (Below w2.heap.size w2 wr)) (fun _ i _ => n - (RowKit.intOf i).toNat)
  case atStart => exact ⟨0, [], Nat.zero_le _, rfl, R0, World.ownsRow_nil _ _ _ _, Go.Lib.hid (Below.refl _ _)⟩
  case round =>
    clear R0
    obtain ⟨i, pre, hin, rfl, R, hown, HB⟩ := hrel
    have hsz := HB.out.size
    by_cases hlt : i < n
    · have hic : i < c.length := by rw [NN.out]; exact hlt
      rcases CF.out with h0 | ⟨gc, rfl, hC⟩
      · rw [h0] at hic; exact absurd hic (Nat.not_lt_zero _)
      · have ca := (HB.out.cell (p := ⟨gc, i, none⟩) hC.1).trans (hC.2 i hic)
        rw [← cat_lt c i hic] at ca
        have hcat : Sg.cat c i = Sg.cat c i := rfl
        generalize hga : Sg.cat c i = a at ca
        have CA := Go.Lib.hid hga
        clear hga hcat
        go_upto_block 2 with (fail)
        go_cut [9, 10] (fun s9 s10 wx => ∃ (k : Nat) (kd : Int), s9 = .int .i64 (k : Nat) ∧ s10 = .int .i64 kd ∧ Hid (k = Sg.tokEnd c i ∧ kd = Sg.tokKind c i) ∧ wr = wx)
        case first =>
          by_cases hw : a = 5 ∨ a = 6
          · have htw := tok_wordy c i (by rw [CA.out]; exact hw)
            rw [NN.out] at htw
            have HT := Go.Lib.hid htw
            clear htw
            rcases hw with rfl | rfl
            all_goals
              go_wp2
              go_loop [9] (fun s9 => ∃ k : Nat, i + 1 ≤ k ∧ k ≤ n ∧ s9 = .int .i64 (k : Nat) ∧ Hid (Sg.runTo (Sg.inside c) n (i + 1) = Sg.runTo (Sg.inside c) n k)) (fun s9 => n - (RowKit.intOf s9).toNat)
              case atStart => exact ⟨i + 1, Nat.le_refl _, by omega, by go_num, Go.Lib.hid rfl⟩
              case round =>
                obtain ⟨k, hk1, hk2, rfl, I⟩ := hrel
                by_cases hkn : k < n
                · have ci := cI c (some ⟨gc, 0, none⟩) cap2 k (by rw [NN.out]; exact hle) (by omega) wr (.inr ⟨gc, rfl, hC.below HB.out hC.1⟩)
                  rw [NN.out] at ci
                  cases hin' : Sg.inside c k with
                  | true =>
                    rw [hin'] at ci
                    have GO := Go.Lib.hid (I.out.trans (Sg.runTo_go hkn hin'))
                    clear hin'
                    go_wp2_with (go_at_call 39; (with_reducible refine ci.mono ?_); rintro en w' ⟨rfl, rfl⟩)
                    go_round
                    case rel => exact ⟨k + 1, by omega, by omega, by go_num, GO⟩
                    case measure => simp [RowKit.intOf]; omega
                  | false =>
                    rw [hin'] at ci
                    have HKE := Go.Lib.hid (HT.out.1.trans (I.out.trans (Sg.runTo_stop (fun h => by rw [hin'] at h; cases h.2))))
                    clear hin'
                    go_wp2_with (go_at_call 39; (with_reducible refine ci.mono ?_); rintro en w' ⟨rfl, rfl⟩)
                    clear ci
                    go_loop [10, 11] (fun s10 s11 => ∃ (j : Nat) (kd : Int), i ≤ j ∧ j ≤ k ∧ s11 = .int .i64 (j : Nat) ∧ s10 = .int .i64 kd ∧ Hid (kd = kindOf c i j)) (fun _ s11 => k - (RowKit.intOf s11).toNat)
                    case atStart => exact ⟨i, 2, Nat.le_refl _, by omega, rfl, rfl, Go.Lib.hid (kindOf_start _ _).symm⟩
                    case round =>
                      obtain ⟨j, kd, hij, hjk, rfl, rfl, J⟩ := hrel
                      by_cases hjl : j < k
                      · have hjc : j < c.length := by rw [NN.out]; omega
                        have cj := (HB.out.cell (p := ⟨gc, j, none⟩) hC.1).trans (hC.2 j hjc)
                        rw [← cat_lt c j hjc] at cj
                        have hjn : j < n := by omega
                        clear hjc
                        by_cases h5 : Sg.cat c j = 5
                        · rw [h5] at cj
                          have H5 := Go.Lib.hid (kindOf_five c i j hij h5)
                          clear h5
                          go_wp2
                          go_round
                          case rel => exact ⟨j + 1, 1, by omega, by omega, by go_num, rfl, Go.Lib.hid H5.out.symm⟩
                          case measure => simp [RowKit.intOf]; omega
                        · have H5 := Go.Lib.hid (kindOf_not c i j hij h5)
                          generalize Sg.cat c j = b at cj h5
                          have k5 := neB h5
                          clear h5
                          go_wp2
                          go_round
                          case rel => exact ⟨j + 1, kd, by omega, by omega, by go_num, rfl, Go.Lib.hid (J.out.trans H5.out.symm)⟩
                          case measure => simp [RowKit.intOf]; omega
                      · obtain rfl : j = k := by omega
                        go_wp2
                        go_meet
                        exact ⟨j, kd, rfl, rfl, Go.Lib.hid ⟨HKE.out.symm, by rw [HT.out.2, HKE.out]; exact J.out⟩, rfl⟩
                · have HKE := Go.Lib.hid (HT.out.1.trans (I.out.trans (Sg.runTo_stop (fun h => hkn h.1))))
                  go_wp2
                  go_loop [10, 11] (fun s10 s11 => ∃ (j : Nat) (kd : Int), i ≤ j ∧ j ≤ k ∧ s11 = .int .i64 (j : Nat) ∧ s10 = .int .i64 kd ∧ Hid (kd = kindOf c i j)) (fun _ s11 => k - (RowKit.intOf s11).toNat)
                  case atStart => exact ⟨i, 2, Nat.le_refl _, by omega, rfl, rfl, Go.Lib.hid (kindOf_start _ _).symm⟩
                  case round =>
                    obtain ⟨j, kd, hij, hjk, rfl, rfl, J⟩ := hrel
                    by_cases hjl : j < k
                    · have hjc : j < c.length := by rw [NN.out]; omega
                      have cj := (HB.out.cell (p := ⟨gc, j, none⟩) hC.1).trans (hC.2 j hjc)
                      rw [← cat_lt c j hjc] at cj
                      have hjn : j < n := by omega
                      clear hjc
                      by_cases h5 : Sg.cat c j = 5
                      · rw [h5] at cj
                        have H5 := Go.Lib.hid (kindOf_five c i j hij h5)
                        clear h5
                        go_wp2
                        go_round
                        case rel => exact ⟨j + 1, 1, by omega, by omega, by go_num, rfl, Go.Lib.hid H5.out.symm⟩
                        case measure => simp [RowKit.intOf]; omega
                      · have H5 := Go.Lib.hid (kindOf_not c i j hij h5)
                        generalize Sg.cat c j = b at cj h5
                        have k5 := neB h5
                        clear h5
                        go_wp2
                        go_round
                        case rel => exact ⟨j + 1, kd, by omega, by omega, by go_num, rfl, Go.Lib.hid (J.out.trans H5.out.symm)⟩
                        case measure => simp [RowKit.intOf]; omega
                    · obtain rfl : j = k := by omega
                      go_wp2
                      go_meet
                      exact ⟨j, kd, rfl, rfl, Go.Lib.hid ⟨HKE.out.symm, by rw [HT.out.2, HKE.out]; exact J.out⟩, rfl⟩
          · have k5 := neB (fun h : a = 5 => hw (.inl h))
            have k6 := neB (fun h : a = 6 => hw (.inr h))
            by_cases hs : a = 2 ∨ a = 3
            · have hts := tok_spacy c i (by rw [CA.out]; exact hs)
              rw [NN.out] at hts
              have HT := Go.Lib.hid hts
              clear hts hw
              rcases hs with rfl | rfl
              all_goals
                clear k5 k6
                go_wp2
                go_loop [9] (fun s9 => ∃ k : Nat, i + 1 ≤ k ∧ k ≤ n ∧ s9 = .int .i64 (k : Nat) ∧ Hid (Sg.runTo (fun k => Sg.spacy (Sg.cat c k)) n (i + 1) = Sg.runTo (fun k => Sg.spacy (Sg.cat c k)) n k)) (fun s9 => n - (RowKit.intOf s9).toNat)
                case atStart => exact ⟨i + 1, Nat.le_refl _, by omega, by go_num, Go.Lib.hid rfl⟩
                case round =>
                  obtain ⟨k, hk1, hk2, rfl, I⟩ := hrel
                  by_cases hkn : k < n
                  · have hkc : k < c.length := by rw [NN.out]; exact hkn
                    have ck := (HB.out.cell (p := ⟨gc, k, none⟩) hC.1).trans (hC.2 k hkc)
                    rw [← cat_lt c k hkc] at ck
                    clear hkc
                    by_cases hb : Sg.cat c k = 2 ∨ Sg.cat c k = 3
                    · have GO := Go.Lib.hid (I.out.trans (Sg.runTo_go (p := fun k => Sg.spacy (Sg.cat c k)) hkn (by unfold Sg.spacy; rcases hb with h | h <;> rw [h] <;> rfl)))
                      rcases hb with hb | hb
                      all_goals
                        rw [hb] at ck
                        clear hb
                        go_wp2
                        go_round
                        case rel => exact ⟨k + 1, by omega, by omega, by go_num, GO⟩
                        case measure => simp [RowKit.intOf]; omega
                    · have HKE := Go.Lib.hid (HT.out.1.trans (I.out.trans (Sg.runTo_stop (p := fun k => Sg.spacy (Sg.cat c k)) (fun h => hb (by have := h.2; unfold Sg.spacy at this; simpa using this)))))
                      generalize Sg.cat c k = b at ck hb
                      have kb2 := neB (fun h : b = 2 => hb (.inl h))
                      have kb3 := neB (fun h : b = 3 => hb (.inr h))
                      clear hb
                      go_wp2
                      go_meet
                      exact ⟨k, 3, rfl, rfl, Go.Lib.hid ⟨HKE.out.symm, HT.out.2.symm⟩, rfl⟩
                  · have HKE := Go.Lib.hid (HT.out.1.trans (I.out.trans (Sg.runTo_stop (p := fun k => Sg.spacy (Sg.cat c k)) (fun h => hkn h.1))))
                    go_wp2
                    go_meet
                    exact ⟨k, 3, rfl, rfl, Go.Lib.hid ⟨HKE.out.symm, HT.out.2.symm⟩, rfl⟩
            · have k2 := neB (fun h : a = 2 => hs (.inl h))
              have k3 := neB (fun h : a = 3 => hs (.inr h))
              have hto := tok_other c i (fun h => hw (.inl (by rw [← CA.out]; exact h))) (fun h => hw (.inr (by rw [← CA.out]; exact h))) (fun h => hs (.inl (by rw [← CA.out]; exact h))) (fun h => hs (.inr (by rw [← CA.out]; exact h)))
              rw [CA.out] at hto
              have HT := Go.Lib.hid hto
              clear hto hw hs
              by_cases h1 : a = 1
              · subst h1
                go_wp2
                go_meet
                exact ⟨i + 1, 6, by go_num, rfl, Go.Lib.hid ⟨HT.out.1.symm, by rw [HT.out.2]; rfl⟩, rfl⟩
              · have k1 := neB h1
                by_cases h7 : a = 7
                · subst h7
                  clear h1
                  go_wp2
                  go_meet
                  exact ⟨i + 1, 5, by go_num, rfl, Go.Lib.hid ⟨HT.out.1.symm, by rw [HT.out.2]; rfl⟩, rfl⟩
                · have k7 := neB h7
                  have HT2 := Go.Lib.hid (show Sg.tokKind c i = 4 by rw [HT.out.2, if_neg h1, if_neg h7])
                  clear h1 h7
                  go_wp2
                  go_meet
                  exact ⟨i + 1, 4, by go_num, rfl, Go.Lib.hid ⟨HT.out.1.symm, HT2.out.symm⟩, rfl⟩
        case rest =>
          obtain ⟨k, kd, rfl, rfl, HK, rfl⟩ := hcut
          have hke := HK.out.1
          have hte := Sg.tokEnd_lt c i hic
          rw [← hke, NN.out] at hte
          have hnx := RN.out i pre R.out hlt
          rw [← hke, ← HK.out.2] at hnx
          have HN := Go.Lib.hid hnx
          have hsh := RS.out i pre R.out hlt
          have hpl : pre.length ≤ 1000 := by have := UL.out; omega
          have cf := (HB.out.cell (p := ⟨g, i, none⟩) CS.out.1).trans (CS.out.2 i (by rw [BL.out]; omega))
          rw [BG.out i (by rw [BL.out]; omega)] at cf
          have ct := (HB.out.cell (p := ⟨g, k, none⟩) CS.out.1).trans (CS.out.2 k (by rw [BL.out]; omega))
          rw [BG.out k (by rw [BL.out]; omega)] at ct
          generalize cut P i = f at cf HN
          generalize cut P k = t at ct HN
          have hg2 : g < w2.heap.size := CS.out.1
          have hgw : g < wr.heap.size := by omega
          clear hke hnx hsh ca
          have hin1 : i < n + 1 := by omega
          have hkn1 : k < n + 1 := by omega
          have hj0 : (0 : Int) ≤ (i : Int) := Int.natCast_nonneg _
          have hj1 : (i : Int) < (n : Int) + 1 := by omega
          have hj2 : (0 : Int) ≤ (k : Int) := Int.natCast_nonneg _
          have hj3 : (k : Int) < (n : Int) + 1 := by omega
          have ag : Value.ownBlock _ ≠ some g := fun h => by have := (hown.lt g h).1; omega
          have HTE := Go.Lib.hid hte
          clear hte
          go_wp2_with fail
          go_region_held3 (fun w' => w'.cell? ⟨g, i, none⟩ = some (.int .i64 (f : Nat)) ∧ w'.cell? ⟨g, k, none⟩ = some (.int .i64 (t : Nat)))
            (first
              | go_keep
              | (go_split_ands
                 refine ⟨?_, ?_⟩
                 · (rw [hgrow.cell_far _ (by simp; omega) (Ne.symm ag)]; assumption)
                 · (rw [hgrow.cell_far _ (by simp; omega) (Ne.symm ag)]; assumption)))
            ((refine step_append_lies _ (by rfl) _ _ _ (by rfl) w2.heap.size 35 i0 _ 3 24 Tryd.underlying30 hi hz0 hz1 hz2 rfl (by omega) _ pre.length (rowT pre) (by rfl) ((hown.alloc _).drew)
                ⟨wr.heap.size, 0, none⟩ 1 1 [.int .i64 kd, .int .i64 (f : Nat), .int .i64 (t : Nat)] (by rfl) (by rfl) (World.news_of_block (cs := #[.int .i64 kd, .int .i64 (f : Nat), .int .i64 (t : Nat)]) (t := 35) (fr := (0, 0)) (heap_alloc_new wr _)) (by simp [Value.oneCell'])
                (by omega) (by unfold maxLen; omega) (by omega) (by simp; omega) (wr.heap.size + 1) (by simp) ?_; intro gg cap' w1 hown1 hgrow hat hlt'))
          have hte := HTE.out
          have own0 := hown
          have hown2 := Go.Lib.hid hown1
          have hgrow2 := Go.Lib.hid hgrow
          clear hown1 hgrow cf ct
          go_wp2
          go_roundw
          case rel =>
            refine ⟨k, pre ++ [(kd, f, t)], by omega, rfl, HN, ?_, Go.Lib.hid ((bdrew1 (HB.out.alloc (by omega) _)).grown hgrow2.out (by simp; omega) (fun j e => (own0.lt j e).1))⟩
            rw [rowT_snoc, List.length_append]; exact hown2.out
          case measure => simp [RowKit.intOf]; omega
    · have hend := RE.out i pre R.out hlt
      have HO := Go.Lib.hid (show wr.ownsRow w2.heap.size 35 3 _ (utok P).length (rowT (utok P)) from by rw [hend]; exact hown)
      clear hown hend
      go_wp2
      go_ret2
      obtain ⟨A', cap', rfl, hT⟩ := tat_of35 HO.out
      exact ⟨A', cap', rfl, hT, B2.out.trans (HB.out.mono B2.out.size)⟩
end Go.Proofs.YthjooopppidcfaaDoor
