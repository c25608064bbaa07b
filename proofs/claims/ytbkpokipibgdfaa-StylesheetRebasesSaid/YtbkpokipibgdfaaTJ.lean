/- Layer 8: the reference's Check (16). -/
import Derived.Test.YtbkpokipibgdfaaTI
namespace Go.Proofs.Ytbkpokipibgdfaa
open Go.RowKit Go.Lib Go.Maps
set_option linter.unusedVariables false

theorem own_any (l : List St) (hnm : NmsOk l) (n : Nat) (hn : l.length = n) (h1000 : n ≤ 1000) (A : Option Addr) (c : Nat) (k : Nat) (hk : k < l.length) (w : World) (hA : LsAt w A l) :
    Calls Try.prog 45 #[.slice A n c, .int .i64 (k : Nat)] w fun e w' => e = .returned (.int .i64 (fldK l k)) ∧ Below w.heap.size w w' := by
  cases k with
  | zero => exact own_zero l hnm n hn h1000 A c hk w hA
  | succ j => exact own_succ l hnm n hn h1000 A c j hk w hA
theorem ends_nodup {l : List St} {o : Option Nat} (he : Ends l o) (pre : List Nat) : ChP l o pre → pre.Nodup := by
  refine rev_ind (p := fun pre => ChP l o pre → pre.Nodup) (fun _ => List.nodup_nil) ?_ pre
  intro q k ih hc
  obtain ⟨h1, h2⟩ := hc.init
  have hk : k ∉ q := fun hk => not_ends h1 h2 hk he
  rw [List.nodup_append]
  exact ⟨ih h1, by simp, by rintro a ha b hb rfl; simp at hb; subst hb; exact hk ha⟩
theorem ch_lt {l : List St} {i : Nat} (hi : i < l.length) {pre : List Nat} (h : ChP l (some i) pre) : ∀ x ∈ pre, x < l.length := by
  intro x hx
  obtain ⟨q, t, e⟩ := List.append_of_mem hx
  have h1 := h q x t e
  rcases List.eq_nil_or_concat q with rfl | ⟨q', y, rfl⟩
  · rw [nxt_nil] at h1; cases h1; exact hi
  · rw [List.concat_eq_append, nxt_snoc] at h1; exact stp_lt h1
theorem st6_below {m b : Nat} {w W : World} (hb : m ≤ b) (h : Below m w W) (v0 v1 v2 v3 v4 v5 : Value) : Below m w ((((((W.setCell ⟨b, 0, none⟩ v0).setCell ⟨b, 1, none⟩ v1).setCell ⟨b, 2, none⟩ v2).setCell ⟨b, 3, none⟩ v3).setCell ⟨b, 4, none⟩ v4).setCell ⟨b, 5, none⟩ v5) :=
  (((((h.setCell (p := ⟨b, 0, none⟩) hb _).setCell (p := ⟨b, 1, none⟩) hb _).setCell (p := ⟨b, 2, none⟩) hb _).setCell (p := ⟨b, 3, none⟩) hb _).setCell (p := ⟨b, 4, none⟩) hb _).setCell (p := ⟨b, 5, none⟩) hb _
theorem chkA_fld {l : List St} (h : l.length ≤ 128) (h0 : fldP l ≠ 0) : chkA l = fldP l := by
  unfold chkA chkL
  rw [if_neg (by omega), if_pos h0]
theorem chkA_lnk {l : List St} (h : l.length ≤ 128) (h0 : fldP l = 0) (h1 : lnkP l ≠ 0) : chkA l = lnkP l := by
  unfold chkA chkL
  rw [if_neg (by omega), if_neg (by simp [h0]), if_pos h1]
theorem chkA_end {l : List St} (h : l.length ≤ 128) (h0 : fldP l = 0) (h1 : lnkP l = 0) : chkA l = if endB l = true then 0 else 16 := by
  unfold chkA chkL
  rw [if_neg (by omega), if_neg (by simp [h0]), if_neg (by simp [h1])]
theorem fld_kind {l : List St} {k : Nat} (hk : k < l.length) (h : fldK l k = 0) : l[k].kind = 1 ∨ l[k].kind = 2 := by
  rw [fldK_at l k hk] at h
  unfold fldX at h
  by_cases h1 : l[k].id < 1 ∨ 1073741824 < l[k].id
  · rw [if_pos h1] at h; omega
  rw [if_neg h1] at h
  by_cases h2 : l[k].id = lastI l k
  · rw [if_pos h2] at h; omega
  rw [if_neg h2] at h
  by_cases h3 : l[k].id < lastI l k
  · rw [if_pos h3] at h; omega
  rw [if_neg h3] at h
  by_cases h4 : l[k].kind ≠ 1 ∧ l[k].kind ≠ 2
  · rw [if_pos h4] at h; omega
  omega
theorem fld_pos {l : List St} {k : Nat} (hk : k < l.length) (h : fldK l k = 0) : 1 ≤ l[k].id := by
  rw [fldK_at l k hk] at h
  unfold fldX at h
  by_cases h1 : l[k].id < 1 ∨ 1073741824 < l[k].id
  · rw [if_pos h1] at h; omega
  · omega
theorem plc_zero {l : List St} (h : ∀ k, k < l.length → fldK l k = 0) : plc l 0 = none := by
  cases hp : plc l 0 with
  | none => rfl
  | some k =>
    obtain ⟨hk, he⟩ := plc_lt hp
    have := fld_pos hk (h k hk)
    omega
set_option maxRecDepth 100000 in
set_option maxHeartbeats 16000000 in
theorem rcheck_any (l : List St) (hok : LsOk l) (hnm : NmsOk l) (n : Nat) (hn : l.length = n) (h1000 : n ≤ 1000) (A : Option Addr) (c : Nat) (w : World) (hA : LsAt w A l) :
    Calls Try.prog 16 #[.slice A n c] w fun e w' => e = .returned (.int .i64 (chkA l)) ∧ Below w.heap.size w w' := by
  by_cases h128 : n ≤ 128
  case neg =>
    have e0 : (128 : Int) < (n : Int) := by omega
    have HE := Go.Lib.hid (show chkA l = 9 by unfold chkA; rw [if_pos (by omega)])
    have hb := Below.refl w.heap.size w
    clear h128
    go_enter Try.func16, Try.ntmps16
    go_wp2
    go_ret
    exact ⟨ret_int' HE.out.symm, hb⟩
  have e0 : ¬ (128 : Int) < (n : Int) := by omega
  have HL := Go.Lib.hid (show l.length ≤ 128 by omega)
  have HN := Go.Lib.hid hn
  have HA := Go.Lib.hid hA
  have CO := Go.Lib.hid (fun k (hk : k < l.length) w' (hb : Below w.heap.size w w') => own_any l hnm n hn h1000 A c k hk w' (hA.below hb))
  have CI := Go.Lib.hid (fun kd i w' (hb : Below w.heap.size w w') => ris_any l n hn h1000 A c kd i w' (hA.below hb))
  have CF := Go.Lib.hid (fun i w' (hb : Below w.heap.size w w') => rfind_any l n hn h1000 A c i w' (hA.below hb))
  clear hn hA hok hnm
  go_enter Try.func16, Try.ntmps16
  go_wp2_with fail
  go_loopw [3, 4] (fun s3 _ wr => ∃ k : Nat, k ≤ n ∧ s3 = .int .i64 (k : Nat) ∧ Hid (∀ j, j < k → fldK l j = 0) ∧ Hid (Below w.heap.size w wr)) (fun s3 _ _ => n - (intOf s3).toNat)
  case atStart => exact ⟨0, Nat.zero_le _, rfl, Go.Lib.hid (fun j h => absurd h (Nat.not_lt_zero _)), Go.Lib.hid (Below.refl _ _)⟩
  case round =>
    obtain ⟨k, hk, rfl, HZ, HB⟩ := hrel
    have hs := HB.out.size
    by_cases hlt : k < n
    · have hkl : k < l.length := by rw [HN.out]; exact hlt
      have co := CO.out k hkl wr HB.out
      have HFE := Go.Lib.hid (fun (h : fldK l k ≠ 0) => show fldP l = fldK l k from chk_find (fldK l) l.length k hkl HZ.out h)
      have HFZ := Go.Lib.hid (fun (h : fldK l k = 0) => show ∀ j, j < k + 1 → fldK l j = 0 from fun j hj => if e : j = k then by rw [e]; exact h else HZ.out j (by omega))
      clear hkl
      generalize fldK l k = E at co HFE HFZ
      go_wp2_with fail
      (with_reducible refine co.mono ?_)
      rintro e w1 ⟨rfl, k1⟩
      have K1 := Go.Lib.hid (HB.out.trans (k1.mono hs))
      clear co k1
      by_cases hE : E = 0
      · subst hE
        have HZ1 := Go.Lib.hid (HFZ.out rfl)
        clear HFE HFZ
        go_wp2_with fail
        go_roundw
        case rel => exact ⟨k + 1, by omega, by go_num, HZ1, K1⟩
        case measure => simp [intOf]; omega
      · have e1 : (E != 0) = true := by simpa using hE
        have HR := Go.Lib.hid (show chkA l = E by rw [chkA_fld HL.out (by rw [HFE.out hE]; exact hE), HFE.out hE])
        clear HFE HFZ hE
        go_wp2
        go_ret
        exact ⟨ret_int' HR.out.symm, K1.out⟩
    · obtain rfl : k = n := by omega
      have HFA := Go.Lib.hid (show ∀ j, j < l.length → fldK l j = 0 from fun j hj => HZ.out j (by rw [← HN.out]; exact hj))
      have HF0 := Go.Lib.hid (show fldP l = 0 from chk_none (fldK l) l.length HFA.out)
      clear HZ hlt
      go_wp2_with fail
      go_loopw [5, 6] (fun s5 _ w2 => ∃ j : Nat, j ≤ k ∧ s5 = .int .i64 (j : Nat) ∧ Hid (∀ i (h : i < l.length), i < j → lnkB l l[i] = false) ∧ Hid (Below w.heap.size w w2)) (fun s5 _ _ => k - (intOf s5).toNat)
      case atStart => exact ⟨0, Nat.zero_le _, rfl, Go.Lib.hid (fun j _ h => absurd h (Nat.not_lt_zero _)), HB⟩
      case round =>
        clear HB hs
        obtain ⟨j, hj, rfl, HZ, HB⟩ := hrel
        have hs := HB.out.size
        by_cases hlt : j < k
        · have hkl : j < l.length := by rw [HN.out]; exact hlt
          obtain ⟨g, o, rfl, hg, hcl⟩ := HA.out.pos (by omega)
          obtain ⟨B, cc, z0, z1, z2, z3, z4, z5, zc1, zc2, zp⟩ := hcl j hkl
          replace z0 := (HB.out.cell (p := ⟨g, o + j * 6, none⟩) hg).trans z0
          replace z1 := (HB.out.cell (p := ⟨g, o + j * 6 + 1, none⟩) hg).trans z1
          replace z2 := (HB.out.cell (p := ⟨g, o + j * 6 + 2, none⟩) hg).trans z2
          replace z3 := (HB.out.cell (p := ⟨g, o + j * 6 + 3, none⟩) hg).trans z3
          replace z4 := (HB.out.cell (p := ⟨g, o + j * 6 + 4, none⟩) hg).trans z4
          replace z5 := (HB.out.cell (p := ⟨g, o + j * 6 + 5, none⟩) hg).trans z5
          have f0 : (0 : Int) ≤ (j : Int) := by omega
          have f1 : (j : Int) < (k : Int) := by omega
          have HY := Go.Lib.hid (fun (h : lnkB l l[j] = true) => show chkA l = 25 by have := lnk_yes hkl h; rw [chkA_lnk HL.out HF0.out (by rw [this]; decide), this])
          have HX := Go.Lib.hid (fun (h : lnkB l l[j] = false) => show ∀ i (h : i < l.length), i < j + 1 → lnkB l l[i] = false from fun i hi hij => if e : i = j then by subst e; exact h else HZ.out i hi (by omega))
          have hkd := fld_kind hkl (HFA.out j hkl)
          clear hcl zc1 zc2 zp
          generalize l[j] = x at z0 z1 z2 z3 z4 z5 HY HX hkd
          obtain ⟨x1, x2, x3, x4, x5, ps⟩ := x
          dsimp only at z0 z1 z2 z3 z4 z5 HY HX hkd
          unfold lnkB at HY HX
          dsimp only at HY HX
          have KB := Go.Lib.hid (HB.out.alloc hs (.cells #[.int .i64 x1, .int .i64 x2, .string x3, .int .i64 x4, .int .i64 x5, .slice B ps.length cc] 28))
          have OX := Go.Lib.hid (ObjAt.new wr #[.int .i64 x1, .int .i64 x2, .string x3, .int .i64 x4, .int .i64 x5, .slice B ps.length cc] 28)
          by_cases h4 : x4 = 0
          · have e4 : (x4 != 0) = false := by simpa using h4
            clear h4
            by_cases h5 : x5 = 0
            · have e5 : (x5 != 0) = false := by simpa using h5
              have HE := Go.Lib.hid (HX.out (by rw [e4, e5]; rfl))
              clear h5
              go_wp2_with fail
              go_roundw
              case rel => exact ⟨j + 1, by omega, by go_num, HE, KB⟩
              case measure => simp [intOf]; omega
            · have e5 : (x5 != 0) = true := by simpa using h5
              clear h5
              rcases hkd with h2 | h2
              · have e2 : (x2 != 1) = false := by rw [h2]; rfl
                have e2' : (x2 == 2) = false := by rw [h2]; rfl
                clear h2
                have ci := CI.out 1 x5 (wr.alloc (.cells #[.int .i64 x1, .int .i64 x2, .string x3, .int .i64 x4, .int .i64 x5, .slice B ps.length cc] 28)) KB.out
                have o4 := OX.out.s4
                go_wp2_with fail
                (with_reducible refine ci.mono ?_)
                rintro e w4 ⟨rfl, k4⟩
                have K4 := Go.Lib.hid (KB.out.trans (k4.mono KB.out.size))
                clear ci k4
                cases hB2 : hasB l 1 x5 with
                | false =>
                  have HE := Go.Lib.hid (HY.out (by rw [e4, e5, e2', hB2]; rfl))
                  clear hB2
                  go_wp2
                  go_ret
                  exact ⟨ret_int' HE.out.symm, K4.out⟩
                | true =>
                  have HE := Go.Lib.hid (HX.out (by rw [e4, e5, e2', hB2]; rfl))
                  clear hB2
                  go_wp2_with fail
                  go_roundw
                  case rel => exact ⟨j + 1, by omega, by go_num, HE, K4⟩
                  case measure => simp [intOf]; omega
              · have e2 : (x2 != 1) = true := by rw [h2]; rfl
                have e2' : (x2 == 2) = true := by rw [h2]; rfl
                clear h2
                have HE := Go.Lib.hid (HY.out (by rw [e4, e5, e2']; rfl))
                go_wp2
                go_ret
                exact ⟨ret_int' HE.out.symm, KB.out⟩
          · have e4 : (x4 != 0) = true := by simpa using h4
            clear h4
            have ci := CI.out x2 x4 (wr.alloc (.cells #[.int .i64 x1, .int .i64 x2, .string x3, .int .i64 x4, .int .i64 x5, .slice B ps.length cc] 28)) KB.out
            go_wp2_with fail
            (with_reducible refine ci.mono ?_)
            rintro e w3 ⟨rfl, k3⟩
            have K3 := Go.Lib.hid (KB.out.trans (k3.mono KB.out.size))
            have O3 := Go.Lib.hid (OX.out.below k3)
            have o1 := O3.out.s1
            have o4 := O3.out.s4
            clear ci k3
            cases hB1 : hasB l x2 x4 with
            | false =>
              have HE := Go.Lib.hid (HY.out (by rw [e4, hB1]; rfl))
              clear hB1
              go_wp2
              go_ret
              exact ⟨ret_int' HE.out.symm, K3.out⟩
            | true =>
              have HB1 := Go.Lib.hid hB1
              clear hB1
              by_cases h5 : x5 = 0
              · have e5 : (x5 != 0) = false := by simpa using h5
                have HE := Go.Lib.hid (HX.out (by rw [e4, HB1.out, e5]; rfl))
                clear h5
                go_wp2_with fail
                go_roundw
                case rel => exact ⟨j + 1, by omega, by go_num, HE, K3⟩
                case measure => simp [intOf]; omega
              · have e5 : (x5 != 0) = true := by simpa using h5
                clear h5
                rcases hkd with h2 | h2
                · have e2 : (x2 != 1) = false := by rw [h2]; rfl
                  have e2' : (x2 == 2) = false := by rw [h2]; rfl
                  clear h2
                  have ci := CI.out 1 x5 w3 K3.out
                  have o4 := O3.out.s4
                  go_wp2_with fail
                  (with_reducible refine ci.mono ?_)
                  rintro e w4 ⟨rfl, k4⟩
                  have K4 := Go.Lib.hid (K3.out.trans (k4.mono K3.out.size))
                  clear ci k4
                  cases hB2 : hasB l 1 x5 with
                  | false =>
                    have HE := Go.Lib.hid (HY.out (by rw [e4, HB1.out, e5, e2', hB2]; rfl))
                    clear hB2
                    go_wp2
                    go_ret
                    exact ⟨ret_int' HE.out.symm, K4.out⟩
                  | true =>
                    have HE := Go.Lib.hid (HX.out (by rw [e4, HB1.out, e5, e2', hB2]; rfl))
                    clear hB2
                    go_wp2_with fail
                    go_roundw
                    case rel => exact ⟨j + 1, by omega, by go_num, HE, K4⟩
                    case measure => simp [intOf]; omega
                · have e2 : (x2 != 1) = true := by rw [h2]; rfl
                  have e2' : (x2 == 2) = true := by rw [h2]; rfl
                  clear h2
                  have HE := Go.Lib.hid (HY.out (by rw [e4, HB1.out, e5, e2']; rfl))
                  go_wp2
                  go_ret
                  exact ⟨ret_int' HE.out.symm, K3.out⟩
        · have hjk : j = k := by omega
          subst hjk
          have HLK := Go.Lib.hid (show ∀ i (h : i < l.length), lnkB l l[i] = false from fun i h => HZ.out i h (by rw [← HN.out]; exact h))
          have HL0 := Go.Lib.hid (show lnkP l = 0 from lnk_no HLK.out)
          have HCE := Go.Lib.hid (chkA_end HL.out HF0.out HL0.out)
          have HP0 := Go.Lib.hid (plc_zero HFA.out)
          clear HZ hlt
          go_wp2_with fail
          go_loopw [7, 8, 9] (fun s7 _ _ w2 => ∃ i : Nat, i ≤ j ∧ s7 = .int .i64 (i : Nat) ∧ Hid (∀ q, q < i → Ends l (some q)) ∧ Hid (Below w.heap.size w w2)) (fun s7 _ _ _ => j - (intOf s7).toNat)
          case atStart => exact ⟨0, Nat.zero_le _, rfl, Go.Lib.hid (fun q h => absurd h (Nat.not_lt_zero _)), HB⟩
          case round =>
            clear HB hs
            obtain ⟨i, hi, rfl, HZ, HB⟩ := hrel
            have hs := HB.out.size
            by_cases hlt : i < j
            · have hkl : i < l.length := by rw [HN.out]; exact hlt
              obtain ⟨g, o, rfl, hg, hcl⟩ := HA.out.pos (by omega)
              have HCL := Go.Lib.hid hcl
              obtain ⟨B, cc, z0, z1, z2, z3, z4, z5, zc1, zc2, zp⟩ := hcl i hkl
              replace z0 := (HB.out.cell (p := ⟨g, o + i * 6, none⟩) hg).trans z0
              replace z1 := (HB.out.cell (p := ⟨g, o + i * 6 + 1, none⟩) hg).trans z1
              replace z2 := (HB.out.cell (p := ⟨g, o + i * 6 + 2, none⟩) hg).trans z2
              replace z3 := (HB.out.cell (p := ⟨g, o + i * 6 + 3, none⟩) hg).trans z3
              replace z4 := (HB.out.cell (p := ⟨g, o + i * 6 + 4, none⟩) hg).trans z4
              replace z5 := (HB.out.cell (p := ⟨g, o + i * 6 + 5, none⟩) hg).trans z5
              have f0 : (0 : Int) ≤ (i : Int) := by omega
              have f1 : (i : Int) < (j : Int) := by omega
              have OX := Go.Lib.hid (show ∃ k', ∃ hk' : k' < l.length, nxt l (some i) [] = some k' ∧ ∃ B9 c9, ObjAt (wr.alloc (.cells #[.int .i64 l[i].id, .int .i64 l[i].kind, .string l[i].name, .int .i64 l[i].base, .int .i64 l[i].next, .slice B l[i].props.length cc] 28)) wr.heap.size #[.int .i64 l[k'].id, .int .i64 l[k'].kind, .string l[k'].name, .int .i64 l[k'].base, .int .i64 l[k'].next, .slice B9 l[k'].props.length c9] 28 from ⟨i, hkl, rfl, B, cc, ObjAt.new wr _ 28⟩)
              have KB := Go.Lib.hid (HB.out.alloc hs (.cells #[.int .i64 l[i].id, .int .i64 l[i].kind, .string l[i].name, .int .i64 l[i].base, .int .i64 l[i].next, .slice B l[i].props.length cc] 28))
              clear hcl zc1 zc2 zp
              generalize l[i].id = x1 at z0 OX KB
              generalize l[i].kind = x2 at z1 OX KB
              generalize l[i].name = x3 at z2 OX KB
              generalize l[i].base = x4 at z3 OX KB
              generalize l[i].next = x5 at z4 OX KB
              generalize l[i].props.length = x6 at z5 OX KB
              go_wp2_with fail
              go_loopw [9] (fun s9 w5 => ∃ pre : List Nat, pre.length ≤ j ∧ s9 = .int .i64 (pre.length : Nat) ∧ Hid (ChP l (some i) pre) ∧ Hid (∃ k', ∃ hk' : k' < l.length, nxt l (some i) pre = some k' ∧ ∃ B9 c9, ObjAt w5 wr.heap.size #[.int .i64 l[k'].id, .int .i64 l[k'].kind, .string l[k'].name, .int .i64 l[k'].base, .int .i64 l[k'].next, .slice B9 l[k'].props.length c9] 28) ∧ Hid (Below w.heap.size w w5)) (fun s9 _ => j - (intOf s9).toNat)
              case atStart => exact ⟨[], Nat.zero_le _, rfl, Go.Lib.hid (ChP.nil _ _), OX, KB⟩
              case round =>
                obtain ⟨pre, hpre, rfl, HCH, HO, HBK⟩ := hrel
                obtain ⟨k', hk', hnx, B1, cc1, ho⟩ := HO.out
                have p3 := ho.s3
                have HO1 := Go.Lib.hid ho
                have HNX := Go.Lib.hid (HCH.out.snoc hnx)
                have hst : nxt l (some i) (pre ++ [k']) = plc l l[k'].base := by
                  rw [nxt_snoc]; unfold stp; rw [List.getD_eq_getElem?_getD, List.getElem?_eq_getElem hk']; rfl
                have HST := Go.Lib.hid hst
                have HLB := Go.Lib.hid (HLK.out k' hk')
                have hplt : ∀ x ∈ pre ++ [k'], x < l.length := by
                  intro x hx
                  rcases List.mem_append.1 hx with h | h
                  · obtain ⟨q, t, e⟩ := List.append_of_mem h
                    have := HCH.out q x t e
                    exact ch_lt hkl HCH.out x h
                  · rw [List.mem_singleton] at h; subst h; exact hk'
                have HLT := Go.Lib.hid hplt
                have s5 := HBK.out.size
                unfold lnkB at HLB
                clear ho hst hplt HO
                generalize l[k'].base = b at p3 HST HLB
                by_cases hb : b = 0
                · have e3 : (b != 0) = false := by simpa using hb
                  have HEN := Go.Lib.hid (show ∀ q, q < i + 1 → Ends l (some q) from fun q hq => if e : q = i then by rw [e]; exact (ends_back (pre ++ [k']) HNX.out (by rw [HST.out, hb, HP0.out]; exact Ends.none l)).1 else HZ.out q (by omega))
                  clear hb hnx
                  go_wp2_with fail
                  go_roundw
                  case rel => exact ⟨i + 1, by omega, by go_num, HEN, HBK⟩
                  case measure => simp [intOf]; omega
                · have e3 : (b != 0) = true := by simpa using hb
                  by_cases hlen : pre.length = j
                  · have hnd : ¬ Ends l (some i) := fun he => by
                      have h1 := nodup_le l.length _ (ends_nodup he _ HNX.out) HLT.out
                      rw [List.length_append, List.length_singleton, HN.out] at h1
                      omega
                    have HE := Go.Lib.hid (show chkA l = 16 by rw [HCE.out, endB_no hkl hnd]; rfl)
                    have e4 : ((pre.length : Int) == (j : Int)) = true := by rw [beq_iff_eq]; omega
                    clear hb hnx hlen hnd
                    go_wp2
                    go_ret
                    exact ⟨ret_int' HE.out.symm, HBK.out⟩
                  · have e4 : ((pre.length : Int) == (j : Int)) = false := by rw [beq_eq_false_iff_ne]; omega
                    obtain ⟨k2, hp2⟩ : ∃ k2, plc l b = some k2 := by
                      cases hp : plc l b with
                      | some k2 => exact ⟨k2, rfl⟩
                      | none =>
                        have h := HLB.out
                        rw [hasB_none hp, e3] at h
                        simp at h
                    obtain ⟨hk2, hid2⟩ := plc_lt hp2
                    clear hid2
                    have cF := CF.out b _ HBK.out
                    rw [fnd_some hp2] at cF
                    have HP2 := Go.Lib.hid (HST.out.trans hp2)
                    have SA := Go.Lib.hid (HCL.out k2 hk2)
                    have h0 : (0 : Int) ≤ (k2 : Int) := by omega
                    have h1 : (k2 : Int) < (j : Int) := by have := HN.out; omega
                    clear hb hnx hp2
                    go_wp2_with fail
                    (with_reducible refine cF.mono ?_)
                    rintro e w6 ⟨rfl, k6⟩
                    have K6 := Go.Lib.hid (HBK.out.trans (k6.mono s5))
                    have O6 := Go.Lib.hid (HO1.out.below k6)
                    clear cF k6 p3
                    obtain ⟨B2, cc2, y0, y1, y2, y3, y4, y5, yy⟩ := SA.out
                    clear yy
                    replace y0 := (K6.out.cell (p := ⟨g, o + k2 * 6, none⟩) hg).trans y0
                    replace y1 := (K6.out.cell (p := ⟨g, o + k2 * 6 + 1, none⟩) hg).trans y1
                    replace y2 := (K6.out.cell (p := ⟨g, o + k2 * 6 + 2, none⟩) hg).trans y2
                    replace y3 := (K6.out.cell (p := ⟨g, o + k2 * 6 + 3, none⟩) hg).trans y3
                    replace y4 := (K6.out.cell (p := ⟨g, o + k2 * 6 + 4, none⟩) hg).trans y4
                    replace y5 := (K6.out.cell (p := ⟨g, o + k2 * 6 + 5, none⟩) hg).trans y5
                    have r0 := O6.out.s0
                    have r1 := O6.out.s1
                    have r2 := O6.out.s2
                    have r3 := O6.out.s3
                    have r4 := O6.out.s4
                    have r5 := O6.out.s5
                    have t0 := O6.out.frozen 0
                    have t1 := O6.out.frozen 1
                    have t2 := O6.out.frozen 2
                    have t3 := O6.out.frozen 3
                    have t4 := O6.out.frozen 4
                    have t5 := O6.out.frozen 5
                    go_wp2_with fail
                    go_roundw
                    case rel =>
                      refine ⟨pre ++ [k'], by rw [List.length_append, List.length_singleton]; omega, by rw [List.length_append, List.length_singleton]; go_num, HNX, Go.Lib.hid ⟨k2, hk2, HP2.out, B2, cc2, ?_⟩, Go.Lib.hid ?_⟩
                      · exact (((((O6.out.set 0 _).set 1 _).set 2 _).set 3 _).set 4 _).set 5 _
                      · exact st6_below hs K6.out _ _ _ _ _ _
                    case measure => simp [intOf]; omega
            · have HEN := Go.Lib.hid (show endB l = true from endB_yes fun q hq => HZ.out q (by have := HN.out; omega))
              have HE := Go.Lib.hid (show chkA l = 0 by rw [HCE.out, HEN.out]; rfl)
              obtain rfl : i = j := by omega
              go_wp2
              go_ret
              exact ⟨ret_int' HE.out.symm, HB.out⟩
end Go.Proofs.Ytbkpokipibgdfaa
