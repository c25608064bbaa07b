/- Layer 22: Check (16) and the reference's check (17). -/
import Derived.Test.YtmpklkhjipclmaaV2
import Derived.Deep.QuietTactic
import Derived.BigQuiet
namespace Go.Proofs.Ytmpklkhjipclmaa
open Go.RowKit Go.Lib
set_option linter.unusedVariables false

theorem chkAt_bad {v : ByteArray → Bool} {l : List Rv} {j : Nat} (hj : j < l.length) (h : chkR v l[j] ≠ 0) : chkAt v l j = chkR v l[j] := by
  unfold chkAt
  rw [List.getElem?_eq_getElem hj]
  dsimp only
  rw [if_pos h]
theorem chkAt_head {v : ByteArray → Bool} {l : List Rv} (hj : 0 < l.length) (h : chkR v l[0] = 0) : chkAt v l 0 = 0 := by
  unfold chkAt
  rw [List.getElem?_eq_getElem hj]
  dsimp only
  rw [if_neg (by simp [h]), if_pos rfl]
theorem chkAt_next {v : ByteArray → Bool} {l : List Rv} {j : Nat} (hj : j + 1 < l.length) (h : chkR v l[j + 1] = 0) : chkAt v l (j + 1) = if l[j + 1].id = (l[j]'(by omega)).id then 7 else if l[j + 1].id < (l[j]'(by omega)).id then 6 else 0 := by
  unfold chkAt
  rw [List.getElem?_eq_getElem hj]
  dsimp only
  rw [if_neg (by simp [h]), if_neg (by omega)]
  simp only [Nat.add_sub_cancel]
  rw [List.getElem?_eq_getElem (show j < l.length by omega)]
def ChOk (l : List Rv) (i : Nat) : Prop := ∀ j, j < i → chkAt vld l j = 0
theorem ChOk.succ {l : List Rv} {i : Nat} (h : ChOk l i) (h1 : chkAt vld l i = 0) : ChOk l (i + 1) := fun j hj => if e : j = i then by rw [e]; exact h1 else h j (by omega)
def SzOk (l : List Rv) : Prop := ∀ x ∈ l, x.author.size ≤ 1000000

attribute [local irreducible] wpQuiet in
set_option maxRecDepth 100000 in
set_option maxHeartbeats 8000000 in
theorem check_any (l : List Rv) (n : Nat) (hn : l.length = n) (h1000 : n ≤ 1000) (hz : SzOk l) (A : Option Addr) (c : Nat) (w : World) (hA : RsAt w A l) :
    Calls Try.prog 16 #[.slice A n c] w fun e w' => e = .returned (.int .i64 (chkL vld l)) ∧ Below w.heap.size w w' := by
  have HN := Lib.hid hn
  have HA := Lib.hid hA
  have CB := Lib.hid (fun x w' (hx : x.author.size ≤ 1000000) => checkrev_any x hx w')
  have HZ := Lib.hid hz
  have hb0 := Lib.hid (Below.refl w.heap.size w)
  clear hn hA hz
  by_cases hlong : 256 < n
  · have q0 : (256 : Int) < (n : Int) := by omega
    have HR := Lib.hid (chkL_long (v := vld) (l := l) (by rw [HN.out]; exact hlong))
    go_enter Try.func16, Try.ntmps16
    go_wp2
    go_ret
    exact ⟨by rw [HR.out]; rfl, hb0.out⟩
  have q0 : ¬ (256 : Int) < (n : Int) := by omega
  go_enter Try.func16, Try.ntmps16
  go_wp2_with fail
  go_loopw [11] (fun s5 wr => ∃ k : Nat, k ≤ n ∧ s5 = .int .i64 (k : Nat) ∧ Hid (ChOk l k) ∧ Hid (Below w.heap.size w wr)) (fun s5 _ => n - (intOf s5).toNat)
  case atStart => exact ⟨0, Nat.zero_le _, rfl, Lib.hid (fun j h => absurd h (Nat.not_lt_zero _)), hb0⟩
  case round =>
    obtain ⟨k, hk, rfl, HM, HB⟩ := hrel
    clear hb0
    by_cases hlt : k < n
    · have hkl : k < l.length := by rw [HN.out]; exact hlt
      obtain ⟨g, o, rfl, hg, hcl⟩ := HA.out.pos (by omega)
      obtain ⟨c0, c1, c2⟩ := hcl k hkl
      have z0 := (HB.out.cell (p := ⟨g, o + k * 3, none⟩) hg).trans c0
      have z1 := (HB.out.cell (p := ⟨g, o + k * 3 + 1, none⟩) hg).trans c1
      have z2 := (HB.out.cell (p := ⟨g, o + k * 3 + 2, none⟩) hg).trans c2
      have hgr : g < wr.heap.size := Nat.lt_of_lt_of_le hg HB.out.size
      have s0 := HB.out.size
      have hF := Lib.hid (fun (h : chkAt vld l k ≠ 0) => chkL_first (v := vld) (l := l) (i := k) (by rw [HN.out]; omega) hkl HM.out h)
      have f1 : (k : Int) < (n : Int) := by omega
      have HAX := Lib.hid (fun (h : chkR vld l[k] ≠ 0) => chkAt_bad (v := vld) hkl h)
      have HAH := Lib.hid (fun (e : k = 0) (h : chkR vld (l[0]'(by omega)) = 0) => chkAt_head (v := vld) (l := l) (by omega) h)
      have HAN := Lib.hid (fun j (e : k = j + 1) (h : chkR vld (l[j + 1]'(by omega)) = 0) => chkAt_next (v := vld) (l := l) (j := j) (by omega) h)
      have HCL := Lib.hid hcl
      have cc := CB.out l[k] (wr.alloc (.cells #[.int .i64 l[k].id, .string l[k].author, .int .i64 l[k].time] 23)) (HZ.out _ (List.getElem_mem hkl))
      have HX := Lib.hid (show l[k] = l[k] from rfl)
      generalize hx : l[k] = x at z0 z1 z2 cc
      have HXE := Lib.hid hx
      clear hx hcl HX c0 c1 c2
      obtain ⟨a, s, t⟩ := x
      dsimp only at z0 z1 z2 cc
      have U := Lib.hid (ObjAt.new wr #[.int .i64 a, .string s, .int .i64 t] 23)
      have B1 := Lib.hid (HB.out.alloc s0 (.cells #[.int .i64 a, .string s, .int .i64 t] 23))
      have s1 := B1.out.size
      by_cases hv : chkR vld ⟨a, s, t⟩ = 0
      · rw [hv] at cc
        have HV := Lib.hid hv
        clear hv
        go_wp2_with fail
        (with_reducible refine cc.mono ?_)
        rintro e w5 ⟨rfl, k5⟩
        have B5 := Lib.hid (B1.out.trans (k5.mono s1))
        have U5 := U.out.below k5
        have u0 := U5.b0
        by_cases hk0 : k = 0
        · subst hk0
          have HS := Lib.hid (HM.out.succ (HAH.out rfl (by rw [HXE.out]; exact HV.out)))
          clear HAX HAN HAH hF cc k5 z0 z1 z2
          go_wp2
          go_quiet (fail)
          go_wp2
          go_quiet (fail)
          go_wp2
          go_roundw
          case rel => exact ⟨1, by omega, by first | rfl | go_num, HS, Lib.hid (by first | exact bdrew B5.out _ | exact bdrew (bdrew B5.out _) _)⟩
          case measure => simp [intOf]; omega
        · obtain ⟨j, rfl⟩ : ∃ j, k = j + 1 := ⟨k - 1, by omega⟩
          have e9 := HAN.out j rfl (by rw [HXE.out]; exact HV.out)
          have hjl : j < l.length := by omega
          have c3 := (HCL.out j hjl).1
          have z3 := (B5.out.cell (p := ⟨g, o + j * 3, none⟩) hg).trans c3
          have z4 := (B5.out.cell (p := ⟨g, o + (j + 1) * 3, none⟩) hg).trans (HCL.out (j + 1) hkl).1
          rw [HXE.out] at e9 z4
          dsimp only at e9 z4
          generalize (l[j]'(by omega)).id = b at e9 z3
          have g1 : (0 : Int) < ((j + 1 : Nat) : Int) := by omega
          have g1' : (0 : Int) < (j : Int) + 1 := by omega
          have g2 : (0 : Int) ≤ (j : Int) := by omega
          have g3 : (j : Int) < (n : Int) := by omega
          have g4 : IntKind.i64.wrap (((j + 1 : Nat) : Int) - 1) = (j : Int) := by rw [IntKind.wrap_i64]; omega
          have g5 : IntKind.i64.wrap ((j : Int) + 1 - 1) = (j : Int) := by rw [IntKind.wrap_i64]; omega
          have g6 : IntKind.i64.wrap (j : Int) = (j : Int) := by rw [IntKind.wrap_i64]; omega
          clear HAX HAN HAH cc k5 z0 z1 z2 c3
          by_cases ha : a = b
          · rw [if_pos ha] at e9
            have HRR := Lib.hid ((hF.out (by rw [e9]; decide)).trans e9)
            have hab : (a == b) = true := by rw [ha]; exact beq_self_eq_true b
            clear e9 hF ha
            go_wp2
            go_quiet (fail)
            go_wp2
            go_ret
            exact ⟨by rw [HRR.out]; rfl, by first | exact bdrew B5.out _ | exact bdrew (bdrew B5.out _) _⟩
          · rw [if_neg ha] at e9
            have hab : (a == b) = false := neB ha
            clear ha
            by_cases hl : a < b
            · rw [if_pos hl] at e9
              have HRR := Lib.hid ((hF.out (by rw [e9]; decide)).trans e9)
              clear e9 hF
              go_wp2
              go_quiet (fail)
              go_wp2
              go_quiet (fail)
              go_wp2
              go_ret
              exact ⟨by rw [HRR.out]; rfl, by first | exact bdrew B5.out _ | exact bdrew (bdrew B5.out _) _⟩
            · rw [if_neg hl] at e9
              have HS := Lib.hid (HM.out.succ e9)
              clear e9 hF
              go_wp2
              go_quiet (fail)
              go_wp2
              go_quiet (fail)
              go_wp2
              go_roundw
              case rel => exact ⟨j + 1 + 1, by omega, by first | rfl | go_num, HS, Lib.hid (by first | exact bdrew B5.out _ | exact bdrew (bdrew B5.out _) _)⟩
              case measure => simp [intOf]; omega
      · have hv' : (chkR vld ⟨a, s, t⟩ == 0) = false := neB hv
        have HRR := Lib.hid (hF.out (by rw [HAX.out (by rw [HXE.out]; exact hv), HXE.out]; exact hv))
        have HR2 := Lib.hid ((HRR.out.trans (HAX.out (by rw [HXE.out]; exact hv))).trans (by rw [HXE.out]))
        generalize chkR vld ⟨a, s, t⟩ = r at cc hv' HR2
        clear HAX HAN HAH hF HRR hv
        go_wp2_with fail
        (with_reducible refine cc.mono ?_)
        rintro e w5 ⟨rfl, k5⟩
        have B5 := Lib.hid (B1.out.trans (k5.mono s1))
        clear cc k5 z0 z1 z2
        go_wp2
        go_ret
        exact ⟨by rw [HR2.out]; rfl, B5.out⟩
    · obtain rfl : k = n := by omega
      have HR := Lib.hid (chkL_ok (v := vld) (l := l) (by rw [HN.out]; omega) (by rw [HN.out]; exact HM.out))
      go_wp2
      go_ret
      exact ⟨by rw [HR.out]; rfl, HB.out⟩

attribute [local irreducible] wpQuiet in
set_option maxRecDepth 100000 in
set_option maxHeartbeats 8000000 in
theorem rcheck_any (l : List Rv) (n : Nat) (hn : l.length = n) (h1000 : n ≤ 1000) (hz : SzOk l) (A : Option Addr) (c : Nat) (w : World) (hA : RsAt w A l) :
    Calls Try.prog 17 #[.slice A n c] w fun e w' => e = .returned (.int .i64 (chkL vld l)) ∧ Below w.heap.size w w' := by
  have HN := Lib.hid hn
  have HA := Lib.hid hA
  have CB := Lib.hid (fun x w' (hx : x.author.size ≤ 1000000) => rcheckrev_any x hx w')
  have HZ := Lib.hid hz
  have hb0 := Lib.hid (Below.refl w.heap.size w)
  clear hn hA hz
  by_cases hlong : 256 < n
  · have q0 : (256 : Int) < (n : Int) := by omega
    have HR := Lib.hid (chkL_long (v := vld) (l := l) (by rw [HN.out]; exact hlong))
    go_enter Try.func17, Try.ntmps17
    go_wp2
    go_ret
    exact ⟨by rw [HR.out]; rfl, hb0.out⟩
  have q0 : ¬ (256 : Int) < (n : Int) := by omega
  go_enter Try.func17, Try.ntmps17
  go_wp2_with fail
  go_loopw [3] (fun s5 wr => ∃ k : Nat, k ≤ n ∧ s5 = .int .i64 (k : Nat) ∧ Hid (ChOk l k) ∧ Hid (Below w.heap.size w wr)) (fun s5 _ => n - (intOf s5).toNat)
  case atStart => exact ⟨0, Nat.zero_le _, rfl, Lib.hid (fun j h => absurd h (Nat.not_lt_zero _)), hb0⟩
  case round =>
    obtain ⟨k, hk, rfl, HM, HB⟩ := hrel
    clear hb0
    by_cases hlt : k < n
    · have hkl : k < l.length := by rw [HN.out]; exact hlt
      obtain ⟨g, o, rfl, hg, hcl⟩ := HA.out.pos (by omega)
      obtain ⟨c0, c1, c2⟩ := hcl k hkl
      have z0 := (HB.out.cell (p := ⟨g, o + k * 3, none⟩) hg).trans c0
      have z1 := (HB.out.cell (p := ⟨g, o + k * 3 + 1, none⟩) hg).trans c1
      have z2 := (HB.out.cell (p := ⟨g, o + k * 3 + 2, none⟩) hg).trans c2
      have hgr : g < wr.heap.size := Nat.lt_of_lt_of_le hg HB.out.size
      have s0 := HB.out.size
      have hF := Lib.hid (fun (h : chkAt vld l k ≠ 0) => chkL_first (v := vld) (l := l) (i := k) (by rw [HN.out]; omega) hkl HM.out h)
      have f1 : (k : Int) < (n : Int) := by omega
      have HAX := Lib.hid (fun (h : chkR vld l[k] ≠ 0) => chkAt_bad (v := vld) hkl h)
      have HAH := Lib.hid (fun (e : k = 0) (h : chkR vld (l[0]'(by omega)) = 0) => chkAt_head (v := vld) (l := l) (by omega) h)
      have HAN := Lib.hid (fun j (e : k = j + 1) (h : chkR vld (l[j + 1]'(by omega)) = 0) => chkAt_next (v := vld) (l := l) (j := j) (by omega) h)
      have HCL := Lib.hid hcl
      have cc := CB.out l[k] wr (HZ.out _ (List.getElem_mem hkl))
      have HX := Lib.hid (show l[k] = l[k] from rfl)
      generalize hx : l[k] = x at z0 z1 z2 cc
      have HXE := Lib.hid hx
      clear hx hcl HX c0 c1 c2
      obtain ⟨a, s, t⟩ := x
      dsimp only at z0 z1 z2 cc
      have B1 := HB
      have s1 := B1.out.size
      by_cases hv : chkR vld ⟨a, s, t⟩ = 0
      · rw [hv] at cc
        have HV := Lib.hid hv
        clear hv
        go_wp2_with fail
        (with_reducible refine cc.mono ?_)
        rintro e w5 ⟨rfl, k5⟩
        have B5 := Lib.hid (B1.out.trans (k5.mono s1))
        by_cases hk0 : k = 0
        · subst hk0
          have HS := Lib.hid (HM.out.succ (HAH.out rfl (by rw [HXE.out]; exact HV.out)))
          clear HAX HAN HAH hF cc k5 z0 z1 z2
          go_wp2
          go_quiet (fail)
          go_wp2
          go_quiet (fail)
          go_wp2
          go_roundw
          case rel => exact ⟨1, by omega, by first | rfl | go_num, HS, Lib.hid (by first | exact bdrew B5.out _ | exact bdrew (bdrew B5.out _) _)⟩
          case measure => simp [intOf]; omega
        · obtain ⟨j, rfl⟩ : ∃ j, k = j + 1 := ⟨k - 1, by omega⟩
          have e9 := HAN.out j rfl (by rw [HXE.out]; exact HV.out)
          have hjl : j < l.length := by omega
          have c3 := (HCL.out j hjl).1
          have z3 := (B5.out.cell (p := ⟨g, o + j * 3, none⟩) hg).trans c3
          have z4 := (B5.out.cell (p := ⟨g, o + (j + 1) * 3, none⟩) hg).trans (HCL.out (j + 1) hkl).1
          rw [HXE.out] at e9 z4
          dsimp only at e9 z4
          generalize (l[j]'(by omega)).id = b at e9 z3
          have g1 : (0 : Int) < ((j + 1 : Nat) : Int) := by omega
          have g1' : (0 : Int) < (j : Int) + 1 := by omega
          have g2 : (0 : Int) ≤ (j : Int) := by omega
          have g3 : (j : Int) < (n : Int) := by omega
          have g4 : IntKind.i64.wrap (((j + 1 : Nat) : Int) - 1) = (j : Int) := by rw [IntKind.wrap_i64]; omega
          have g5 : IntKind.i64.wrap ((j : Int) + 1 - 1) = (j : Int) := by rw [IntKind.wrap_i64]; omega
          have g6 : IntKind.i64.wrap (j : Int) = (j : Int) := by rw [IntKind.wrap_i64]; omega
          clear HAX HAN HAH cc k5 z0 z1 z2 c3
          by_cases ha : a = b
          · rw [if_pos ha] at e9
            have HRR := Lib.hid ((hF.out (by rw [e9]; decide)).trans e9)
            have hab : (a == b) = true := by rw [ha]; exact beq_self_eq_true b
            clear e9 hF ha
            go_wp2
            go_quiet (fail)
            go_wp2
            go_ret
            exact ⟨by rw [HRR.out]; rfl, by first | exact bdrew B5.out _ | exact bdrew (bdrew B5.out _) _⟩
          · rw [if_neg ha] at e9
            have hab : (a == b) = false := neB ha
            clear ha
            by_cases hl : a < b
            · rw [if_pos hl] at e9
              have HRR := Lib.hid ((hF.out (by rw [e9]; decide)).trans e9)
              clear e9 hF
              go_wp2
              go_quiet (fail)
              go_wp2
              go_quiet (fail)
              go_wp2
              go_ret
              exact ⟨by rw [HRR.out]; rfl, by first | exact bdrew B5.out _ | exact bdrew (bdrew B5.out _) _⟩
            · rw [if_neg hl] at e9
              have HS := Lib.hid (HM.out.succ e9)
              clear e9 hF
              go_wp2
              go_quiet (fail)
              go_wp2
              go_quiet (fail)
              go_wp2
              go_roundw
              case rel => exact ⟨j + 1 + 1, by omega, by first | rfl | go_num, HS, Lib.hid (by first | exact bdrew B5.out _ | exact bdrew (bdrew B5.out _) _)⟩
              case measure => simp [intOf]; omega
      · have hv' : (chkR vld ⟨a, s, t⟩ == 0) = false := neB hv
        have HRR := Lib.hid (hF.out (by rw [HAX.out (by rw [HXE.out]; exact hv), HXE.out]; exact hv))
        have HR2 := Lib.hid ((HRR.out.trans (HAX.out (by rw [HXE.out]; exact hv))).trans (by rw [HXE.out]))
        generalize chkR vld ⟨a, s, t⟩ = r at cc hv' HR2
        clear HAX HAN HAH hF HRR hv
        go_wp2_with fail
        (with_reducible refine cc.mono ?_)
        rintro e w5 ⟨rfl, k5⟩
        have B5 := Lib.hid (B1.out.trans (k5.mono s1))
        clear cc k5 z0 z1 z2
        go_wp2
        go_ret
        exact ⟨by rw [HR2.out]; rfl, B5.out⟩
    · obtain rfl : k = n := by omega
      have HR := Lib.hid (chkL_ok (v := vld) (l := l) (by rw [HN.out]; omega) (by rw [HN.out]; exact HM.out))
      go_wp2
      go_ret
      exact ⟨by rw [HR.out]; rfl, HB.out⟩
end Go.Proofs.Ytmpklkhjipclmaa
