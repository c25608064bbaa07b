/- Layer 23: equality of elements and of lists. -/
import Derived.Test.YtjhppkjngifibaaE4
import Derived.Deep.RegionHeld3
import Derived.StillTailTactics
import Derived.Deep.RegionLaw
import Derived.Deep.QuietTactic
import Derived.Deep.RegionWith
import Derived.Laws.StructEq
namespace Go.Proofs.Ytjhppkjngifibaa
open Go.RowKit Go.Lib
set_option linter.unusedVariables false

theorem neq_at {α : Type} {a b : List α} {k : Nat} (ha : k < a.length) (hb : k < b.length) (h : a[k] ≠ b[k]) : a ≠ b := fun e => h (by subst e; rfl)
def Agr {α : Type} (a b : List α) (k : Nat) : Prop := a.take k = b.take k
theorem Agr.succ {α : Type} {a b : List α} {k : Nat} (h : Agr a b k) (ha : k < a.length) (hb : k < b.length) (e : a[k] = b[k]) : Agr a b (k + 1) := by
  unfold Agr at h ⊢
  rw [List.take_succ_eq_append_getElem ha, List.take_succ_eq_append_getElem hb, h, e]
set_option maxRecDepth 100000 in
set_option maxHeartbeats 4000000 in
theorem sameP_any (ua : Int) (ub : Int) (va : Int) (vb : Int) (w : World) :
    Calls Try.prog 52 #[.agg #[.int .i64 ua, .int .i64 ub], .agg #[.int .i64 va, .int .i64 vb]] w fun e w' => e = .returned (.bool (decide (((ua, ub) : Pr) = (va, vb)))) ∧ Below w.heap.size w w' := by
  by_cases hn : ua = va
  case neg =>
    have HD := Lib.hid (decide_eq_false (fun h => hn (congrArg Prod.fst h)) : decide (((ua, ub) : Pr) = (va, vb)) = false)
    have hb := Lib.hid (((Below.refl w.heap.size w).alloc (Nat.le_refl _) (.cells #[.int .i64 ua, .int .i64 ub] 61)).alloc (by simp) (.cells #[.int .i64 va, .int .i64 vb] 61))
    have e1 : (ua == va) = false := neB hn
    clear hn
    go_enter Try.func52, Try.ntmps52
    go_wp2
    go_ret
    exact ⟨by rw [HD.out]; rfl, hb.out⟩
  subst hn
  by_cases hn : ub = vb
  case neg =>
    have HD := Lib.hid (decide_eq_false (fun h => hn (congrArg Prod.snd h)) : decide (((ua, ub) : Pr) = (ua, vb)) = false)
    have hb := Lib.hid (((Below.refl w.heap.size w).alloc (Nat.le_refl _) (.cells #[.int .i64 ua, .int .i64 ub] 61)).alloc (by simp) (.cells #[.int .i64 ua, .int .i64 vb] 61))
    have e1 : (ub == vb) = false := neB hn
    clear hn
    go_enter Try.func52, Try.ntmps52
    go_wp2
    go_ret
    exact ⟨by rw [HD.out]; rfl, hb.out⟩
  subst hn
  have hb := Lib.hid (((Below.refl w.heap.size w).alloc (Nat.le_refl _) (.cells #[.int .i64 ua, .int .i64 ub] 61)).alloc (by simp) (.cells #[.int .i64 ua, .int .i64 ub] 61))
  go_enter Try.func52, Try.ntmps52
  go_wp2
  go_ret
  exact ⟨by simp, hb.out⟩
attribute [local irreducible] wpQuiet in
set_option maxRecDepth 100000 in
set_option maxHeartbeats 8000000 in
theorem eqlistP_any (a b : List Pr) (n m : Nat) (hn : a.length = n) (hm : b.length = m) (h1 : n ≤ 100000) (h2 : m ≤ 100000) (A B : Option Addr) (c d : Nat) (w : World) (hA : AtP w A a) (hB : AtP w B b) :
    Calls Try.prog 51 #[.slice A n c, .slice B m d, .func (.func 52) #[] #[]] w fun e w' => e = .returned (.bool (decide (a = b))) ∧ Below w.heap.size w w' := by
  have HN := Lib.hid hn
  have HM := Lib.hid hm
  have HA := Lib.hid hA
  have HBB := Lib.hid hB
  clear hn hm hA hB
  by_cases hnm : n = m
  case neg =>
    have e1 : ((n : Int) == (m : Int)) = false := neB (by omega)
    have e2 : ((n : Int) != (m : Int)) = true := by rw [bne_iff_ne]; omega
    have HE := Lib.hid (decide_eq_false (fun h => hnm (by rw [← HN.out, ← HM.out, h])) : decide (a = b) = false)
    have hb0 := Below.refl w.heap.size w
    go_enter Try.func51, Try.ntmps51
    go_wp2
    go_ret
    exact ⟨by rw [HE.out]; rfl, hb0⟩
  subst hnm
  go_enter Try.func51, Try.ntmps51
  go_wp2_with fail
  go_loopw [7, 15] (fun _ s15 wr => ∃ k : Nat, k ≤ n ∧ s15 = .int .i64 (k : Nat) ∧ Hid (Agr a b k) ∧ Hid (Below w.heap.size w wr)) (fun _ s15 _ => n - (intOf s15).toNat)
  case atStart => exact ⟨0, Nat.zero_le _, rfl, Lib.hid rfl, Lib.hid (Below.refl _ _)⟩
  case round =>
    obtain ⟨k, hk, rfl, HG, HB⟩ := hrel
    have sB := HB.out.size
    by_cases hlt : k < n
    · have hka : k < a.length := by rw [HN.out]; exact hlt
      have hkb : k < b.length := by rw [HM.out]; exact hlt
      obtain ⟨g, o, rfl, hg, hcl⟩ := HA.out.pos (by omega)
      obtain ⟨g2, o2, rfl, hg2, hcl2⟩ := HBB.out.pos (by omega)
      obtain ⟨c0, c1⟩ := hcl k hka
      obtain ⟨d0, d1⟩ := hcl2 k hkb
      have z0 : ∀ p : Bw wr, p.w.cell? ⟨g, o + k * 2, none⟩ = _ := fun p => ((HB.out.trans (p.h.mono sB)).cell (p := ⟨g, o + k * 2, none⟩) hg).trans c0
      have y0 : ∀ p : Bw wr, p.w.cell? ⟨g2, o2 + k * 2, none⟩ = _ := fun p => ((HB.out.trans (p.h.mono sB)).cell (p := ⟨g2, o2 + k * 2, none⟩) hg2).trans d0
      have z1 : ∀ p : Bw wr, p.w.cell? ⟨g, o + k * 2 + 1, none⟩ = _ := fun p => ((HB.out.trans (p.h.mono sB)).cell (p := ⟨g, o + k * 2 + 1, none⟩) hg).trans c1
      have y1 : ∀ p : Bw wr, p.w.cell? ⟨g2, o2 + k * 2 + 1, none⟩ = _ := fun p => ((HB.out.trans (p.h.mono sB)).cell (p := ⟨g2, o2 + k * 2 + 1, none⟩) hg2).trans d1
      have f0 : (0 : Int) ≤ (k : Int) := by omega
      have f1 : (k : Int) < (n : Int) := by omega
      have HY := Lib.hid (fun (h : a[k] ≠ b[k]) => (decide_eq_false (neq_at hka hkb h) : decide (a = b) = false))
      have HX := Lib.hid (fun (h : a[k] = b[k]) => HG.out.succ hka hkb h)
      clear hcl hcl2 c0 d0 c1 d1
      generalize a[k] = u at z0 z1 HY HX
      generalize b[k] = v at y0 y1 HY HX
      obtain ⟨ua, ub⟩ := u
      obtain ⟨va, vb⟩ := v
      dsimp only at z0 z1 y0 y1
      have cS := fun p : Bw wr => sameP_any ua ub va vb p.w
      cases hv : decide (((ua, ub) : Pr) = (va, vb))
      all_goals
        rw [hv] at cS
        have CS := Lib.hid cS
        clear cS
        have HV := Lib.hid hv
        clear hv
        go_wp2_with fail
        refine wp_region_bw (W := wr) (by kernel_rfl) (by kernel_rfl) (Below.refl _ _) ?_
        repeat (quiet_step (first
          | (go_at_call 52; exact bw_of (fun v => CS.out v) _)
          | fail))
        refine wpQuiet_nil ?_
        intro w6 hw'
        have kk : Below wr.heap.size wr w6 := by obtain ⟨p2, rfl⟩ := hw'; exact p2.h
        have B6 := Lib.hid (HB.out.trans (kk.mono sB))
        clear hw' kk z0 z1 y0 y1 CS
      ·
        have HE := Lib.hid (HY.out (of_decide_eq_false HV.out))
        clear HY HX HV
        go_wp2
        go_ret
        exact ⟨by rw [HE.out]; rfl, B6.out⟩
      ·
        have HE := Lib.hid (HX.out (of_decide_eq_true HV.out))
        clear HY HX HV
        go_wp2
        go_roundw
        case rel => exact ⟨k + 1, by omega, by go_num, HE, B6⟩
        case measure => simp [intOf]; omega
    · obtain rfl : k = n := by omega
      have HE := Lib.hid (show decide (a = b) = true from decide_eq_true (by
        have := HG.out
        unfold Agr at this
        rw [List.take_of_length_le (by rw [HN.out]; exact Nat.le_refl _), List.take_of_length_le (by rw [HM.out]; exact Nat.le_refl _)] at this
        exact this))
      go_wp2
      go_ret
      exact ⟨by rw [HE.out]; rfl, HB.out⟩
set_option maxRecDepth 100000 in
set_option maxHeartbeats 4000000 in
theorem sameD_any (ua : Int) (ub : Int) (va : Int) (vb : Int) (w : World) :
    Calls Try.prog 54 #[.agg #[.int .i64 ua, .int .i64 ub], .agg #[.int .i64 va, .int .i64 vb]] w fun e w' => e = .returned (.bool (decide ((⟨ua, ub⟩ : Dl) = ⟨va, vb⟩))) ∧ Below w.heap.size w w' := by
  by_cases hn : ua = va
  case neg =>
    have HD := Lib.hid (decide_eq_false (fun h => hn (congrArg Dl.rev h)) : decide ((⟨ua, ub⟩ : Dl) = ⟨va, vb⟩) = false)
    have hb := Lib.hid (((Below.refl w.heap.size w).alloc (Nat.le_refl _) (.cells #[.int .i64 ua, .int .i64 ub] 59)).alloc (by simp) (.cells #[.int .i64 va, .int .i64 vb] 59))
    have e1 : (ua == va) = false := neB hn
    clear hn
    go_enter Try.func54, Try.ntmps54
    go_wp2
    go_ret
    exact ⟨by rw [HD.out]; rfl, hb.out⟩
  subst hn
  by_cases hn : ub = vb
  case neg =>
    have HD := Lib.hid (decide_eq_false (fun h => hn (congrArg Dl.move h)) : decide ((⟨ua, ub⟩ : Dl) = ⟨ua, vb⟩) = false)
    have hb := Lib.hid (((Below.refl w.heap.size w).alloc (Nat.le_refl _) (.cells #[.int .i64 ua, .int .i64 ub] 59)).alloc (by simp) (.cells #[.int .i64 ua, .int .i64 vb] 59))
    have e1 : (ub == vb) = false := neB hn
    clear hn
    go_enter Try.func54, Try.ntmps54
    go_wp2
    go_ret
    exact ⟨by rw [HD.out]; rfl, hb.out⟩
  subst hn
  have hb := Lib.hid (((Below.refl w.heap.size w).alloc (Nat.le_refl _) (.cells #[.int .i64 ua, .int .i64 ub] 59)).alloc (by simp) (.cells #[.int .i64 ua, .int .i64 ub] 59))
  go_enter Try.func54, Try.ntmps54
  go_wp2
  go_ret
  exact ⟨by simp, hb.out⟩
attribute [local irreducible] wpQuiet in
set_option maxRecDepth 100000 in
set_option maxHeartbeats 8000000 in
theorem eqlistD_any (a b : List Dl) (n m : Nat) (hn : a.length = n) (hm : b.length = m) (h1 : n ≤ 100000) (h2 : m ≤ 100000) (A B : Option Addr) (c d : Nat) (w : World) (hA : AtD w A a) (hB : AtD w B b) :
    Calls Try.prog 53 #[.slice A n c, .slice B m d, .func (.func 54) #[] #[]] w fun e w' => e = .returned (.bool (decide (a = b))) ∧ Below w.heap.size w w' := by
  have HN := Lib.hid hn
  have HM := Lib.hid hm
  have HA := Lib.hid hA
  have HBB := Lib.hid hB
  clear hn hm hA hB
  by_cases hnm : n = m
  case neg =>
    have e1 : ((n : Int) == (m : Int)) = false := neB (by omega)
    have e2 : ((n : Int) != (m : Int)) = true := by rw [bne_iff_ne]; omega
    have HE := Lib.hid (decide_eq_false (fun h => hnm (by rw [← HN.out, ← HM.out, h])) : decide (a = b) = false)
    have hb0 := Below.refl w.heap.size w
    go_enter Try.func53, Try.ntmps53
    go_wp2
    go_ret
    exact ⟨by rw [HE.out]; rfl, hb0⟩
  subst hnm
  go_enter Try.func53, Try.ntmps53
  go_wp2_with fail
  go_loopw [7, 15] (fun _ s15 wr => ∃ k : Nat, k ≤ n ∧ s15 = .int .i64 (k : Nat) ∧ Hid (Agr a b k) ∧ Hid (Below w.heap.size w wr)) (fun _ s15 _ => n - (intOf s15).toNat)
  case atStart => exact ⟨0, Nat.zero_le _, rfl, Lib.hid rfl, Lib.hid (Below.refl _ _)⟩
  case round =>
    obtain ⟨k, hk, rfl, HG, HB⟩ := hrel
    have sB := HB.out.size
    by_cases hlt : k < n
    · have hka : k < a.length := by rw [HN.out]; exact hlt
      have hkb : k < b.length := by rw [HM.out]; exact hlt
      obtain ⟨g, o, rfl, hg, hcl⟩ := HA.out.pos (by omega)
      obtain ⟨g2, o2, rfl, hg2, hcl2⟩ := HBB.out.pos (by omega)
      obtain ⟨c0, c1⟩ := hcl k hka
      obtain ⟨d0, d1⟩ := hcl2 k hkb
      have z0 : ∀ p : Bw wr, p.w.cell? ⟨g, o + k * 2, none⟩ = _ := fun p => ((HB.out.trans (p.h.mono sB)).cell (p := ⟨g, o + k * 2, none⟩) hg).trans c0
      have y0 : ∀ p : Bw wr, p.w.cell? ⟨g2, o2 + k * 2, none⟩ = _ := fun p => ((HB.out.trans (p.h.mono sB)).cell (p := ⟨g2, o2 + k * 2, none⟩) hg2).trans d0
      have z1 : ∀ p : Bw wr, p.w.cell? ⟨g, o + k * 2 + 1, none⟩ = _ := fun p => ((HB.out.trans (p.h.mono sB)).cell (p := ⟨g, o + k * 2 + 1, none⟩) hg).trans c1
      have y1 : ∀ p : Bw wr, p.w.cell? ⟨g2, o2 + k * 2 + 1, none⟩ = _ := fun p => ((HB.out.trans (p.h.mono sB)).cell (p := ⟨g2, o2 + k * 2 + 1, none⟩) hg2).trans d1
      have f0 : (0 : Int) ≤ (k : Int) := by omega
      have f1 : (k : Int) < (n : Int) := by omega
      have HY := Lib.hid (fun (h : a[k] ≠ b[k]) => (decide_eq_false (neq_at hka hkb h) : decide (a = b) = false))
      have HX := Lib.hid (fun (h : a[k] = b[k]) => HG.out.succ hka hkb h)
      clear hcl hcl2 c0 d0 c1 d1
      generalize a[k] = u at z0 z1 HY HX
      generalize b[k] = v at y0 y1 HY HX
      obtain ⟨ua, ub⟩ := u
      obtain ⟨va, vb⟩ := v
      dsimp only at z0 z1 y0 y1
      have cS := fun p : Bw wr => sameD_any ua ub va vb p.w
      cases hv : decide ((⟨ua, ub⟩ : Dl) = ⟨va, vb⟩)
      all_goals
        rw [hv] at cS
        have CS := Lib.hid cS
        clear cS
        have HV := Lib.hid hv
        clear hv
        go_wp2_with fail
        refine wp_region_bw (W := wr) (by kernel_rfl) (by kernel_rfl) (Below.refl _ _) ?_
        repeat (quiet_step (first
          | (go_at_call 54; exact bw_of (fun v => CS.out v) _)
          | fail))
        refine wpQuiet_nil ?_
        intro w6 hw'
        have kk : Below wr.heap.size wr w6 := by obtain ⟨p2, rfl⟩ := hw'; exact p2.h
        have B6 := Lib.hid (HB.out.trans (kk.mono sB))
        clear hw' kk z0 z1 y0 y1 CS
      ·
        have HE := Lib.hid (HY.out (of_decide_eq_false HV.out))
        clear HY HX HV
        go_wp2
        go_ret
        exact ⟨by rw [HE.out]; rfl, B6.out⟩
      ·
        have HE := Lib.hid (HX.out (of_decide_eq_true HV.out))
        clear HY HX HV
        go_wp2
        go_roundw
        case rel => exact ⟨k + 1, by omega, by go_num, HE, B6⟩
        case measure => simp [intOf]; omega
    · obtain rfl : k = n := by omega
      have HE := Lib.hid (show decide (a = b) = true from decide_eq_true (by
        have := HG.out
        unfold Agr at this
        rw [List.take_of_length_le (by rw [HN.out]; exact Nat.le_refl _), List.take_of_length_le (by rw [HM.out]; exact Nat.le_refl _)] at this
        exact this))
      go_wp2
      go_ret
      exact ⟨by rw [HE.out]; rfl, HB.out⟩
set_option maxRecDepth 100000 in
set_option maxHeartbeats 4000000 in
theorem sameL_any (ua : Int) (ub : Int) (uc : Int) (ud : Bool) (va : Int) (vb : Int) (vc : Int) (vd : Bool) (w : World) :
    Calls Try.prog 56 #[.agg #[.int .i64 ua, .int .i64 ub, .int .i64 uc, .bool ud], .agg #[.int .i64 va, .int .i64 vb, .int .i64 vc, .bool vd]] w fun e w' => e = .returned (.bool (decide ((⟨ua, ub, uc, ud⟩ : Ly) = ⟨va, vb, vc, vd⟩))) ∧ Below w.heap.size w w' := by
  by_cases hn : ua = va
  case neg =>
    have HD := Lib.hid (decide_eq_false (fun h => hn (congrArg Ly.rev h)) : decide ((⟨ua, ub, uc, ud⟩ : Ly) = ⟨va, vb, vc, vd⟩) = false)
    have hb := Lib.hid (((Below.refl w.heap.size w).alloc (Nat.le_refl _) (.cells #[.int .i64 ua, .int .i64 ub, .int .i64 uc, .bool ud] 74)).alloc (by simp) (.cells #[.int .i64 va, .int .i64 vb, .int .i64 vc, .bool vd] 74))
    have e1 : (ua == va) = false := neB hn
    clear hn
    go_enter Try.func56, Try.ntmps56
    go_wp2
    go_ret
    exact ⟨by rw [HD.out]; rfl, hb.out⟩
  subst hn
  by_cases hn : ub = vb
  case neg =>
    have HD := Lib.hid (decide_eq_false (fun h => hn (congrArg Ly.key h)) : decide ((⟨ua, ub, uc, ud⟩ : Ly) = ⟨ua, vb, vc, vd⟩) = false)
    have hb := Lib.hid (((Below.refl w.heap.size w).alloc (Nat.le_refl _) (.cells #[.int .i64 ua, .int .i64 ub, .int .i64 uc, .bool ud] 74)).alloc (by simp) (.cells #[.int .i64 ua, .int .i64 vb, .int .i64 vc, .bool vd] 74))
    have e1 : (ub == vb) = false := neB hn
    clear hn
    go_enter Try.func56, Try.ntmps56
    go_wp2
    go_ret
    exact ⟨by rw [HD.out]; rfl, hb.out⟩
  subst hn
  by_cases hn : uc = vc
  case neg =>
    have HD := Lib.hid (decide_eq_false (fun h => hn (congrArg Ly.bef h)) : decide ((⟨ua, ub, uc, ud⟩ : Ly) = ⟨ua, ub, vc, vd⟩) = false)
    have hb := Lib.hid (((Below.refl w.heap.size w).alloc (Nat.le_refl _) (.cells #[.int .i64 ua, .int .i64 ub, .int .i64 uc, .bool ud] 74)).alloc (by simp) (.cells #[.int .i64 ua, .int .i64 ub, .int .i64 vc, .bool vd] 74))
    have e1 : (uc == vc) = false := neB hn
    clear hn
    go_enter Try.func56, Try.ntmps56
    go_wp2
    go_ret
    exact ⟨by rw [HD.out]; rfl, hb.out⟩
  subst hn
  by_cases hn : ud = vd
  case neg =>
    have HD := Lib.hid (decide_eq_false (fun h => hn (congrArg Ly.had h)) : decide ((⟨ua, ub, uc, ud⟩ : Ly) = ⟨ua, ub, uc, vd⟩) = false)
    have hb := Lib.hid (((Below.refl w.heap.size w).alloc (Nat.le_refl _) (.cells #[.int .i64 ua, .int .i64 ub, .int .i64 uc, .bool ud] 74)).alloc (by simp) (.cells #[.int .i64 ua, .int .i64 ub, .int .i64 uc, .bool vd] 74))
    have e1 : (ud == vd) = false := by simpa using hn
    clear hn
    go_enter Try.func56, Try.ntmps56
    go_wp2
    go_ret
    exact ⟨by rw [HD.out]; rfl, hb.out⟩
  subst hn
  have hb := Lib.hid (((Below.refl w.heap.size w).alloc (Nat.le_refl _) (.cells #[.int .i64 ua, .int .i64 ub, .int .i64 uc, .bool ud] 74)).alloc (by simp) (.cells #[.int .i64 ua, .int .i64 ub, .int .i64 uc, .bool ud] 74))
  go_enter Try.func56, Try.ntmps56
  go_wp2
  go_ret
  exact ⟨by simp, hb.out⟩
attribute [local irreducible] wpQuiet in
set_option maxRecDepth 100000 in
set_option maxHeartbeats 8000000 in
theorem eqlistL_any (a b : List Ly) (n m : Nat) (hn : a.length = n) (hm : b.length = m) (h1 : n ≤ 100000) (h2 : m ≤ 100000) (A B : Option Addr) (c d : Nat) (w : World) (hA : AtL w A a) (hB : AtL w B b) :
    Calls Try.prog 55 #[.slice A n c, .slice B m d, .func (.func 56) #[] #[]] w fun e w' => e = .returned (.bool (decide (a = b))) ∧ Below w.heap.size w w' := by
  have HN := Lib.hid hn
  have HM := Lib.hid hm
  have HA := Lib.hid hA
  have HBB := Lib.hid hB
  clear hn hm hA hB
  by_cases hnm : n = m
  case neg =>
    have e1 : ((n : Int) == (m : Int)) = false := neB (by omega)
    have e2 : ((n : Int) != (m : Int)) = true := by rw [bne_iff_ne]; omega
    have HE := Lib.hid (decide_eq_false (fun h => hnm (by rw [← HN.out, ← HM.out, h])) : decide (a = b) = false)
    have hb0 := Below.refl w.heap.size w
    go_enter Try.func55, Try.ntmps55
    go_wp2
    go_ret
    exact ⟨by rw [HE.out]; rfl, hb0⟩
  subst hnm
  go_enter Try.func55, Try.ntmps55
  go_wp2_with fail
  go_loopw [7, 15] (fun _ s15 wr => ∃ k : Nat, k ≤ n ∧ s15 = .int .i64 (k : Nat) ∧ Hid (Agr a b k) ∧ Hid (Below w.heap.size w wr)) (fun _ s15 _ => n - (intOf s15).toNat)
  case atStart => exact ⟨0, Nat.zero_le _, rfl, Lib.hid rfl, Lib.hid (Below.refl _ _)⟩
  case round =>
    obtain ⟨k, hk, rfl, HG, HB⟩ := hrel
    have sB := HB.out.size
    by_cases hlt : k < n
    · have hka : k < a.length := by rw [HN.out]; exact hlt
      have hkb : k < b.length := by rw [HM.out]; exact hlt
      obtain ⟨g, o, rfl, hg, hcl⟩ := HA.out.pos (by omega)
      obtain ⟨g2, o2, rfl, hg2, hcl2⟩ := HBB.out.pos (by omega)
      obtain ⟨c0, c1, c2, c3⟩ := hcl k hka
      obtain ⟨d0, d1, d2, d3⟩ := hcl2 k hkb
      have z0 : ∀ p : Bw wr, p.w.cell? ⟨g, o + k * 4, none⟩ = _ := fun p => ((HB.out.trans (p.h.mono sB)).cell (p := ⟨g, o + k * 4, none⟩) hg).trans c0
      have y0 : ∀ p : Bw wr, p.w.cell? ⟨g2, o2 + k * 4, none⟩ = _ := fun p => ((HB.out.trans (p.h.mono sB)).cell (p := ⟨g2, o2 + k * 4, none⟩) hg2).trans d0
      have z1 : ∀ p : Bw wr, p.w.cell? ⟨g, o + k * 4 + 1, none⟩ = _ := fun p => ((HB.out.trans (p.h.mono sB)).cell (p := ⟨g, o + k * 4 + 1, none⟩) hg).trans c1
      have y1 : ∀ p : Bw wr, p.w.cell? ⟨g2, o2 + k * 4 + 1, none⟩ = _ := fun p => ((HB.out.trans (p.h.mono sB)).cell (p := ⟨g2, o2 + k * 4 + 1, none⟩) hg2).trans d1
      have z2 : ∀ p : Bw wr, p.w.cell? ⟨g, o + k * 4 + 2, none⟩ = _ := fun p => ((HB.out.trans (p.h.mono sB)).cell (p := ⟨g, o + k * 4 + 2, none⟩) hg).trans c2
      have y2 : ∀ p : Bw wr, p.w.cell? ⟨g2, o2 + k * 4 + 2, none⟩ = _ := fun p => ((HB.out.trans (p.h.mono sB)).cell (p := ⟨g2, o2 + k * 4 + 2, none⟩) hg2).trans d2
      have z3 : ∀ p : Bw wr, p.w.cell? ⟨g, o + k * 4 + 3, none⟩ = _ := fun p => ((HB.out.trans (p.h.mono sB)).cell (p := ⟨g, o + k * 4 + 3, none⟩) hg).trans c3
      have y3 : ∀ p : Bw wr, p.w.cell? ⟨g2, o2 + k * 4 + 3, none⟩ = _ := fun p => ((HB.out.trans (p.h.mono sB)).cell (p := ⟨g2, o2 + k * 4 + 3, none⟩) hg2).trans d3
      have f0 : (0 : Int) ≤ (k : Int) := by omega
      have f1 : (k : Int) < (n : Int) := by omega
      have HY := Lib.hid (fun (h : a[k] ≠ b[k]) => (decide_eq_false (neq_at hka hkb h) : decide (a = b) = false))
      have HX := Lib.hid (fun (h : a[k] = b[k]) => HG.out.succ hka hkb h)
      clear hcl hcl2 c0 d0 c1 d1 c2 d2 c3 d3
      generalize a[k] = u at z0 z1 z2 z3 HY HX
      generalize b[k] = v at y0 y1 y2 y3 HY HX
      obtain ⟨ua, ub, uc, ud⟩ := u
      obtain ⟨va, vb, vc, vd⟩ := v
      dsimp only at z0 z1 z2 z3 y0 y1 y2 y3
      have cS := fun p : Bw wr => sameL_any ua ub uc ud va vb vc vd p.w
      cases hv : decide ((⟨ua, ub, uc, ud⟩ : Ly) = ⟨va, vb, vc, vd⟩)
      all_goals
        rw [hv] at cS
        have CS := Lib.hid cS
        clear cS
        have HV := Lib.hid hv
        clear hv
        go_wp2_with fail
        refine wp_region_bw (W := wr) (by kernel_rfl) (by kernel_rfl) (Below.refl _ _) ?_
        repeat (quiet_step (first
          | (go_at_call 56; exact bw_of (fun v => CS.out v) _)
          | fail))
        refine wpQuiet_nil ?_
        intro w6 hw'
        have kk : Below wr.heap.size wr w6 := by obtain ⟨p2, rfl⟩ := hw'; exact p2.h
        have B6 := Lib.hid (HB.out.trans (kk.mono sB))
        clear hw' kk z0 z1 z2 z3 y0 y1 y2 y3 CS
      ·
        have HE := Lib.hid (HY.out (of_decide_eq_false HV.out))
        clear HY HX HV
        go_wp2
        go_ret
        exact ⟨by rw [HE.out]; rfl, B6.out⟩
      ·
        have HE := Lib.hid (HX.out (of_decide_eq_true HV.out))
        clear HY HX HV
        go_wp2
        go_roundw
        case rel => exact ⟨k + 1, by omega, by go_num, HE, B6⟩
        case measure => simp [intOf]; omega
    · obtain rfl : k = n := by omega
      have HE := Lib.hid (show decide (a = b) = true from decide_eq_true (by
        have := HG.out
        unfold Agr at this
        rw [List.take_of_length_le (by rw [HN.out]; exact Nat.le_refl _), List.take_of_length_le (by rw [HM.out]; exact Nat.le_refl _)] at this
        exact this))
      go_wp2
      go_ret
      exact ⟨by rw [HE.out]; rfl, HB.out⟩
end Go.Proofs.Ytjhppkjngifibaa
