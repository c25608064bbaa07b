/- Layer 22: sameRevs (22). -/
import Derived.Test.YtmpklkhjipclmaaV4
import Derived.Laws.StructEq
namespace Go.Proofs.Ytmpklkhjipclmaa
open Go.RowKit Go.Lib
set_option linter.unusedVariables false

theorem str_eqB {a b : ByteArray} (h : a = b) : (a.toList == b.toList) = true := by rw [h]; exact beq_self_eq_true b.toList
theorem str_neB {a b : ByteArray} (h : a ≠ b) : (a.toList == b.toList) = false := by
  rw [beq_eq_false_iff_ne]
  intro e
  apply h
  rw [ByteArray.toList_eq, ByteArray.toList_eq] at e
  obtain ⟨⟨x⟩⟩ := a
  obtain ⟨⟨y⟩⟩ := b
  simpa using e
attribute [local irreducible] wpQuiet in
set_option maxRecDepth 100000 in
set_option maxHeartbeats 8000000 in
theorem samerevs_any (a b : List Rv) (n m : Nat) (hn : a.length = n) (hm : b.length = m) (h1000 : n ≤ 1000) (h1001 : m ≤ 1000) (A B : Option Addr) (c d : Nat) (w : World) (hA : RsAt w A a) (hB : RsAt w B b) :
    Calls Try.prog 22 #[.slice A n c, .slice B m d] w fun e w' => e = .returned (.bool (decide (a = b))) ∧ Below w.heap.size w w' := by
  have HN := Lib.hid hn
  have HM := Lib.hid hm
  have HA := Lib.hid hA
  have HBB := Lib.hid hB
  clear hn hm hA hB
  by_cases hnm : n = m
  case neg =>
    have e1 : ((n : Int) == (m : Int)) = false := neB (by omega)
    have HE := Lib.hid (decide_eq_false (fun h => hnm (by rw [← HN.out, ← HM.out, h])) : decide (a = b) = false)
    have hb0 := Below.refl w.heap.size w
    go_enter Try.func22, Try.ntmps22
    go_wp2
    go_ret
    exact ⟨by rw [HE.out]; rfl, hb0⟩
  subst hnm
  go_enter Try.func22, Try.ntmps22
  go_wp2_with fail
  go_loopw [5] (fun s5 wr => ∃ k : Nat, k ≤ n ∧ s5 = .int .i64 (k : Nat) ∧ Hid (Agr a b k) ∧ Hid (Below w.heap.size w wr)) (fun s5 _ => n - (intOf s5).toNat)
  case atStart => exact ⟨0, Nat.zero_le _, rfl, Lib.hid rfl, Lib.hid (Below.refl _ _)⟩
  case round =>
    obtain ⟨k, hk, rfl, HG, HB⟩ := hrel
    by_cases hlt : k < n
    · have hka : k < a.length := by rw [HN.out]; exact hlt
      have hkb : k < b.length := by rw [HM.out]; exact hlt
      obtain ⟨g, o, rfl, hg, hcl⟩ := HA.out.pos (by omega)
      obtain ⟨g2, o2, rfl, hg2, hcl2⟩ := HBB.out.pos (by omega)
      obtain ⟨c0, c1, c2⟩ := hcl k hka
      obtain ⟨d0, d1, d2⟩ := hcl2 k hkb
      have z0 := (HB.out.cell (p := ⟨g, o + k * 3, none⟩) hg).trans c0
      have z1 := (HB.out.cell (p := ⟨g, o + k * 3 + 1, none⟩) hg).trans c1
      have z2 := (HB.out.cell (p := ⟨g, o + k * 3 + 2, none⟩) hg).trans c2
      have y0 := (HB.out.cell (p := ⟨g2, o2 + k * 3, none⟩) hg2).trans d0
      have y1 := (HB.out.cell (p := ⟨g2, o2 + k * 3 + 1, none⟩) hg2).trans d1
      have y2 := (HB.out.cell (p := ⟨g2, o2 + k * 3 + 2, none⟩) hg2).trans d2
      have f0 : (0 : Int) ≤ (k : Int) := by omega
      have f1 : (k : Int) < (n : Int) := by omega
      have HY := Lib.hid (fun (h : a[k] ≠ b[k]) => (decide_eq_false (ne_at hka hkb h) : decide (a = b) = false))
      have HX := Lib.hid (fun (h : a[k] = b[k]) => HG.out.succ hka hkb h)
      clear hcl hcl2 c0 c1 c2 d0 d1 d2
      generalize a[k] = u at z0 z1 z2 HY HX
      generalize b[k] = v at y0 y1 y2 HY HX
      obtain ⟨u1, u2, u3⟩ := u
      obtain ⟨v1, v2, v3⟩ := v
      dsimp only at z0 z1 z2 y0 y1 y2
      by_cases h1 : u1 = v1
      case neg =>
        have e1 : (u1 == v1) = false := neB h1
        have HE := Lib.hid (HY.out (fun h => h1 (congrArg Rv.id h)))
        clear HY HX h1
        go_wp2
        go_quiet (fail)
        go_wp2
        go_ret
        exact ⟨by rw [HE.out]; rfl, bdrew HB.out _⟩
      by_cases h2 : u2 = v2
      case neg =>
        have e1 : (u1 == v1) = true := by rw [h1]; exact beq_self_eq_true v1
        have e2 : (u2.toList == v2.toList) = false := str_neB h2
        have HE := Lib.hid (HY.out (fun h => h2 (congrArg Rv.author h)))
        clear HY HX h1 h2
        go_wp2
        go_quiet (fail)
        go_wp2
        go_ret
        exact ⟨by rw [HE.out]; rfl, bdrew HB.out _⟩
      by_cases h3 : u3 = v3
      case neg =>
        have e1 : (u1 == v1) = true := by rw [h1]; exact beq_self_eq_true v1
        have e2 : (u2.toList == v2.toList) = true := str_eqB h2
        have e3 : (u3 == v3) = false := neB h3
        have HE := Lib.hid (HY.out (fun h => h3 (congrArg Rv.time h)))
        clear HY HX h1 h2 h3
        go_wp2
        go_quiet (fail)
        go_wp2
        go_ret
        exact ⟨by rw [HE.out]; rfl, bdrew HB.out _⟩
      have e1 : (u1 == v1) = true := by rw [h1]; exact beq_self_eq_true v1
      have e2 : (u2.toList == v2.toList) = true := str_eqB h2
      have e3 : (u3 == v3) = true := by rw [h3]; exact beq_self_eq_true v3
      have HE := Lib.hid (HX.out (by rw [h1, h2, h3]))
      clear HY HX h1 h2 h3
      go_wp2
      go_quiet (fail)
      go_wp2
      go_roundw
      case rel => exact ⟨k + 1, by omega, by go_num, HE, Lib.hid (bdrew HB.out _)⟩
      case measure => simp [intOf]; omega
    · obtain rfl : k = n := by omega
      have HE := Lib.hid (decide_eq_true (HG.out.all HN.out HM.out) : decide (a = b) = true)
      go_wp2
      go_ret
      exact ⟨by rw [HE.out]; rfl, HB.out⟩
end Go.Proofs.Ytmpklkhjipclmaa
