/- Layer 23: the first of a list that a test finds. -/
import Derived.Test.YtjhppkjngifibaaE9
namespace Go.Proofs.Ytjhppkjngifibaa
open Go.RowKit Go.Lib
set_option linter.unusedVariables false

set_option maxRecDepth 100000 in
set_option maxHeartbeats 8000000 in
theorem indexD_any (l : List Dl) (n : Nat) (hn : l.length = n) (h1000 : n ≤ 100000) (A : Option Addr) (c : Nat) (g' : Nat) (cb : Array Value) (q : Dl → Bool) (w : World) (hA : AtD w A l) (hT : TestD g' cb q w.heap.size w) :
    Calls Try.prog 107 #[.slice A n c, .func (.func g') #[] cb] w fun e w' => e = .returned (.int .i64 (fstQ q l)) ∧ Below w.heap.size w w' := by
  have HN := Lib.hid hn
  have HA := Lib.hid hA
  have eg := hT.en
  have CB := Lib.hid hT.run
  clear hn hA hT
  go_enter Try.func107, Try.ntmps107
  go_wp2_with fail
  go_loopw [5, 8] (fun _ s8 wr => ∃ k : Nat, k ≤ n ∧ s8 = .int .i64 (k : Nat) ∧ Hid (BeforeQ q l k) ∧ Hid (Below w.heap.size w wr)) (fun _ s8 _ => n - (intOf s8).toNat)
  case atStart => exact ⟨0, Nat.zero_le _, rfl, Lib.hid (BeforeQ.zero _ _), Lib.hid (Below.refl _ _)⟩
  case round =>
    obtain ⟨k, hk, rfl, HM, HB⟩ := hrel
    by_cases hlt : k < n
    · have hkl : k < l.length := by rw [HN.out]; exact hlt
      obtain ⟨g, o, rfl, hg, hcl⟩ := HA.out.pos (by omega)
      obtain ⟨z0, z1⟩ := hcl k hkl
      replace z0 := (HB.out.cell (p := ⟨g, o + k * 2, none⟩) hg).trans z0
      replace z1 := (HB.out.cell (p := ⟨g, o + k * 2 + 1, none⟩) hg).trans z1
      have HY := Lib.hid (fun (h : q l[k] = true) => fstQ_yes hkl h HM.out)
      have HX := Lib.hid (fun (h : q l[k] = false) => HM.out.succ hkl h)
      have hs := HB.out.size
      clear hcl
      generalize l[k] = x at z0 z1 HY HX
      obtain ⟨a1, a2⟩ := x
      dsimp only at z0 z1
      have cb := CB.out a1 a2 wr HB.out
      cases hv : q ⟨a1, a2⟩ with
      | true =>
        have HE := Lib.hid (HY.out hv)
        rw [hv] at cb
        clear HY HX hv
        go_wp2_with (go_at_fn g'; (with_reducible refine cb.mono ?_); rintro e w7 ⟨rfl, k7⟩; have K7 := Go.Lib.hid (HB.out.trans (k7.mono hs)))
        go_ret
        exact ⟨by rw [← HE.out]; rfl, K7.out⟩
      | false =>
        rw [hv] at cb
        have HE := Lib.hid (HX.out hv)
        clear HY HX hv
        go_wp2_with (go_at_fn g'; (with_reducible refine cb.mono ?_); rintro e w7 ⟨rfl, k7⟩; have K7 := Go.Lib.hid (HB.out.trans (k7.mono hs)))
        go_roundw
        case rel => exact ⟨k + 1, by omega, by go_num, HE, K7⟩
        case measure => simp [intOf]; omega
    · obtain rfl : k = n := by omega
      have HE := Lib.hid (fstQ_no (q := q) (l := l) fun j h => HM.out j h (by rw [← HN.out]; exact h))
      go_wp2
      go_ret
      exact ⟨by rw [HE.out]; rfl, HB.out⟩
set_option maxRecDepth 100000 in
theorem contfD_any (l : List Dl) (n : Nat) (hn : l.length = n) (h1000 : n ≤ 100000) (A : Option Addr) (c : Nat) (g' : Nat) (cb : Array Value) (q : Dl → Bool) (w : World) (hA : AtD w A l) (hT : TestD g' cb q w.heap.size w) :
    Calls Try.prog 105 #[.slice A n c, .func (.func g') #[] cb] w fun e w' => e = .returned (.bool (l.any q)) ∧ Below w.heap.size w w' := by
  have cI := indexD_any l n hn h1000 A c g' cb q w hA hT
  have HQ := Lib.hid (fstQ_any q l)
  generalize fstQ q l = z at cI HQ
  clear hn hA hT
  go_enter Try.func105, Try.ntmps105
  go_wp2_with (go_at_call 107; (with_reducible refine cI.mono ?_); rintro e w1 ⟨rfl, hb1⟩)
  go_ret
  exact ⟨by rw [← HQ.out]; rfl, hb1⟩
set_option maxRecDepth 100000 in
set_option maxHeartbeats 8000000 in
theorem indexI_any (l : List Int) (n : Nat) (hn : l.length = n) (h1000 : n ≤ 100000) (A : Option Addr) (c : Nat) (g' : Nat) (cb : Array Value) (q : Int → Bool) (w : World) (hA : NsAt w A l) (hT : TestN g' cb q w.heap.size w) :
    Calls Try.prog 103 #[.slice A n c, .func (.func g') #[] cb] w fun e w' => e = .returned (.int .i64 (fstQ q l)) ∧ Below w.heap.size w w' := by
  have HN := Lib.hid hn
  have HA := Lib.hid hA
  have eg := hT.en
  have CB := Lib.hid hT.run
  clear hn hA hT
  go_enter Try.func103, Try.ntmps103
  go_wp2_with fail
  go_loopw [5, 8] (fun _ s8 wr => ∃ k : Nat, k ≤ n ∧ s8 = .int .i64 (k : Nat) ∧ Hid (BeforeQ q l k) ∧ Hid (Below w.heap.size w wr)) (fun _ s8 _ => n - (intOf s8).toNat)
  case atStart => exact ⟨0, Nat.zero_le _, rfl, Lib.hid (BeforeQ.zero _ _), Lib.hid (Below.refl _ _)⟩
  case round =>
    obtain ⟨k, hk, rfl, HM, HB⟩ := hrel
    by_cases hlt : k < n
    · have hkl : k < l.length := by rw [HN.out]; exact hlt
      obtain ⟨g, o, rfl, hg, hcl⟩ := HA.out.pos (by omega)
      have z0 := (HB.out.cell (p := ⟨g, o + k, none⟩) hg).trans (hcl k hkl)
      have HY := Lib.hid (fun (h : q l[k] = true) => fstQ_yes hkl h HM.out)
      have HX := Lib.hid (fun (h : q l[k] = false) => HM.out.succ hkl h)
      have hs := HB.out.size
      clear hcl
      generalize l[k] = x at z0 HY HX
      have cb := CB.out x wr HB.out
      cases hv : q x with
      | true =>
        have HE := Lib.hid (HY.out hv)
        rw [hv] at cb
        clear HY HX hv
        go_wp2_with (go_at_fn g'; (with_reducible refine cb.mono ?_); rintro e w7 ⟨rfl, k7⟩; have K7 := Go.Lib.hid (HB.out.trans (k7.mono hs)))
        go_ret
        exact ⟨by rw [← HE.out]; rfl, K7.out⟩
      | false =>
        rw [hv] at cb
        have HE := Lib.hid (HX.out hv)
        clear HY HX hv
        go_wp2_with (go_at_fn g'; (with_reducible refine cb.mono ?_); rintro e w7 ⟨rfl, k7⟩; have K7 := Go.Lib.hid (HB.out.trans (k7.mono hs)))
        go_roundw
        case rel => exact ⟨k + 1, by omega, by go_num, HE, K7⟩
        case measure => simp [intOf]; omega
    · obtain rfl : k = n := by omega
      have HE := Lib.hid (fstQ_no (q := q) (l := l) fun j h => HM.out j h (by rw [← HN.out]; exact h))
      go_wp2
      go_ret
      exact ⟨by rw [HE.out]; rfl, HB.out⟩
set_option maxRecDepth 100000 in
theorem contfI_any (l : List Int) (n : Nat) (hn : l.length = n) (h1000 : n ≤ 100000) (A : Option Addr) (c : Nat) (g' : Nat) (cb : Array Value) (q : Int → Bool) (w : World) (hA : NsAt w A l) (hT : TestN g' cb q w.heap.size w) :
    Calls Try.prog 77 #[.slice A n c, .func (.func g') #[] cb] w fun e w' => e = .returned (.bool (l.any q)) ∧ Below w.heap.size w w' := by
  have cI := indexI_any l n hn h1000 A c g' cb q w hA hT
  have HQ := Lib.hid (fstQ_any q l)
  generalize fstQ q l = z at cI HQ
  clear hn hA hT
  go_enter Try.func77, Try.ntmps77
  go_wp2_with (go_at_call 103; (with_reducible refine cI.mono ?_); rintro e w1 ⟨rfl, hb1⟩)
  go_ret
  exact ⟨by rw [← HQ.out]; rfl, hb1⟩
end Go.Proofs.Ytjhppkjngifibaa
