/- Layer 23: Existed, Visible, Plain. -/
import Derived.Test.YtjhppkjngifibaaEI
import Derived.Test.YtjhppkjngifibaaEE
namespace Go.Proofs.Ytjhppkjngifibaa
open Go.RowKit Go.Lib
set_option linter.unusedVariables false

set_option maxRecDepth 100000 in
set_option maxHeartbeats 4000000 in
theorem existed_any (A B C : Option Addr) (np cp nd cd nl cl : Nat) (hi hmv : Int) (w : World) : Calls Try.prog 27 #[hdV A B C np cp nd cd nl cl hi hmv] w fun e w' => e = .returned (.bool (decide (hi = 0))) ∧ Below w.heap.size w w' := by
  have HB := Lib.hid ((Below.refl w.heap.size w).alloc (Nat.le_refl _) (.cells #[.slice A np cp, .int .i64 hi, .int .i64 hmv, .slice B nd cd, .slice C nl cl] 28))
  unfold hdV
  by_cases h0 : hi = 0
  · have e1 : (hi == 0) = true := by simpa using h0
    have e2 : decide (hi = 0) = true := decide_eq_true h0
    have HE := Lib.hid e2
    clear h0 e2
    go_enter Try.func27, Try.ntmps27
    go_wp2
    go_ret
    exact ⟨by rw [HE.out]; rfl, HB.out⟩
  · have e1 : (hi == 0) = false := neB h0
    have HE := Lib.hid (show decide (hi = 0) = false from decide_eq_false h0)
    clear h0
    go_enter Try.func27, Try.ntmps27
    go_wp2
    go_ret
    exact ⟨by rw [HE.out]; rfl, HB.out⟩
set_option maxRecDepth 100000 in
set_option maxHeartbeats 4000000 in
theorem visible_any (A B C : Option Addr) (np cp nd cd nl cl : Nat) (hi hmv : Int) (w : World) : Calls Try.prog 28 #[hdV A B C np cp nd cd nl cl hi hmv] w fun e w' => e = .returned (.bool (decide (nd = 0))) ∧ Below w.heap.size w w' := by
  have HB := Lib.hid ((Below.refl w.heap.size w).alloc (Nat.le_refl _) (.cells #[.slice A np cp, .int .i64 hi, .int .i64 hmv, .slice B nd cd, .slice C nl cl] 28))
  unfold hdV
  by_cases h0 : nd = 0
  · subst h0
    go_enter Try.func28, Try.ntmps28
    go_wp2
    go_ret
    exact ⟨rfl, HB.out⟩
  · have e1 : (((nd : Nat) : Int) == 0) = false := neB (by omega)
    have HE := Lib.hid (show decide (nd = 0) = false from decide_eq_false h0)
    clear h0
    go_enter Try.func28, Try.ntmps28
    go_wp2
    go_ret
    exact ⟨by rw [HE.out]; rfl, HB.out⟩
def plainH (h : Hd) : Hd := ⟨h.props, 0, 0, [], []⟩
set_option maxRecDepth 100000 in
set_option maxHeartbeats 8000000 in
theorem plain_any (h : Hd) (hm : Mod h) (A B C : Option Addr) (np cp nd cd nl cl : Nat) (w : World) (hA : HAt w A B C np cp nd cd nl cl h) :
    Calls Try.prog 26 #[hdV A B C np cp nd cd nl cl h.ins h.move] w (HRet w.heap.size (plainH h) w) := by
  obtain ⟨hi, hhi⟩ : ∃ x, h.ins = x := ⟨_, rfl⟩
  obtain ⟨hmv, hhm⟩ : ∃ x, h.move = x := ⟨_, rfl⟩
  have b0 := ((Below.refl w.heap.size w).alloc (Nat.le_refl _) (.cells #[.slice A np cp, .int .i64 hi, .int .i64 hmv, .slice B nd cd, .slice C nl cl] 28)).alloc (by simp) (.cells #[.slice none 0 0, .int .i64 0, .int .i64 0, .slice none 0 0, .slice none 0 0] 28)
  have O2 := ObjAt.new (w.alloc (.cells #[.slice A np cp, .int .i64 hi, .int .i64 hmv, .slice B nd cd, .slice C nl cl] 28)) #[.slice none 0 0, .int .i64 0, .int .i64 0, .slice none 0 0, .slice none 0 0] 28
  rw [World.size_alloc] at O2
  have s0 := b0.size
  have cC := cloneProps_any A np cp h.props hA.ep hA.cp (by have := hA.ep; have := hm.p; omega) _ (hA.p.below b0 (Nat.le_refl _))
  have HN := Lib.hid hA.ep
  unfold hdV
  rw [hhi, hhm]
  have HB := Lib.hid b0
  have H2 := Lib.hid O2
  clear b0 O2 hA hm hhi hhm
  obtain ⟨b, hbb⟩ : ∃ b, w.heap.size = b := ⟨_, rfl⟩
  rw [hbb] at HB H2 s0 ⊢
  have HBB := Lib.hid hbb
  go_enter Try.func26, Try.ntmps26
  go_wp2_with fail
  (with_reducible refine cC.mono ?_)
  rintro e w1 ⟨A1, c1, rfl, hown, k1⟩
  have X := H2.out.below (k1.mono (by simp [hbb]))
  have hz : b + 2 ≤ w1.heap.size := by have := X.lt; omega
  have HO := Lib.hid (own_lower (b' := b + 2) hown (by simp [hbb]))
  have HK := Lib.hid (HB.out.trans (k1.mono s0))
  clear hown cC k1
  have x0 := X.get (k := 0) (v := .slice none 0 0) rfl
  have x1 := X.get (k := 1) (v := .int .i64 0) rfl
  have x2 := X.get (k := 2) (v := .int .i64 0) rfl
  have x3 := X.get (k := 3) (v := .slice none 0 0) rfl
  have x4 := X.get (k := 4) (v := .slice none 0 0) rfl
  have f0 := X.frozen 0
  have f1 := X.frozen 1
  have f2 := X.frozen 2
  have f3 := X.frozen 3
  have f4 := X.frozen 4
  have XF := (((((X.set 0 (.slice A1 np c1)).set 1 (.int .i64 0)).set 2 (.int .i64 0)).set 3 (.slice none 0 0)).set 4 (.slice none 0 0))
  have YF := Lib.hid (own_lower (b' := b) (row_setO (row_setO (row_setO (row_setO (row_setO HO.out (b := b + 1) (by omega) 0 (.slice A1 np c1)) (b := b + 1) (by omega) 1 (.int .i64 0)) (b := b + 1) (by omega) 2 (.int .i64 0)) (b := b + 1) (by omega) 3 (.slice none 0 0)) (b := b + 1) (by omega) 4 (.slice none 0 0)) (by omega))
  have KF := Lib.hid ((((((HK.out.setCell (p := ⟨b + 1, 0, none⟩) (by simp) (.slice A1 np c1)).setCell (p := ⟨b + 1, 1, none⟩) (by simp) (.int .i64 0)).setCell (p := ⟨b + 1, 2, none⟩) (by simp) (.int .i64 0)).setCell (p := ⟨b + 1, 3, none⟩) (by simp) (.slice none 0 0)).setCell (p := ⟨b + 1, 4, none⟩) (by simp) (.slice none 0 0)))
  have q0 := XF.get (k := 0) (v := .slice A1 np c1) (by simp)
  have q1 := XF.get (k := 1) (v := .int .i64 0) (by simp)
  have q2 := XF.get (k := 2) (v := .int .i64 0) (by simp)
  have q3 := XF.get (k := 3) (v := .slice none 0 0) (by simp)
  have q4 := XF.get (k := 4) (v := .slice none 0 0) (by simp)
  clear XF X
  go_wp2
  refine bodyPost_ret (v := .agg #[.slice A1 np c1, .int .i64 0, .int .i64 0, .slice none 0 0, .slice none 0 0]) (by simp [results, Try.results26, go_sem, q0, q1, q2, q3, q4]) rfl ⟨A1, none, none, c1, 0, 0, ?_, ⟨?_, World.ownsRow_nil _ _ _ _, World.ownsRow_nil _ _ _ _⟩, ?_⟩
  · rw [← HN.out]; rfl
  · have e := HN.out; subst e; exact YF.out
  · rw [HBB.out]; exact KF.out
end Go.Proofs.Ytjhppkjngifibaa
