/- Layer 23: Insert. -/
import Derived.Test.YtjhppkjngifibaaEN
namespace Go.Proofs.Ytjhppkjngifibaa
open Go.RowKit Go.Lib
set_option linter.unusedVariables false

def insertH (h : Hd) (rev m : Int) : Hd := ⟨h.props, rev, if rev = 0 then 0 else m, h.dels, h.lays⟩
set_option maxRecDepth 100000 in
set_option maxHeartbeats 8000000 in
theorem insert_any (h : Hd) (hm : Mod h) (A B C : Option Addr) (np cp nd cd nl cl : Nat) (rev m : Int) (w : World) (hA : HAt w A B C np cp nd cd nl cl h) :
    Calls Try.prog 33 #[hdV A B C np cp nd cd nl cl h.ins h.move, .int .i64 rev, .int .i64 m] w (HRet w.heap.size (insertH h rev m) w) := by
  obtain ⟨hi, hhi⟩ : ∃ x, h.ins = x := ⟨_, rfl⟩
  obtain ⟨hmv, hhm⟩ : ∃ x, h.move = x := ⟨_, rfl⟩
  have b0 := ((Below.refl w.heap.size w).alloc (Nat.le_refl _) (.cells #[.slice A np cp, .int .i64 hi, .int .i64 hmv, .slice B nd cd, .slice C nl cl] 28)).alloc (by simp) (.cells #[.slice none 0 0, .int .i64 0, .int .i64 0, .slice none 0 0, .slice none 0 0] 28)
  have O2 := ObjAt.new (w.alloc (.cells #[.slice A np cp, .int .i64 hi, .int .i64 hmv, .slice B nd cd, .slice C nl cl] 28)) #[.slice none 0 0, .int .i64 0, .int .i64 0, .slice none 0 0, .slice none 0 0] 28
  rw [World.size_alloc] at O2
  have s0 := b0.size
  have cC := clonehead_any h hm A B C np cp nd cd nl cl _ (hA.below b0 (Nat.le_refl _))
  unfold hdV at cC ⊢
  rw [hhi, hhm] at cC ⊢
  have HI := Lib.hid hhi
  have HMV := Lib.hid hhm
  have HB := Lib.hid b0
  have H2 := Lib.hid O2
  clear b0 O2 hA hm hhi hhm
  obtain ⟨b, hbb⟩ : ∃ b, w.heap.size = b := ⟨_, rfl⟩
  rw [hbb] at HB H2 s0 ⊢
  have HBB := Lib.hid hbb
  have hs2 : ((w.alloc (.cells #[.slice A np cp, .int .i64 hi, .int .i64 hmv, .slice B nd cd, .slice C nl cl] 28)).alloc (.cells #[.slice none 0 0, .int .i64 0, .int .i64 0, .slice none 0 0, .slice none 0 0] 28)).heap.size = b + 2 := by simp [hbb]
  have HS2 := Lib.hid hs2
  clear hs2
  go_enter Try.func33, Try.ntmps33
  go_wp2_with fail
  (with_reducible refine cC.mono ?_)
  rintro e w1 ⟨PA, PD, PL, c1, c2, c3, rfl, hown, k1⟩
  have X := H2.out.below k1
  have hz : b + 2 ≤ w1.heap.size := by have := X.lt; omega
  have HO := Lib.hid (hown_lower (b := b + 2) hown (by rw [HS2.out]; exact Nat.le_refl _))
  have HK := Lib.hid (HB.out.trans (k1.mono s0))
  obtain ⟨np2, hnp2⟩ : ∃ x, h.props.length = x := ⟨_, rfl⟩
  obtain ⟨nd2, hnd2⟩ : ∃ x, h.dels.length = x := ⟨_, rfl⟩
  obtain ⟨nl2, hnl2⟩ : ∃ x, h.lays.length = x := ⟨_, rfl⟩
  rw [hnp2, hnd2, hnl2, HI.out, HMV.out]
  have HNP := Lib.hid hnp2
  have HND := Lib.hid hnd2
  have HNL := Lib.hid hnl2
  unfold hdV
  obtain ⟨mm, hmm⟩ : ∃ x, (if rev = 0 then 0 else m) = x := ⟨_, rfl⟩
  have X7 := ObjAt.new w1 #[.slice PA np2 c1, .int .i64 hi, .int .i64 hmv, .slice PD nd2 c2, .slice PL nl2 c3] 28
  have X6 := X.alloc (.cells #[.slice PA np2 c1, .int .i64 hi, .int .i64 hmv, .slice PD nd2 c2, .slice PL nl2 c3] 28)
  have KA := HK.out.alloc (by omega) (.cells #[.slice PA np2 c1, .int .i64 hi, .int .i64 hmv, .slice PD nd2 c2, .slice PL nl2 c3] 28)
  have HP := Lib.hid (show HOwn (w1.alloc (.cells #[.slice PA np2 c1, .int .i64 hi, .int .i64 hmv, .slice PD nd2 c2, .slice PL nl2 c3] 28)) (b + 2) PA PD PL c1 c2 c3 h from ⟨HO.out.p.alloc _, HO.out.d.alloc _, HO.out.l.alloc _⟩)
  obtain ⟨x7, hx7⟩ : ∃ x, w1.heap.size = x := ⟨_, rfl⟩
  rw [hx7] at X7 hz
  have HX7 := Lib.hid X7
  have HX6 := Lib.hid X6
  have HKA := Lib.hid KA
  clear hown k1 cC X HO HK X7 X6 KA hnp2 hnd2 hnl2
  go_upto_region 2 with fail
  clear hx7
  generalize w1.alloc (.cells #[.slice PA np2 c1, .int .i64 hi, .int .i64 hmv, .slice PD nd2 c2, .slice PL nl2 c3] 28) = W2 at HX7 HX6 HKA HP ⊢
  have g1 := HX7.out.frozen 1
  have g2 := HX7.out.frozen 2
  have i1 := HX7.out.get (k := 1) (v := .int .i64 hi) rfl
  have i2 := HX7.out.get (k := 2) (v := .int .i64 hmv) rfl
  have Y7 := (HX7.out.set 1 (.int .i64 rev)).set 2 (.int .i64 mm)
  have Y6 := (HX6.out.other (C := x7) (by omega) 1 (.int .i64 rev)).other (C := x7) (by omega) 2 (.int .i64 mm)
  have up := fun {n sz : Nat} {t : TypeId} {v : Value} {xs : List Value} (r : W2.ownsRow (b + 2) t sz v n xs) (ht : (28 : TypeId) ≠ t) => row_setT (HX7.out.set 1 (.int .i64 rev)) (row_setT HX7.out r ht 1 (.int .i64 rev)) ht 2 (.int .i64 mm)
  have HQ := Lib.hid (show HOwn ((W2.setCell ⟨x7, 1, none⟩ (.int .i64 rev)).setCell ⟨x7, 2, none⟩ (.int .i64 mm)) (b + 2) PA PD PL c1 c2 c3 h from ⟨up HP.out.p (by decide), up HP.out.d (by decide), up HP.out.l (by decide)⟩)
  have KB := (HKA.out.setCell (p := ⟨x7, 1, none⟩) (by simp; omega) (.int .i64 rev)).setCell (p := ⟨x7, 2, none⟩) (by simp; omega) (.int .i64 mm)
  have y0 := Y7.get (k := 0) (v := .slice PA np2 c1) (by simp)
  have y1 := Y7.get (k := 1) (v := .int .i64 rev) (by simp)
  have y2 := Y7.get (k := 2) (v := .int .i64 mm) (by simp)
  have y3 := Y7.get (k := 3) (v := .slice PD nd2 c2) (by simp)
  have y4 := Y7.get (k := 4) (v := .slice PL nl2 c3) (by simp)
  have x0 := Y6.get (k := 0) (v := .slice none 0 0) rfl
  have x1 := Y6.get (k := 1) (v := .int .i64 0) rfl
  have x2 := Y6.get (k := 2) (v := .int .i64 0) rfl
  have x3 := Y6.get (k := 3) (v := .slice none 0 0) rfl
  have x4 := Y6.get (k := 4) (v := .slice none 0 0) rfl
  have f0 := Y6.frozen 0
  have f1 := Y6.frozen 1
  have f2 := Y6.frozen 2
  have f3 := Y6.frozen 3
  have f4 := Y6.frozen 4
  have XF := (((((Y6.set 0 (.slice PA np2 c1)).set 1 (.int .i64 rev)).set 2 (.int .i64 mm)).set 3 (.slice PD nd2 c2)).set 4 (.slice PL nl2 c3))
  have YF := Lib.hid ((hown_out (hown_out (hown_out (hown_out (hown_out HQ.out (b := b + 1) (by omega) 0 (.slice PA np2 c1)) (b := b + 1) (by omega) 1 (.int .i64 rev)) (b := b + 1) (by omega) 2 (.int .i64 mm)) (b := b + 1) (by omega) 3 (.slice PD nd2 c2)) (b := b + 1) (by omega) 4 (.slice PL nl2 c3)))
  have KF := Lib.hid ((((((KB.setCell (p := ⟨b + 1, 0, none⟩) (by simp) (.slice PA np2 c1)).setCell (p := ⟨b + 1, 1, none⟩) (by simp) (.int .i64 rev)).setCell (p := ⟨b + 1, 2, none⟩) (by simp) (.int .i64 mm)).setCell (p := ⟨b + 1, 3, none⟩) (by simp) (.slice PD nd2 c2)).setCell (p := ⟨b + 1, 4, none⟩) (by simp) (.slice PL nl2 c3)))
  have q0 := XF.get (k := 0) (v := .slice PA np2 c1) (by simp)
  have q1 := XF.get (k := 1) (v := .int .i64 rev) (by simp)
  have q2 := XF.get (k := 2) (v := .int .i64 mm) (by simp)
  have q3 := XF.get (k := 3) (v := .slice PD nd2 c2) (by simp)
  have q4 := XF.get (k := 4) (v := .slice PL nl2 c3) (by simp)
  have HMM := Lib.hid hmm
  have FIN := Lib.hid (show ∀ W, HOwn W (b + 2) PA PD PL c1 c2 c3 h → Below b w W → HRet b (insertH h rev m) w (.returned (.agg #[.slice PA np2 c1, .int .i64 rev, .int .i64 mm, .slice PD nd2 c2, .slice PL nl2 c3])) W from fun W h1 h2 =>
    ⟨PA, PD, PL, c1, c2, c3, by rw [← HNP.out, ← HND.out, ← HNL.out, ← HMM.out]; rfl, ⟨own_lower h1.p (Nat.le_add_right b 2), own_lower h1.d (Nat.le_add_right b 2), own_lower h1.l (Nat.le_add_right b 2)⟩, by rw [HBB.out]; exact h2⟩)
  clear Y6 Y7 XF up KB
  by_cases hr : rev = 0
  · subst hr
    obtain rfl : 0 = mm := by rw [← hmm]; rfl
    clear hmm
    go_wp2
    exact bodyPost_ret (v := .agg #[.slice PA np2 c1, .int .i64 0, .int .i64 0, .slice PD nd2 c2, .slice PL nl2 c3]) (by simp [results, Try.results33, go_sem, q0, q1, q2, q3, q4]) rfl (FIN.out _ YF.out KF.out)
  · obtain rfl : m = mm := by rw [← hmm, if_neg hr]
    have hrb : (rev == 0) = false := neB hr
    clear hmm hr
    go_wp2
    exact bodyPost_ret (v := .agg #[.slice PA np2 c1, .int .i64 rev, .int .i64 m, .slice PD nd2 c2, .slice PL nl2 c3]) (by simp [results, Try.results33, go_sem, q0, q1, q2, q3, q4]) rfl (FIN.out _ YF.out KF.out)
end Go.Proofs.Ytjhppkjngifibaa
