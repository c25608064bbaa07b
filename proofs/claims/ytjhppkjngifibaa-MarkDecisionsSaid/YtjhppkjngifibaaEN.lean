/- Layer 23: isIn; Original, Final. -/
import Derived.Test.YtjhppkjngifibaaEM
namespace Go.Proofs.Ytjhppkjngifibaa
open Go.RowKit Go.Lib
set_option linter.unusedVariables false

theorem isin47_any (A : Option Addr) (n c : Nat) (w : World) :
    Calls Try.prog 47 #[.slice A n c] w fun e w' => e = .returned (.func (.func 78) #[] #[.pointer (some ⟨w.heap.size, 0, none⟩)]) ∧ w' = w.alloc (.cells #[.slice A n c] 29) := by
  go_enter Try.func47, Try.ntmps47
  go_wp2
  go_ret
  exact ⟨rfl, rfl⟩
theorem hown_out {w : World} {base b : Nat} {A B C : Option Addr} {cp cd cl : Nat} {h : Hd} (x : HOwn w base A B C cp cd cl h) (hb : b < base) (i : Nat) (u : Value) : HOwn (w.setCell ⟨b, i, none⟩ u) base A B C cp cd cl h :=
  ⟨row_setO x.p hb i u, row_setO x.d hb i u, row_setO x.l hb i u⟩
theorem hown_lower {w : World} {base b : Nat} {A B C : Option Addr} {cp cd cl : Nat} {h : Hd} (x : HOwn w base A B C cp cd cl h) (hb : b ≤ base) : HOwn w b A B C cp cd cl h := ⟨own_lower x.p hb, own_lower x.d hb, own_lower x.l hb⟩
theorem HOwn.val {w : World} {base : Nat} {A B C : Option Addr} {cp cd cl : Nat} {h : Hd} (x : HOwn w base A B C cp cd cl h) : HVal w (hdV A B C h.props.length cp h.dels.length cd h.lays.length cl h.ins h.move) h := ⟨A, B, C, _, _, _, _, _, _, rfl, x.at⟩
set_option maxRecDepth 100000 in
set_option maxHeartbeats 8000000 in
theorem original_any (h : Hd) (ho : Ord h) (hm : Mod h) (hpl : h.props.length + h.lays.length ≤ 900) (A B C : Option Addr) (np cp nd cd nl cl : Nat) (w : World) (hA : HAt w A B C np cp nd cd nl cl h) :
    Calls Try.prog 24 #[hdV A B C np cp nd cd nl cl h.ins h.move] w (DRet (fun _ => false) (fun _ => true) h w) := by
  obtain ⟨hi, hhi⟩ : ∃ x, h.ins = x := ⟨_, rfl⟩
  obtain ⟨hmv, hhm⟩ : ∃ x, h.move = x := ⟨_, rfl⟩
  have b0 := ((Below.refl w.heap.size w).alloc (Nat.le_refl _) (.cells #[.slice A np cp, .int .i64 hi, .int .i64 hmv, .slice B nd cd, .slice C nl cl] 28)).alloc (by simp) (.cells #[.slice none 0 0, .int .i64 0, .int .i64 0, .slice none 0 0, .slice none 0 0] 28)
  have O2 := ObjAt.new (w.alloc (.cells #[.slice A np cp, .int .i64 hi, .int .i64 hmv, .slice B nd cd, .slice C nl cl] 28)) #[.slice none 0 0, .int .i64 0, .int .i64 0, .slice none 0 0, .slice none 0 0] 28
  rw [World.size_alloc] at O2
  have s0 := b0.size
  have cD := decide_any h ho hm hpl 60 61 #[] #[] (fun _ => false) (fun _ => true) A B C np cp nd cd nl cl _ (hA.below b0 (Nat.le_refl _)) (test_never _ _) (test_always _ _)
  unfold hdV at cD ⊢
  rw [hhi, hhm] at cD ⊢
  have HB := Lib.hid b0
  have H2 := Lib.hid O2
  unfold DRet at cD ⊢
  generalize goneH (fun _ => false) (fun _ => true) h = gn at cD ⊢
  generalize (if gn = true then (⟨[], 0, 0, [], []⟩ : Hd) else keptH (fun _ => false) (fun _ => true) h) = res at cD ⊢
  clear b0 O2 hA ho hm hpl hhi hhm
  obtain ⟨b, hbb⟩ : ∃ b, w.heap.size = b := ⟨_, rfl⟩
  rw [hbb] at HB H2 s0 ⊢
  go_enter Try.func24, Try.ntmps24
  go_wp2_with fail
  refine cD.mono ?_
  rintro e w1 ⟨r, A1, B1, C1, c1, c2, c3, hres, rfl, hown, k1⟩
  unfold hdV
  have HR := Lib.hid hres
  have X := H2.out.below k1
  have hz : b + 2 ≤ w1.heap.size := by have := X.lt; omega
  have HO := Lib.hid (hown_lower (b := b + 2) hown (by simp [hbb]))
  clear hres hown cD
  have HK := Lib.hid (HB.out.trans (k1.mono s0))
  clear k1
  have x0 := X.get (k := 0) (v := .slice none 0 0) rfl
  have x1 := X.get (k := 1) (v := .int .i64 0) rfl
  have x2 := X.get (k := 2) (v := .int .i64 0) rfl
  have x3 := X.get (k := 3) (v := .slice none 0 0) rfl
  have x4 := X.get (k := 4) (v := .slice none 0 0) rfl
  have f0 := X.frozen 0
  have f1 := X.frozen 1
  have f2 := X.frozen 2
  have f3 := X.frozen 3
  have f4 := X.frozen 4
  have XF := (((((X.set 0 (.slice A1 r.props.length c1)).set 1 (.int .i64 r.ins)).set 2 (.int .i64 r.move)).set 3 (.slice B1 r.dels.length c2)).set 4 (.slice C1 r.lays.length c3))
  have YF := Lib.hid ((hown_out (hown_out (hown_out (hown_out (hown_out HO.out (b := b + 1) (by omega) 0 (.slice A1 r.props.length c1)) (b := b + 1) (by omega) 1 (.int .i64 r.ins)) (b := b + 1) (by omega) 2 (.int .i64 r.move)) (b := b + 1) (by omega) 3 (.slice B1 r.dels.length c2)) (b := b + 1) (by omega) 4 (.slice C1 r.lays.length c3)))
  have KF := Lib.hid ((((((HK.out.setCell (p := ⟨b + 1, 0, none⟩) (by simp) (.slice A1 r.props.length c1)).setCell (p := ⟨b + 1, 1, none⟩) (by simp) (.int .i64 r.ins)).setCell (p := ⟨b + 1, 2, none⟩) (by simp) (.int .i64 r.move)).setCell (p := ⟨b + 1, 3, none⟩) (by simp) (.slice B1 r.dels.length c2)).setCell (p := ⟨b + 1, 4, none⟩) (by simp) (.slice C1 r.lays.length c3)))
  have q0 := XF.get (k := 0) (v := .slice A1 r.props.length c1) (by simp)
  have q1 := XF.get (k := 1) (v := .int .i64 r.ins) (by simp)
  have q2 := XF.get (k := 2) (v := .int .i64 r.move) (by simp)
  have q3 := XF.get (k := 3) (v := .slice B1 r.dels.length c2) (by simp)
  have q4 := XF.get (k := 4) (v := .slice C1 r.lays.length c3) (by simp)
  clear XF X
  go_wp2
  exact bodyPost_ret (v := .tuple #[.agg #[.slice A1 r.props.length c1, .int .i64 r.ins, .int .i64 r.move, .slice B1 r.dels.length c2, .slice C1 r.lays.length c3], .bool (!gn)]) (by simp [results, Try.results24, go_sem, q0, q1, q2, q3, q4]) rfl ⟨r, A1, B1, C1, c1, c2, c3, HR.out, rfl, hown_lower YF.out (by omega), KF.out⟩
set_option maxRecDepth 100000 in
set_option maxHeartbeats 8000000 in
theorem final_any (h : Hd) (ho : Ord h) (hm : Mod h) (hpl : h.props.length + h.lays.length ≤ 900) (A B C : Option Addr) (np cp nd cd nl cl : Nat) (w : World) (hA : HAt w A B C np cp nd cd nl cl h) :
    Calls Try.prog 25 #[hdV A B C np cp nd cd nl cl h.ins h.move] w (DRet (fun _ => true) (fun _ => false) h w) := by
  obtain ⟨hi, hhi⟩ : ∃ x, h.ins = x := ⟨_, rfl⟩
  obtain ⟨hmv, hhm⟩ : ∃ x, h.move = x := ⟨_, rfl⟩
  have b0 := ((Below.refl w.heap.size w).alloc (Nat.le_refl _) (.cells #[.slice A np cp, .int .i64 hi, .int .i64 hmv, .slice B nd cd, .slice C nl cl] 28)).alloc (by simp) (.cells #[.slice none 0 0, .int .i64 0, .int .i64 0, .slice none 0 0, .slice none 0 0] 28)
  have O2 := ObjAt.new (w.alloc (.cells #[.slice A np cp, .int .i64 hi, .int .i64 hmv, .slice B nd cd, .slice C nl cl] 28)) #[.slice none 0 0, .int .i64 0, .int .i64 0, .slice none 0 0, .slice none 0 0] 28
  rw [World.size_alloc] at O2
  have s0 := b0.size
  have cD := decide_any h ho hm hpl 61 60 #[] #[] (fun _ => true) (fun _ => false) A B C np cp nd cd nl cl _ (hA.below b0 (Nat.le_refl _)) (test_always _ _) (test_never _ _)
  unfold hdV at cD ⊢
  rw [hhi, hhm] at cD ⊢
  have HB := Lib.hid b0
  have H2 := Lib.hid O2
  unfold DRet at cD ⊢
  generalize goneH (fun _ => true) (fun _ => false) h = gn at cD ⊢
  generalize (if gn = true then (⟨[], 0, 0, [], []⟩ : Hd) else keptH (fun _ => true) (fun _ => false) h) = res at cD ⊢
  clear b0 O2 hA ho hm hpl hhi hhm
  obtain ⟨b, hbb⟩ : ∃ b, w.heap.size = b := ⟨_, rfl⟩
  rw [hbb] at HB H2 s0 ⊢
  go_enter Try.func25, Try.ntmps25
  go_wp2_with fail
  refine cD.mono ?_
  rintro e w1 ⟨r, A1, B1, C1, c1, c2, c3, hres, rfl, hown, k1⟩
  unfold hdV
  have HR := Lib.hid hres
  have X := H2.out.below k1
  have hz : b + 2 ≤ w1.heap.size := by have := X.lt; omega
  have HO := Lib.hid (hown_lower (b := b + 2) hown (by simp [hbb]))
  clear hres hown cD
  have HK := Lib.hid (HB.out.trans (k1.mono s0))
  clear k1
  have x0 := X.get (k := 0) (v := .slice none 0 0) rfl
  have x1 := X.get (k := 1) (v := .int .i64 0) rfl
  have x2 := X.get (k := 2) (v := .int .i64 0) rfl
  have x3 := X.get (k := 3) (v := .slice none 0 0) rfl
  have x4 := X.get (k := 4) (v := .slice none 0 0) rfl
  have f0 := X.frozen 0
  have f1 := X.frozen 1
  have f2 := X.frozen 2
  have f3 := X.frozen 3
  have f4 := X.frozen 4
  have XF := (((((X.set 0 (.slice A1 r.props.length c1)).set 1 (.int .i64 r.ins)).set 2 (.int .i64 r.move)).set 3 (.slice B1 r.dels.length c2)).set 4 (.slice C1 r.lays.length c3))
  have YF := Lib.hid ((hown_out (hown_out (hown_out (hown_out (hown_out HO.out (b := b + 1) (by omega) 0 (.slice A1 r.props.length c1)) (b := b + 1) (by omega) 1 (.int .i64 r.ins)) (b := b + 1) (by omega) 2 (.int .i64 r.move)) (b := b + 1) (by omega) 3 (.slice B1 r.dels.length c2)) (b := b + 1) (by omega) 4 (.slice C1 r.lays.length c3)))
  have KF := Lib.hid ((((((HK.out.setCell (p := ⟨b + 1, 0, none⟩) (by simp) (.slice A1 r.props.length c1)).setCell (p := ⟨b + 1, 1, none⟩) (by simp) (.int .i64 r.ins)).setCell (p := ⟨b + 1, 2, none⟩) (by simp) (.int .i64 r.move)).setCell (p := ⟨b + 1, 3, none⟩) (by simp) (.slice B1 r.dels.length c2)).setCell (p := ⟨b + 1, 4, none⟩) (by simp) (.slice C1 r.lays.length c3)))
  have q0 := XF.get (k := 0) (v := .slice A1 r.props.length c1) (by simp)
  have q1 := XF.get (k := 1) (v := .int .i64 r.ins) (by simp)
  have q2 := XF.get (k := 2) (v := .int .i64 r.move) (by simp)
  have q3 := XF.get (k := 3) (v := .slice B1 r.dels.length c2) (by simp)
  have q4 := XF.get (k := 4) (v := .slice C1 r.lays.length c3) (by simp)
  clear XF X
  go_wp2
  exact bodyPost_ret (v := .tuple #[.agg #[.slice A1 r.props.length c1, .int .i64 r.ins, .int .i64 r.move, .slice B1 r.dels.length c2, .slice C1 r.lays.length c3], .bool (!gn)]) (by simp [results, Try.results25, go_sem, q0, q1, q2, q3, q4]) rfl ⟨r, A1, B1, C1, c1, c2, c3, HR.out, rfl, hown_lower YF.out (by omega), KF.out⟩
end Go.Proofs.Ytjhppkjngifibaa
