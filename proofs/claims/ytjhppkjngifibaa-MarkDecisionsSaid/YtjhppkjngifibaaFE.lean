/- Layer 23: the unions of decisions, where one is not valid. -/
import Derived.Test.YtjhppkjngifibaaFD
import Derived.Test.YtjhppkjngifibaaEZ
namespace Go.Proofs.Ytjhppkjngifibaa
open Go.RowKit Go.Lib
set_option linter.unusedVariables false

set_option maxRecDepth 100000 in
set_option maxHeartbeats 8000000 in
theorem union_e1 (la lr la' lr' : List Int) (na nb na' nb' ca cb ca' cb' : Nat) (A B A' B' : Option Addr) (w : World) (e1 : la.length = na) (e2 : lr.length = nb) (e3 : la'.length = na') (e4 : lr'.length = nb') (hA : NsAt w A la) (hB : NsAt w B lr) (hA' : NsAt w A' la') (hB' : NsAt w B' lr')
    (s1 : na ≤ 1000) (s2 : nb ≤ 1000) (s3 : na' ≤ 1000) (s4 : nb' ≤ 1000) (hz : ckD la lr ≠ 0) :
    Calls Try.prog 19 #[.agg #[.slice A na ca, .slice B nb cb], .agg #[.slice A' na' ca', .slice B' nb' cb']] w fun e w' => e = .returned (.tuple #[.agg #[.slice none 0 0, .slice none 0 0], .int .i64 (ckD la lr)]) ∧ Below w.heap.size w w' := by
  have c1 := fun W (hb : Below w.heap.size w W) => checkdec_any la lr na nb e1 e2 s1 s2 A B ca cb W (hA.below hb (Nat.le_refl _)) (hB.below hb (Nat.le_refl _))
  have c2 := fun W (hb : Below w.heap.size w W) => checkdec_any la' lr' na' nb' e3 e4 s3 s4 A' B' ca' cb' W (hA'.below hb (Nat.le_refl _)) (hB'.below hb (Nat.le_refl _))
  have b0 := (((Below.refl w.heap.size w).alloc (Nat.le_refl _) (.cells #[.slice A na ca, .slice B nb cb] 31)).alloc (by simp) (.cells #[.slice A' na' ca', .slice B' nb' cb'] 31)).alloc (by simp; omega) (.cells #[.slice none 0 0, .slice none 0 0] 31)
  have O1 := ((ObjAt.new w #[.slice A na ca, .slice B nb cb] 31).alloc (.cells #[.slice A' na' ca', .slice B' nb' cb'] 31)).alloc (.cells #[.slice none 0 0, .slice none 0 0] 31)
  have O2 := (ObjAt.new (w.alloc (.cells #[.slice A na ca, .slice B nb cb] 31)) #[.slice A' na' ca', .slice B' nb' cb'] 31).alloc (.cells #[.slice none 0 0, .slice none 0 0] 31)
  have O3 := ObjAt.new ((w.alloc (.cells #[.slice A na ca, .slice B nb cb] 31)).alloc (.cells #[.slice A' na' ca', .slice B' nb' cb'] 31)) #[.slice none 0 0, .slice none 0 0] 31
  rw [World.size_alloc] at O2 O3
  rw [World.size_alloc] at O3
  clear e1 e2 e3 e4 hA hB hA' hB'
  obtain ⟨b, hbb⟩ : ∃ b, w.heap.size = b := ⟨_, rfl⟩
  rw [hbb] at b0 O1 O2 O3 c1 c2
  have HBB := Lib.hid hbb
  have KB := Lib.hid b0
  have X2 := Lib.hid O1
  have X3 := Lib.hid O2
  have X4 := Lib.hid O3
  clear b0 O1 O2 O3
  have ez : (ckD la lr != 0) = true := by simpa using hz
  obtain ⟨z, hz0⟩ : ∃ z, ckD la lr = z := ⟨_, rfl⟩
  rw [hz0] at c1 ez
  have HZ := Lib.hid hz0
  clear hz0 hz c2
  go_enter Try.func19, Try.ntmps19
  go_upto_region 1 with fail
  clear hbb
  generalize ((w.alloc (.cells #[.slice A na ca, .slice B nb cb] 31)).alloc (.cells #[.slice A' na' ca', .slice B' nb' cb'] 31)).alloc (.cells #[.slice none 0 0, .slice none 0 0] 31) = W0 at KB X2 X3 X4 ⊢
  have y0 := X2.out.get (k := 0) (v := .slice A na ca) rfl
  have y1 := X2.out.get (k := 1) (v := .slice B nb cb) rfl
  have cc := c1 _ KB.out
  go_wp2_with fail
  (with_reducible refine cc.mono ?_)
  rintro e W1 ⟨rfl, kk⟩
  have zz := X4.out.lt
  replace KB := Lib.hid (KB.out.trans (kk.mono (by omega)))
  replace X2 := Lib.hid (X2.out.below kk)
  replace X3 := Lib.hid (X3.out.below kk)
  replace X4 := Lib.hid (X4.out.below kk)
  clear kk
  clear y0 y1 cc c1
  have z0 := X4.out.get (k := 0) (v := .slice none 0 0) rfl
  have z1 := X4.out.get (k := 1) (v := .slice none 0 0) rfl
  have g0 := X4.out.frozen 0
  have g1 := X4.out.frozen 1
  have XF := (X4.out.set 0 (.slice none 0 0)).set 1 (.slice none 0 0)
  have KF := Lib.hid ((KB.out.setCell (p := ⟨b + 1 + 1, 0, none⟩) (by simp; omega) (.slice none 0 0)).setCell (p := ⟨b + 1 + 1, 1, none⟩) (by simp; omega) (.slice none 0 0))
  have q0 := XF.get (k := 0) (v := .slice none 0 0) (by simp)
  have q1 := XF.get (k := 1) (v := .slice none 0 0) (by simp)
  clear XF
  go_wp2
  exact bodyPost_ret (v := .tuple #[.agg #[.slice none 0 0, .slice none 0 0], .int .i64 z]) (by simp [results, Try.results19, go_sem, q0, q1]) rfl ⟨by rw [HZ.out], by rw [HBB.out]; exact KF.out⟩
set_option maxRecDepth 100000 in
set_option maxHeartbeats 8000000 in
theorem union_e2 (la lr la' lr' : List Int) (na nb na' nb' ca cb ca' cb' : Nat) (A B A' B' : Option Addr) (w : World) (e1 : la.length = na) (e2 : lr.length = nb) (e3 : la'.length = na') (e4 : lr'.length = nb') (hA : NsAt w A la) (hB : NsAt w B lr) (hA' : NsAt w A' la') (hB' : NsAt w B' lr')
    (s1 : na ≤ 1000) (s2 : nb ≤ 1000) (s3 : na' ≤ 1000) (s4 : nb' ≤ 1000) (hf : ckD la lr = 0) (hz : ckD la' lr' ≠ 0) :
    Calls Try.prog 19 #[.agg #[.slice A na ca, .slice B nb cb], .agg #[.slice A' na' ca', .slice B' nb' cb']] w fun e w' => e = .returned (.tuple #[.agg #[.slice none 0 0, .slice none 0 0], .int .i64 (ckD la' lr')]) ∧ Below w.heap.size w w' := by
  have c1 := fun W (hb : Below w.heap.size w W) => checkdec_any la lr na nb e1 e2 s1 s2 A B ca cb W (hA.below hb (Nat.le_refl _)) (hB.below hb (Nat.le_refl _))
  have c2 := fun W (hb : Below w.heap.size w W) => checkdec_any la' lr' na' nb' e3 e4 s3 s4 A' B' ca' cb' W (hA'.below hb (Nat.le_refl _)) (hB'.below hb (Nat.le_refl _))
  have b0 := (((Below.refl w.heap.size w).alloc (Nat.le_refl _) (.cells #[.slice A na ca, .slice B nb cb] 31)).alloc (by simp) (.cells #[.slice A' na' ca', .slice B' nb' cb'] 31)).alloc (by simp; omega) (.cells #[.slice none 0 0, .slice none 0 0] 31)
  have O1 := ((ObjAt.new w #[.slice A na ca, .slice B nb cb] 31).alloc (.cells #[.slice A' na' ca', .slice B' nb' cb'] 31)).alloc (.cells #[.slice none 0 0, .slice none 0 0] 31)
  have O2 := (ObjAt.new (w.alloc (.cells #[.slice A na ca, .slice B nb cb] 31)) #[.slice A' na' ca', .slice B' nb' cb'] 31).alloc (.cells #[.slice none 0 0, .slice none 0 0] 31)
  have O3 := ObjAt.new ((w.alloc (.cells #[.slice A na ca, .slice B nb cb] 31)).alloc (.cells #[.slice A' na' ca', .slice B' nb' cb'] 31)) #[.slice none 0 0, .slice none 0 0] 31
  rw [World.size_alloc] at O2 O3
  rw [World.size_alloc] at O3
  clear e1 e2 e3 e4 hA hB hA' hB'
  obtain ⟨b, hbb⟩ : ∃ b, w.heap.size = b := ⟨_, rfl⟩
  rw [hbb] at b0 O1 O2 O3 c1 c2
  have HBB := Lib.hid hbb
  have KB := Lib.hid b0
  have X2 := Lib.hid O1
  have X3 := Lib.hid O2
  have X4 := Lib.hid O3
  clear b0 O1 O2 O3
  have ez : (ckD la' lr' != 0) = true := by simpa using hz
  obtain ⟨z, hz0⟩ : ∃ z, ckD la' lr' = z := ⟨_, rfl⟩
  rw [hz0] at c2 ez
  rw [hf] at c1
  have HZ := Lib.hid hz0
  clear hz0 hz hf
  go_enter Try.func19, Try.ntmps19
  go_upto_region 1 with fail
  clear hbb
  generalize ((w.alloc (.cells #[.slice A na ca, .slice B nb cb] 31)).alloc (.cells #[.slice A' na' ca', .slice B' nb' cb'] 31)).alloc (.cells #[.slice none 0 0, .slice none 0 0] 31) = W0 at KB X2 X3 X4 ⊢
  have y0 := X2.out.get (k := 0) (v := .slice A na ca) rfl
  have y1 := X2.out.get (k := 1) (v := .slice B nb cb) rfl
  have cc := c1 _ KB.out
  go_wp2_with fail
  (with_reducible refine cc.mono ?_)
  rintro e W1 ⟨rfl, kk⟩
  have zz := X4.out.lt
  replace KB := Lib.hid (KB.out.trans (kk.mono (by omega)))
  replace X2 := Lib.hid (X2.out.below kk)
  replace X3 := Lib.hid (X3.out.below kk)
  replace X4 := Lib.hid (X4.out.below kk)
  clear kk
  clear y0 y1 cc c1
  have y0 := X3.out.get (k := 0) (v := .slice A' na' ca') rfl
  have y1 := X3.out.get (k := 1) (v := .slice B' nb' cb') rfl
  have cc := c2 _ KB.out
  go_wp2_with fail
  (with_reducible refine cc.mono ?_)
  rintro e W2 ⟨rfl, kk⟩
  have zz := X4.out.lt
  replace KB := Lib.hid (KB.out.trans (kk.mono (by omega)))
  replace X2 := Lib.hid (X2.out.below kk)
  replace X3 := Lib.hid (X3.out.below kk)
  replace X4 := Lib.hid (X4.out.below kk)
  clear kk
  clear y0 y1 cc c2
  have z0 := X4.out.get (k := 0) (v := .slice none 0 0) rfl
  have z1 := X4.out.get (k := 1) (v := .slice none 0 0) rfl
  have g0 := X4.out.frozen 0
  have g1 := X4.out.frozen 1
  have XF := (X4.out.set 0 (.slice none 0 0)).set 1 (.slice none 0 0)
  have KF := Lib.hid ((KB.out.setCell (p := ⟨b + 1 + 1, 0, none⟩) (by simp; omega) (.slice none 0 0)).setCell (p := ⟨b + 1 + 1, 1, none⟩) (by simp; omega) (.slice none 0 0))
  have q0 := XF.get (k := 0) (v := .slice none 0 0) (by simp)
  have q1 := XF.get (k := 1) (v := .slice none 0 0) (by simp)
  clear XF
  go_wp2
  exact bodyPost_ret (v := .tuple #[.agg #[.slice none 0 0, .slice none 0 0], .int .i64 z]) (by simp [results, Try.results19, go_sem, q0, q1]) rfl ⟨by rw [HZ.out], by rw [HBB.out]; exact KF.out⟩
set_option maxRecDepth 100000 in
set_option maxHeartbeats 8000000 in
theorem runion_e1 (la lr la' lr' : List Int) (na nb na' nb' ca cb ca' cb' : Nat) (A B A' B' : Option Addr) (w : World) (e1 : la.length = na) (e2 : lr.length = nb) (e3 : la'.length = na') (e4 : lr'.length = nb') (hA : NsAt w A la) (hB : NsAt w B lr) (hA' : NsAt w A' la') (hB' : NsAt w B' lr')
    (s1 : na ≤ 1000) (s2 : nb ≤ 1000) (s3 : na' ≤ 1000) (s4 : nb' ≤ 1000) (hz : ckD la lr ≠ 0) :
    Calls Try.prog 43 #[.agg #[.slice A na ca, .slice B nb cb], .agg #[.slice A' na' ca', .slice B' nb' cb']] w fun e w' => e = .returned (.tuple #[.agg #[.slice none 0 0, .slice none 0 0], .int .i64 (ckD la lr)]) ∧ Below w.heap.size w w' := by
  have c1 := fun W (hb : Below w.heap.size w W) => check_any la lr na nb ca cb A B W (hA.below hb (Nat.le_refl _)) (hB.below hb (Nat.le_refl _)) e1 e2 s1 s2
  have c2 := fun W (hb : Below w.heap.size w W) => check_any la' lr' na' nb' ca' cb' A' B' W (hA'.below hb (Nat.le_refl _)) (hB'.below hb (Nat.le_refl _)) e3 e4 s3 s4
  have b0 := (((Below.refl w.heap.size w).alloc (Nat.le_refl _) (.cells #[.slice A na ca, .slice B nb cb] 31)).alloc (by simp) (.cells #[.slice A' na' ca', .slice B' nb' cb'] 31)).alloc (by simp; omega) (.cells #[.slice none 0 0, .slice none 0 0] 31)
  have O1 := ((ObjAt.new w #[.slice A na ca, .slice B nb cb] 31).alloc (.cells #[.slice A' na' ca', .slice B' nb' cb'] 31)).alloc (.cells #[.slice none 0 0, .slice none 0 0] 31)
  have O2 := (ObjAt.new (w.alloc (.cells #[.slice A na ca, .slice B nb cb] 31)) #[.slice A' na' ca', .slice B' nb' cb'] 31).alloc (.cells #[.slice none 0 0, .slice none 0 0] 31)
  have O3 := ObjAt.new ((w.alloc (.cells #[.slice A na ca, .slice B nb cb] 31)).alloc (.cells #[.slice A' na' ca', .slice B' nb' cb'] 31)) #[.slice none 0 0, .slice none 0 0] 31
  rw [World.size_alloc] at O2 O3
  rw [World.size_alloc] at O3
  clear e1 e2 e3 e4 hA hB hA' hB'
  obtain ⟨b, hbb⟩ : ∃ b, w.heap.size = b := ⟨_, rfl⟩
  rw [hbb] at b0 O1 O2 O3 c1 c2
  have HBB := Lib.hid hbb
  have KB := Lib.hid b0
  have X2 := Lib.hid O1
  have X3 := Lib.hid O2
  have X4 := Lib.hid O3
  clear b0 O1 O2 O3
  have ez : (ckD la lr != 0) = true := by simpa using hz
  obtain ⟨z, hz0⟩ : ∃ z, ckD la lr = z := ⟨_, rfl⟩
  rw [hz0] at c1 ez
  have HZ := Lib.hid hz0
  clear hz0 hz c2
  go_enter Try.func43, Try.ntmps43
  go_upto_region 1 with fail
  clear hbb
  generalize ((w.alloc (.cells #[.slice A na ca, .slice B nb cb] 31)).alloc (.cells #[.slice A' na' ca', .slice B' nb' cb'] 31)).alloc (.cells #[.slice none 0 0, .slice none 0 0] 31) = W0 at KB X2 X3 X4 ⊢
  have y0 := X2.out.get (k := 0) (v := .slice A na ca) rfl
  have y1 := X2.out.get (k := 1) (v := .slice B nb cb) rfl
  have cc := c1 _ KB.out
  go_wp2_with fail
  (with_reducible refine cc.mono ?_)
  rintro e W1 ⟨rfl, kk⟩
  have zz := X4.out.lt
  replace KB := Lib.hid (KB.out.trans (kk.mono (by omega)))
  replace X2 := Lib.hid (X2.out.below kk)
  replace X3 := Lib.hid (X3.out.below kk)
  replace X4 := Lib.hid (X4.out.below kk)
  clear kk
  clear y0 y1 cc c1
  have z0 := X4.out.get (k := 0) (v := .slice none 0 0) rfl
  have z1 := X4.out.get (k := 1) (v := .slice none 0 0) rfl
  have g0 := X4.out.frozen 0
  have g1 := X4.out.frozen 1
  have XF := (X4.out.set 0 (.slice none 0 0)).set 1 (.slice none 0 0)
  have KF := Lib.hid ((KB.out.setCell (p := ⟨b + 1 + 1, 0, none⟩) (by simp; omega) (.slice none 0 0)).setCell (p := ⟨b + 1 + 1, 1, none⟩) (by simp; omega) (.slice none 0 0))
  have q0 := XF.get (k := 0) (v := .slice none 0 0) (by simp)
  have q1 := XF.get (k := 1) (v := .slice none 0 0) (by simp)
  clear XF
  go_wp2
  exact bodyPost_ret (v := .tuple #[.agg #[.slice none 0 0, .slice none 0 0], .int .i64 z]) (by simp [results, Try.results43, go_sem, q0, q1]) rfl ⟨by rw [HZ.out], by rw [HBB.out]; exact KF.out⟩
set_option maxRecDepth 100000 in
set_option maxHeartbeats 8000000 in
theorem runion_e2 (la lr la' lr' : List Int) (na nb na' nb' ca cb ca' cb' : Nat) (A B A' B' : Option Addr) (w : World) (e1 : la.length = na) (e2 : lr.length = nb) (e3 : la'.length = na') (e4 : lr'.length = nb') (hA : NsAt w A la) (hB : NsAt w B lr) (hA' : NsAt w A' la') (hB' : NsAt w B' lr')
    (s1 : na ≤ 1000) (s2 : nb ≤ 1000) (s3 : na' ≤ 1000) (s4 : nb' ≤ 1000) (hf : ckD la lr = 0) (hz : ckD la' lr' ≠ 0) :
    Calls Try.prog 43 #[.agg #[.slice A na ca, .slice B nb cb], .agg #[.slice A' na' ca', .slice B' nb' cb']] w fun e w' => e = .returned (.tuple #[.agg #[.slice none 0 0, .slice none 0 0], .int .i64 (ckD la' lr')]) ∧ Below w.heap.size w w' := by
  have c1 := fun W (hb : Below w.heap.size w W) => check_any la lr na nb ca cb A B W (hA.below hb (Nat.le_refl _)) (hB.below hb (Nat.le_refl _)) e1 e2 s1 s2
  have c2 := fun W (hb : Below w.heap.size w W) => check_any la' lr' na' nb' ca' cb' A' B' W (hA'.below hb (Nat.le_refl _)) (hB'.below hb (Nat.le_refl _)) e3 e4 s3 s4
  have b0 := (((Below.refl w.heap.size w).alloc (Nat.le_refl _) (.cells #[.slice A na ca, .slice B nb cb] 31)).alloc (by simp) (.cells #[.slice A' na' ca', .slice B' nb' cb'] 31)).alloc (by simp; omega) (.cells #[.slice none 0 0, .slice none 0 0] 31)
  have O1 := ((ObjAt.new w #[.slice A na ca, .slice B nb cb] 31).alloc (.cells #[.slice A' na' ca', .slice B' nb' cb'] 31)).alloc (.cells #[.slice none 0 0, .slice none 0 0] 31)
  have O2 := (ObjAt.new (w.alloc (.cells #[.slice A na ca, .slice B nb cb] 31)) #[.slice A' na' ca', .slice B' nb' cb'] 31).alloc (.cells #[.slice none 0 0, .slice none 0 0] 31)
  have O3 := ObjAt.new ((w.alloc (.cells #[.slice A na ca, .slice B nb cb] 31)).alloc (.cells #[.slice A' na' ca', .slice B' nb' cb'] 31)) #[.slice none 0 0, .slice none 0 0] 31
  rw [World.size_alloc] at O2 O3
  rw [World.size_alloc] at O3
  clear e1 e2 e3 e4 hA hB hA' hB'
  obtain ⟨b, hbb⟩ : ∃ b, w.heap.size = b := ⟨_, rfl⟩
  rw [hbb] at b0 O1 O2 O3 c1 c2
  have HBB := Lib.hid hbb
  have KB := Lib.hid b0
  have X2 := Lib.hid O1
  have X3 := Lib.hid O2
  have X4 := Lib.hid O3
  clear b0 O1 O2 O3
  have ez : (ckD la' lr' != 0) = true := by simpa using hz
  obtain ⟨z, hz0⟩ : ∃ z, ckD la' lr' = z := ⟨_, rfl⟩
  rw [hz0] at c2 ez
  rw [hf] at c1
  have HZ := Lib.hid hz0
  clear hz0 hz hf
  go_enter Try.func43, Try.ntmps43
  go_upto_region 1 with fail
  clear hbb
  generalize ((w.alloc (.cells #[.slice A na ca, .slice B nb cb] 31)).alloc (.cells #[.slice A' na' ca', .slice B' nb' cb'] 31)).alloc (.cells #[.slice none 0 0, .slice none 0 0] 31) = W0 at KB X2 X3 X4 ⊢
  have y0 := X2.out.get (k := 0) (v := .slice A na ca) rfl
  have y1 := X2.out.get (k := 1) (v := .slice B nb cb) rfl
  have cc := c1 _ KB.out
  go_wp2_with fail
  (with_reducible refine cc.mono ?_)
  rintro e W1 ⟨rfl, kk⟩
  have zz := X4.out.lt
  replace KB := Lib.hid (KB.out.trans (kk.mono (by omega)))
  replace X2 := Lib.hid (X2.out.below kk)
  replace X3 := Lib.hid (X3.out.below kk)
  replace X4 := Lib.hid (X4.out.below kk)
  clear kk
  clear y0 y1 cc c1
  have y0 := X3.out.get (k := 0) (v := .slice A' na' ca') rfl
  have y1 := X3.out.get (k := 1) (v := .slice B' nb' cb') rfl
  have cc := c2 _ KB.out
  go_wp2_with fail
  (with_reducible refine cc.mono ?_)
  rintro e W2 ⟨rfl, kk⟩
  have zz := X4.out.lt
  replace KB := Lib.hid (KB.out.trans (kk.mono (by omega)))
  replace X2 := Lib.hid (X2.out.below kk)
  replace X3 := Lib.hid (X3.out.below kk)
  replace X4 := Lib.hid (X4.out.below kk)
  clear kk
  clear y0 y1 cc c2
  have z0 := X4.out.get (k := 0) (v := .slice none 0 0) rfl
  have z1 := X4.out.get (k := 1) (v := .slice none 0 0) rfl
  have g0 := X4.out.frozen 0
  have g1 := X4.out.frozen 1
  have XF := (X4.out.set 0 (.slice none 0 0)).set 1 (.slice none 0 0)
  have KF := Lib.hid ((KB.out.setCell (p := ⟨b + 1 + 1, 0, none⟩) (by simp; omega) (.slice none 0 0)).setCell (p := ⟨b + 1 + 1, 1, none⟩) (by simp; omega) (.slice none 0 0))
  have q0 := XF.get (k := 0) (v := .slice none 0 0) (by simp)
  have q1 := XF.get (k := 1) (v := .slice none 0 0) (by simp)
  clear XF
  go_wp2
  exact bodyPost_ret (v := .tuple #[.agg #[.slice none 0 0, .slice none 0 0], .int .i64 z]) (by simp [results, Try.results43, go_sem, q0, q1]) rfl ⟨by rw [HZ.out], by rw [HBB.out]; exact KF.out⟩
end Go.Proofs.Ytjhppkjngifibaa
