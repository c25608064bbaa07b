/- Layer 8: Text (31) and Para (30) on all ways. -/
import Derived.Test.YtbkpokipibgdfaaTS
namespace Go.Proofs.Ytbkpokipibgdfaa
open Go.RowKit Go.Lib Go.Maps
set_option linter.unusedVariables false

/-- Properties and an error that a call hands back. -/
def OutE (o : List Pr) (E : Int) (w : World) (e : Ending) (w' : World) : Prop :=
  (∃ B k cb, o.length = k ∧ e = .returned (.tuple #[.slice B k cb, .int .i64 E]) ∧ w'.ownsRow w.heap.size 55 2 (.slice B k cb) k (rowP o)) ∧ Below w.heap.size w w'
theorem OutE.none {w : World} {E : Int} {e : Ending} {w' : World} (h : e = .returned (.tuple #[.slice none 0 0, .int .i64 E]) ∧ Below w.heap.size w w') : OutE [] E w e w' :=
  ⟨⟨_, 0, 0, rfl, h.1, World.ownsRow_nil _ _ _ _⟩, h.2⟩
set_option maxRecDepth 100000 in
set_option maxHeartbeats 16000000 in
theorem text_e1 (l : List St) (hok : LsOk l) (hnm : NmsOk l) (hps : PrsOk l) (A : Option Addr) (m d : Nat) (hm : l.length = m) (hs : m ≤ 1000) (pl ol : List Pr) (C D : Option Addr) (n1 c1 n2 c2 : Nat) (hn1 : pl.length = n1) (hn2 : ol.length = n2) (hc1 : n1 ≤ c1 ∧ c1 ≤ maxLen) (hc2 : n2 ≤ c2 ∧ c2 ≤ maxLen) (h1 : n1 ≤ 1000) (h2 : n2 ≤ 1000)
    (hp1 : ∀ y ∈ pl, I64 y.1 ∧ I64 y.2) (hp2 : ∀ y ∈ ol, I64 y.1 ∧ I64 y.2) (hbad : chkA l ≠ 0)
    (w : World) (hA : LsAt w A l) (hC : PrAt w C pl) (hD : PrAt w D ol) :
    Calls Try.prog 31 #[.slice A m d, .slice C n1 c1, .slice D n2 c2] w fun e w' => e = .returned (.tuple #[.slice none 0 0, .int .i64 (chkA l)]) ∧ Below w.heap.size w w' := by
  have cO := open_any l hok hnm A m d hm hs w hA
  have C1 := Lib.hid (fun w' (hb : Below w.heap.size w w') => check_in 2 C n1 c1 pl hn1 hc1 (by omega) w' (hC.below hb (Nat.le_refl _)))
  have C2 := Lib.hid (fun w' (hb : Below w.heap.size w w') => check_in 1 D n2 c2 ol hn2 hc2 (by omega) w' (hD.below hb (Nat.le_refl _)))
  have HC := Lib.hid hC
  have HN1 := Lib.hid hn1
  clear hA hC hok hnm hps hp1 hD hp2
  go_enter Try.func31, Try.ntmps31
  go_wp2_with fail
  (with_reducible refine cO.mono ?_)
  rintro e w1 ⟨⟨v, b, rfl, g1, g2⟩, k1⟩
  have hv := g2 hbad
  subst hv
  obtain ⟨E, hE⟩ : ∃ E, chkA l = E := ⟨_, rfl⟩
  rw [hE] at hbad
  rw [hE]
  have HE := Lib.hid hE
  have e1 : (E != 0) = true := by simpa using hbad
  have B1 := Lib.hid (k1.alloc k1.size (.cells #[.slice none 0 0, .map none] 73))
  clear hbad g1 g2 cO k1 hE
  go_wp2
  go_ret2
  exact ⟨by rw [HE.out]; rfl, B1.out⟩
set_option maxRecDepth 100000 in
set_option maxHeartbeats 16000000 in
theorem text_e2 (l : List St) (hok : LsOk l) (hnm : NmsOk l) (hps : PrsOk l) (A : Option Addr) (m d : Nat) (hm : l.length = m) (hs : m ≤ 1000) (pl ol : List Pr) (C D : Option Addr) (n1 c1 n2 c2 : Nat) (hn1 : pl.length = n1) (hn2 : ol.length = n2) (hc1 : n1 ≤ c1 ∧ c1 ≤ maxLen) (hc2 : n2 ≤ c2 ∧ c2 ≤ maxLen) (h1 : n1 ≤ 1000) (h2 : n2 ≤ 1000)
    (hp1 : ∀ y ∈ pl, I64 y.1 ∧ I64 y.2) (hp2 : ∀ y ∈ ol, I64 y.1 ∧ I64 y.2) (h0 : chkA l = 0) (hbad : chkP 2 pl ≠ 0)
    (w : World) (hA : LsAt w A l) (hC : PrAt w C pl) (hD : PrAt w D ol) :
    Calls Try.prog 31 #[.slice A m d, .slice C n1 c1, .slice D n2 c2] w fun e w' => e = .returned (.tuple #[.slice none 0 0, .int .i64 (chkP 2 pl)]) ∧ Below w.heap.size w w' := by
  have cO := open_any l hok hnm A m d hm hs w hA
  have C1 := Lib.hid (fun w' (hb : Below w.heap.size w w') => check_in 2 C n1 c1 pl hn1 hc1 (by omega) w' (hC.below hb (Nat.le_refl _)))
  have C2 := Lib.hid (fun w' (hb : Below w.heap.size w w') => check_in 1 D n2 c2 ol hn2 hc2 (by omega) w' (hD.below hb (Nat.le_refl _)))
  have HC := Lib.hid hC
  have HN1 := Lib.hid hn1
  clear hA hC hok hnm hps hp1 hD hp2
  go_enter Try.func31, Try.ntmps31
  go_wp2_with fail
  (with_reducible refine cO.mono ?_)
  rintro e w1 ⟨⟨v, b, rfl, g1, g2⟩, k1⟩
  obtain ⟨rfl, hsh⟩ := g1 h0
  rw [h0]
  have kn := (Below.refl w1.heap.size w1).alloc (Nat.le_refl _) (.cells #[.slice A m d, .map (some b)] 73)
  have SH := Lib.hid (hsh.below kn)
  have O2 := Lib.hid (ObjAt.new w1 #[.slice A m d, .map (some b)] 73)
  have K2 := Lib.hid (k1.alloc k1.size (.cells #[.slice A m d, .map (some b)] 73))
  have s2 := K2.out.size
  have cc := C1.out _ K2.out
  clear cO g1 g2 hsh kn k1 h0
  obtain ⟨E, hE⟩ : ∃ E, chkP 2 pl = E := ⟨_, rfl⟩
  rw [hE] at cc hbad
  have HE := Lib.hid hE
  clear hE
  have e1 : (E != 0) = true := by simpa using hbad
  clear hbad
  go_wp2_with fail
  (with_reducible refine cc.mono ?_)
  rintro e w3 ⟨rfl, k⟩
  have KZ := Lib.hid (K2.out.trans (k.mono s2))
  clear k cc
  go_wp2
  go_ret2
  exact ⟨by rw [HE.out]; rfl, KZ.out⟩
set_option maxRecDepth 100000 in
set_option maxHeartbeats 16000000 in
theorem text_e3 (l : List St) (hok : LsOk l) (hnm : NmsOk l) (hps : PrsOk l) (A : Option Addr) (m d : Nat) (hm : l.length = m) (hs : m ≤ 1000) (pl ol : List Pr) (C D : Option Addr) (n1 c1 n2 c2 : Nat) (hn1 : pl.length = n1) (hn2 : ol.length = n2) (hc1 : n1 ≤ c1 ∧ c1 ≤ maxLen) (hc2 : n2 ≤ c2 ∧ c2 ≤ maxLen) (h1 : n1 ≤ 1000) (h2 : n2 ≤ 1000)
    (hp1 : ∀ y ∈ pl, I64 y.1 ∧ I64 y.2) (hp2 : ∀ y ∈ ol, I64 y.1 ∧ I64 y.2) (h0 : chkA l = 0) (hcp : chkP 2 pl = 0) (hbad : chkP 1 ol ≠ 0)
    (w : World) (hA : LsAt w A l) (hC : PrAt w C pl) (hD : PrAt w D ol) :
    Calls Try.prog 31 #[.slice A m d, .slice C n1 c1, .slice D n2 c2] w fun e w' => e = .returned (.tuple #[.slice none 0 0, .int .i64 (chkP 1 ol)]) ∧ Below w.heap.size w w' := by
  have cO := open_any l hok hnm A m d hm hs w hA
  have C1 := Lib.hid (fun w' (hb : Below w.heap.size w w') => check_in 2 C n1 c1 pl hn1 hc1 (by omega) w' (hC.below hb (Nat.le_refl _)))
  have C2 := Lib.hid (fun w' (hb : Below w.heap.size w w') => check_in 1 D n2 c2 ol hn2 hc2 (by omega) w' (hD.below hb (Nat.le_refl _)))
  have HC := Lib.hid hC
  have HN1 := Lib.hid hn1
  clear hA hC hok hnm hps hp1 hD hp2
  go_enter Try.func31, Try.ntmps31
  go_wp2_with fail
  (with_reducible refine cO.mono ?_)
  rintro e w1 ⟨⟨v, b, rfl, g1, g2⟩, k1⟩
  obtain ⟨rfl, hsh⟩ := g1 h0
  rw [h0]
  have kn := (Below.refl w1.heap.size w1).alloc (Nat.le_refl _) (.cells #[.slice A m d, .map (some b)] 73)
  have SH := Lib.hid (hsh.below kn)
  have O2 := Lib.hid (ObjAt.new w1 #[.slice A m d, .map (some b)] 73)
  have K2 := Lib.hid (k1.alloc k1.size (.cells #[.slice A m d, .map (some b)] 73))
  have s2 := K2.out.size
  have cc := C1.out _ K2.out
  clear cO g1 g2 hsh kn k1 h0
  rw [hcp] at cc
  go_wp2_with fail
  (with_reducible refine cc.mono ?_)
  rintro e w3 ⟨rfl, k3⟩
  have SH3 := Lib.hid (SH.out.below k3)
  have O3 := Lib.hid (O2.out.below k3)
  have K3 := Lib.hid (K2.out.trans (k3.mono s2))
  have s3 := K3.out.size
  clear cc k3 hcp
  have cc := C2.out _ K3.out
  obtain ⟨E, hE⟩ : ∃ E, chkP 1 ol = E := ⟨_, rfl⟩
  rw [hE] at cc hbad
  have HE := Lib.hid hE
  clear hE
  have e1 : (E != 0) = true := by simpa using hbad
  clear hbad
  go_wp2_with fail
  (with_reducible refine cc.mono ?_)
  rintro e w4 ⟨rfl, k⟩
  have KZ := Lib.hid (K3.out.trans (k.mono s3))
  clear k cc
  go_wp2
  go_ret2
  exact ⟨by rw [HE.out]; rfl, KZ.out⟩
set_option maxRecDepth 100000 in
set_option maxHeartbeats 16000000 in
theorem text_e4 (l : List St) (hok : LsOk l) (hnm : NmsOk l) (hps : PrsOk l) (A : Option Addr) (m d : Nat) (hm : l.length = m) (hs : m ≤ 1000) (pl ol : List Pr) (C D : Option Addr) (n1 c1 n2 c2 : Nat) (hn1 : pl.length = n1) (hn2 : ol.length = n2) (hc1 : n1 ≤ c1 ∧ c1 ≤ maxLen) (hc2 : n2 ≤ c2 ∧ c2 ≤ maxLen) (h1 : n1 ≤ 1000) (h2 : n2 ≤ 1000)
    (hp1 : ∀ y ∈ pl, I64 y.1 ∧ I64 y.2) (hp2 : ∀ y ∈ ol, I64 y.1 ∧ I64 y.2) (hG : Good l) (h0 : chkA l = 0) (hcp : chkP 2 pl = 0) (hco : chkP 1 ol = 0) (hbad : idOf 1 pl ≠ 0 ∧ hasB l 1 (idOf 1 pl) = false)
    (w : World) (hA : LsAt w A l) (hC : PrAt w C pl) (hD : PrAt w D ol) :
    Calls Try.prog 31 #[.slice A m d, .slice C n1 c1, .slice D n2 c2] w fun e w' => e = .returned (.tuple #[.slice none 0 0, .int .i64 (25)]) ∧ Below w.heap.size w w' := by
  have cO := open_any l hok hnm A m d hm hs w hA
  have C1 := Lib.hid (fun w' (hb : Below w.heap.size w w') => check_in 2 C n1 c1 pl hn1 hc1 (by omega) w' (hC.below hb (Nat.le_refl _)))
  have C2 := Lib.hid (fun w' (hb : Below w.heap.size w w') => check_in 1 D n2 c2 ol hn2 hc2 (by omega) w' (hD.below hb (Nat.le_refl _)))
  have I1 := Lib.hid (fun b w' (hb : Below w.heap.size w w') (h : ShAt w' A m d b l) => inherited_any l hok hps A m d b (l.length + 1) 1 pl (srt_iff.2 (chk_in (by omega) hcp).1) C n1 c1 hn1 h1 hc1 (by rw [idOf_one]; exact getV_i64 hp1 20) (hG.bnd _) w' h (hC.below hb (Nat.le_refl _)))
  have HC := Lib.hid hC
  have HN1 := Lib.hid hn1
  clear hA hC hok hnm hps hp1 hD hp2
  go_enter Try.func31, Try.ntmps31
  go_wp2_with fail
  (with_reducible refine cO.mono ?_)
  rintro e w1 ⟨⟨v, b, rfl, g1, g2⟩, k1⟩
  obtain ⟨rfl, hsh⟩ := g1 h0
  rw [h0]
  have kn := (Below.refl w1.heap.size w1).alloc (Nat.le_refl _) (.cells #[.slice A m d, .map (some b)] 73)
  have SH := Lib.hid (hsh.below kn)
  have O2 := Lib.hid (ObjAt.new w1 #[.slice A m d, .map (some b)] 73)
  have K2 := Lib.hid (k1.alloc k1.size (.cells #[.slice A m d, .map (some b)] 73))
  have s2 := K2.out.size
  have cc := C1.out _ K2.out
  clear cO g1 g2 hsh kn k1 h0
  rw [hcp] at cc
  go_wp2_with fail
  (with_reducible refine cc.mono ?_)
  rintro e w3 ⟨rfl, k3⟩
  have SH3 := Lib.hid (SH.out.below k3)
  have O3 := Lib.hid (O2.out.below k3)
  have K3 := Lib.hid (K2.out.trans (k3.mono s2))
  have s3 := K3.out.size
  clear cc k3 hcp
  have cc2 := C2.out _ K3.out
  rw [hco] at cc2
  go_wp2_with fail
  (with_reducible refine cc2.mono ?_)
  rintro e w4 ⟨rfl, k4⟩
  have SH4 := Lib.hid (SH3.out.below k4)
  have O4 := Lib.hid (O3.out.below k4)
  have K4 := Lib.hid (K3.out.trans (k4.mono s3))
  have s4 := K4.out.size
  clear cc2 k4 hco
  have ci := I1.out b _ K4.out SH4.out
  have p0 := O4.out.a0
  have p1 := O4.out.a1
  go_wp2_with fail
  (with_reducible refine ci.mono ?_)
  intro e w5 hR
  unfold InhR at hR
  rw [if_pos hbad] at hR
  obtain ⟨rfl, k5⟩ := hR
  have KZ := Lib.hid (K4.out.trans (k5.mono s4))
  clear ci p0 p1 k5 hbad
  go_wp2
  go_ret2
  exact ⟨rfl, KZ.out⟩
set_option maxRecDepth 100000 in
set_option maxHeartbeats 16000000 in
theorem text_e5 (l : List St) (hok : LsOk l) (hnm : NmsOk l) (hps : PrsOk l) (A : Option Addr) (m d : Nat) (hm : l.length = m) (hs : m ≤ 1000) (pl ol : List Pr) (C D : Option Addr) (n1 c1 n2 c2 : Nat) (hn1 : pl.length = n1) (hn2 : ol.length = n2) (hc1 : n1 ≤ c1 ∧ c1 ≤ maxLen) (hc2 : n2 ≤ c2 ∧ c2 ≤ maxLen) (h1 : n1 ≤ 1000) (h2 : n2 ≤ 1000)
    (hp1 : ∀ y ∈ pl, I64 y.1 ∧ I64 y.2) (hp2 : ∀ y ∈ ol, I64 y.1 ∧ I64 y.2) (hG : Good l) (h0 : chkA l = 0) (hcp : chkP 2 pl = 0) (hco : chkP 1 ol = 0) (hok1 : ¬ (idOf 1 pl ≠ 0 ∧ hasB l 1 (idOf 1 pl) = false)) (hbad : idOf 2 ol ≠ 0 ∧ hasB l 2 (idOf 2 ol) = false)
    (w : World) (hA : LsAt w A l) (hC : PrAt w C pl) (hD : PrAt w D ol) :
    Calls Try.prog 31 #[.slice A m d, .slice C n1 c1, .slice D n2 c2] w fun e w' => e = .returned (.tuple #[.slice none 0 0, .int .i64 (25)]) ∧ Below w.heap.size w w' := by
  have cO := open_any l hok hnm A m d hm hs w hA
  have C1 := Lib.hid (fun w' (hb : Below w.heap.size w w') => check_in 2 C n1 c1 pl hn1 hc1 (by omega) w' (hC.below hb (Nat.le_refl _)))
  have C2 := Lib.hid (fun w' (hb : Below w.heap.size w w') => check_in 1 D n2 c2 ol hn2 hc2 (by omega) w' (hD.below hb (Nat.le_refl _)))
  have I1 := Lib.hid (fun b w' (hb : Below w.heap.size w w') (h : ShAt w' A m d b l) => inherited_any l hok hps A m d b (l.length + 1) 1 pl (srt_iff.2 (chk_in (by omega) hcp).1) C n1 c1 hn1 h1 hc1 (by rw [idOf_one]; exact getV_i64 hp1 20) (hG.bnd _) w' h (hC.below hb (Nat.le_refl _)))
  have I2 := Lib.hid (fun b w' (hb : Below w.heap.size w w') (h : ShAt w' A m d b l) => inherited_any l hok hps A m d b (l.length + 1) 2 ol (srt_iff.2 (chk_in (by omega) hco).1) D n2 c2 hn2 h2 hc2 (by rw [idOf_two]; exact getV_i64 hp2 1) (hG.bnd _) w' h (hD.below hb (Nat.le_refl _)))
  have HC := Lib.hid hC
  have HN1 := Lib.hid hn1
  clear hA hC hok hnm hps hp1 hD hp2
  go_enter Try.func31, Try.ntmps31
  go_wp2_with fail
  (with_reducible refine cO.mono ?_)
  rintro e w1 ⟨⟨v, b, rfl, g1, g2⟩, k1⟩
  obtain ⟨rfl, hsh⟩ := g1 h0
  rw [h0]
  have kn := (Below.refl w1.heap.size w1).alloc (Nat.le_refl _) (.cells #[.slice A m d, .map (some b)] 73)
  have SH := Lib.hid (hsh.below kn)
  have O2 := Lib.hid (ObjAt.new w1 #[.slice A m d, .map (some b)] 73)
  have K2 := Lib.hid (k1.alloc k1.size (.cells #[.slice A m d, .map (some b)] 73))
  have s2 := K2.out.size
  have cc := C1.out _ K2.out
  clear cO g1 g2 hsh kn k1 h0
  rw [hcp] at cc
  go_wp2_with fail
  (with_reducible refine cc.mono ?_)
  rintro e w3 ⟨rfl, k3⟩
  have SH3 := Lib.hid (SH.out.below k3)
  have O3 := Lib.hid (O2.out.below k3)
  have K3 := Lib.hid (K2.out.trans (k3.mono s2))
  have s3 := K3.out.size
  clear cc k3 hcp
  have cc2 := C2.out _ K3.out
  rw [hco] at cc2
  go_wp2_with fail
  (with_reducible refine cc2.mono ?_)
  rintro e w4 ⟨rfl, k4⟩
  have SH4 := Lib.hid (SH3.out.below k4)
  have O4 := Lib.hid (O3.out.below k4)
  have K4 := Lib.hid (K3.out.trans (k4.mono s3))
  have s4 := K4.out.size
  clear cc2 k4 hco
  have ci := I1.out b _ K4.out SH4.out
  have p0 := O4.out.a0
  have p1 := O4.out.a1
  go_wp2_with fail
  (with_reducible refine ci.mono ?_)
  intro e w5 hR
  unfold InhR at hR
  rw [if_neg hok1] at hR
  obtain ⟨xs1, v1, q1, q2, rfl, hr1, k5⟩ := hR
  obtain ⟨B1, cb1, rfl⟩ := own_form hr1
  have SH5 := Lib.hid (SH4.out.below k5)
  have O5 := Lib.hid (O4.out.below k5)
  have K5 := Lib.hid (K4.out.trans (k5.mono s4))
  have s5 := K5.out.size
  have ci2 := I2.out b _ K5.out SH5.out
  clear ci k5 p0 p1 hr1 q1 q2 hok1
  have p0 := O5.out.a0
  have p1 := O5.out.a1
  go_wp2_with fail
  (with_reducible refine ci2.mono ?_)
  intro e w6 hR
  unfold InhR at hR
  rw [if_pos hbad] at hR
  obtain ⟨rfl, k6⟩ := hR
  have KZ := Lib.hid (K5.out.trans (k6.mono s5))
  clear ci2 p0 p1 k6 hbad
  go_wp2
  go_ret2
  exact ⟨rfl, KZ.out⟩
set_option maxRecDepth 100000 in
set_option maxHeartbeats 16000000 in
theorem para_e1 (l : List St) (hok : LsOk l) (hnm : NmsOk l) (hps : PrsOk l) (A : Option Addr) (m d : Nat) (hm : l.length = m) (hs : m ≤ 1000) (pl : List Pr) (C : Option Addr) (n1 c1 : Nat) (hn1 : pl.length = n1) (hc1 : n1 ≤ c1 ∧ c1 ≤ maxLen) (h1 : n1 ≤ 1000)
    (hp1 : ∀ y ∈ pl, I64 y.1 ∧ I64 y.2) (hbad : chkA l ≠ 0)
    (w : World) (hA : LsAt w A l) (hC : PrAt w C pl) :
    Calls Try.prog 30 #[.slice A m d, .slice C n1 c1] w fun e w' => e = .returned (.tuple #[.slice none 0 0, .int .i64 (chkA l)]) ∧ Below w.heap.size w w' := by
  have cO := open_any l hok hnm A m d hm hs w hA
  have C1 := Lib.hid (fun w' (hb : Below w.heap.size w w') => check_in 2 C n1 c1 pl hn1 hc1 (by omega) w' (hC.below hb (Nat.le_refl _)))
  have HC := Lib.hid hC
  have HN1 := Lib.hid hn1
  clear hA hC hok hnm hps hp1
  go_enter Try.func30, Try.ntmps30
  go_wp2_with fail
  (with_reducible refine cO.mono ?_)
  rintro e w1 ⟨⟨v, b, rfl, g1, g2⟩, k1⟩
  have hv := g2 hbad
  subst hv
  obtain ⟨E, hE⟩ : ∃ E, chkA l = E := ⟨_, rfl⟩
  rw [hE] at hbad
  rw [hE]
  have HE := Lib.hid hE
  have e1 : (E != 0) = true := by simpa using hbad
  have B1 := Lib.hid (k1.alloc k1.size (.cells #[.slice none 0 0, .map none] 73))
  clear hbad g1 g2 cO k1 hE
  go_wp2
  go_ret2
  exact ⟨by rw [HE.out]; rfl, B1.out⟩
set_option maxRecDepth 100000 in
set_option maxHeartbeats 16000000 in
theorem para_e2 (l : List St) (hok : LsOk l) (hnm : NmsOk l) (hps : PrsOk l) (A : Option Addr) (m d : Nat) (hm : l.length = m) (hs : m ≤ 1000) (pl : List Pr) (C : Option Addr) (n1 c1 : Nat) (hn1 : pl.length = n1) (hc1 : n1 ≤ c1 ∧ c1 ≤ maxLen) (h1 : n1 ≤ 1000)
    (hp1 : ∀ y ∈ pl, I64 y.1 ∧ I64 y.2) (h0 : chkA l = 0) (hbad : chkP 2 pl ≠ 0)
    (w : World) (hA : LsAt w A l) (hC : PrAt w C pl) :
    Calls Try.prog 30 #[.slice A m d, .slice C n1 c1] w fun e w' => e = .returned (.tuple #[.slice none 0 0, .int .i64 (chkP 2 pl)]) ∧ Below w.heap.size w w' := by
  have cO := open_any l hok hnm A m d hm hs w hA
  have C1 := Lib.hid (fun w' (hb : Below w.heap.size w w') => check_in 2 C n1 c1 pl hn1 hc1 (by omega) w' (hC.below hb (Nat.le_refl _)))
  have HC := Lib.hid hC
  have HN1 := Lib.hid hn1
  clear hA hC hok hnm hps hp1
  go_enter Try.func30, Try.ntmps30
  go_wp2_with fail
  (with_reducible refine cO.mono ?_)
  rintro e w1 ⟨⟨v, b, rfl, g1, g2⟩, k1⟩
  obtain ⟨rfl, hsh⟩ := g1 h0
  rw [h0]
  have kn := (Below.refl w1.heap.size w1).alloc (Nat.le_refl _) (.cells #[.slice A m d, .map (some b)] 73)
  have SH := Lib.hid (hsh.below kn)
  have O2 := Lib.hid (ObjAt.new w1 #[.slice A m d, .map (some b)] 73)
  have K2 := Lib.hid (k1.alloc k1.size (.cells #[.slice A m d, .map (some b)] 73))
  have s2 := K2.out.size
  have cc := C1.out _ K2.out
  clear cO g1 g2 hsh kn k1 h0
  obtain ⟨E, hE⟩ : ∃ E, chkP 2 pl = E := ⟨_, rfl⟩
  rw [hE] at cc hbad
  have HE := Lib.hid hE
  clear hE
  have e1 : (E != 0) = true := by simpa using hbad
  clear hbad
  go_wp2_with fail
  (with_reducible refine cc.mono ?_)
  rintro e w3 ⟨rfl, k⟩
  have KZ := Lib.hid (K2.out.trans (k.mono s2))
  clear k cc
  go_wp2
  go_ret2
  exact ⟨by rw [HE.out]; rfl, KZ.out⟩
set_option maxRecDepth 100000 in
set_option maxHeartbeats 16000000 in
theorem para_e4 (l : List St) (hok : LsOk l) (hnm : NmsOk l) (hps : PrsOk l) (A : Option Addr) (m d : Nat) (hm : l.length = m) (hs : m ≤ 1000) (pl : List Pr) (C : Option Addr) (n1 c1 : Nat) (hn1 : pl.length = n1) (hc1 : n1 ≤ c1 ∧ c1 ≤ maxLen) (h1 : n1 ≤ 1000)
    (hp1 : ∀ y ∈ pl, I64 y.1 ∧ I64 y.2) (hG : Good l) (h0 : chkA l = 0) (hcp : chkP 2 pl = 0) (hbad : idOf 1 pl ≠ 0 ∧ hasB l 1 (idOf 1 pl) = false)
    (w : World) (hA : LsAt w A l) (hC : PrAt w C pl) :
    Calls Try.prog 30 #[.slice A m d, .slice C n1 c1] w fun e w' => e = .returned (.tuple #[.slice none 0 0, .int .i64 (25)]) ∧ Below w.heap.size w w' := by
  have cO := open_any l hok hnm A m d hm hs w hA
  have C1 := Lib.hid (fun w' (hb : Below w.heap.size w w') => check_in 2 C n1 c1 pl hn1 hc1 (by omega) w' (hC.below hb (Nat.le_refl _)))
  have I1 := Lib.hid (fun b w' (hb : Below w.heap.size w w') (h : ShAt w' A m d b l) => inherited_any l hok hps A m d b (l.length + 1) 1 pl (srt_iff.2 (chk_in (by omega) hcp).1) C n1 c1 hn1 h1 hc1 (by rw [idOf_one]; exact getV_i64 hp1 20) (hG.bnd _) w' h (hC.below hb (Nat.le_refl _)))
  have HC := Lib.hid hC
  have HN1 := Lib.hid hn1
  clear hA hC hok hnm hps hp1
  go_enter Try.func30, Try.ntmps30
  go_wp2_with fail
  (with_reducible refine cO.mono ?_)
  rintro e w1 ⟨⟨v, b, rfl, g1, g2⟩, k1⟩
  obtain ⟨rfl, hsh⟩ := g1 h0
  rw [h0]
  have kn := (Below.refl w1.heap.size w1).alloc (Nat.le_refl _) (.cells #[.slice A m d, .map (some b)] 73)
  have SH := Lib.hid (hsh.below kn)
  have O2 := Lib.hid (ObjAt.new w1 #[.slice A m d, .map (some b)] 73)
  have K2 := Lib.hid (k1.alloc k1.size (.cells #[.slice A m d, .map (some b)] 73))
  have s2 := K2.out.size
  have cc := C1.out _ K2.out
  clear cO g1 g2 hsh kn k1 h0
  rw [hcp] at cc
  go_wp2_with fail
  (with_reducible refine cc.mono ?_)
  rintro e w3 ⟨rfl, k3⟩
  have SH3 := Lib.hid (SH.out.below k3)
  have O3 := Lib.hid (O2.out.below k3)
  have K3 := Lib.hid (K2.out.trans (k3.mono s2))
  have s3 := K3.out.size
  clear cc k3 hcp
  have SH4 := SH3
  have O4 := O3
  have K4 := K3
  have s4 := s3
  have ci := I1.out b _ K4.out SH4.out
  have p0 := O4.out.a0
  have p1 := O4.out.a1
  go_wp2_with fail
  (with_reducible refine ci.mono ?_)
  intro e w5 hR
  unfold InhR at hR
  rw [if_pos hbad] at hR
  obtain ⟨rfl, k5⟩ := hR
  have KZ := Lib.hid (K4.out.trans (k5.mono s4))
  clear ci p0 p1 k5 hbad
  go_wp2
  go_ret2
  exact ⟨rfl, KZ.out⟩
set_option maxRecDepth 100000 in
set_option maxHeartbeats 16000000 in
theorem para_g (l : List St) (hok : LsOk l) (hnm : NmsOk l) (hps : PrsOk l) (A : Option Addr) (m d : Nat) (hm : l.length = m) (hs : m ≤ 1000) (pl : List Pr) (C : Option Addr) (n1 c1 : Nat) (hn1 : pl.length = n1) (hc1 : n1 ≤ c1 ∧ c1 ≤ maxLen) (h1 : n1 ≤ 1000)
    (hp1 : ∀ y ∈ pl, I64 y.1 ∧ I64 y.2) (hG : Good l) (h0 : chkA l = 0) (hcp : chkP 2 pl = 0) (hok1 : ¬ (idOf 1 pl ≠ 0 ∧ hasB l 1 (idOf 1 pl) = false))
    (w : World) (hA : LsAt w A l) (hC : PrAt w C pl) :
    Calls Try.prog 30 #[.slice A m d, .slice C n1 c1] w (OutE (keepP 2 (mergeL (effI l (idOf 1 pl)) pl)) 0 w) := by
  have hIN := chk_in (by omega) hcp
  have HEI := Lib.hid (effI_in hG (idOf 1 pl))
  have HML := Lib.hid (HEI.out.merge hIN)
  have cO := open_any l hok hnm A m d hm hs w hA
  have C1 := Lib.hid (fun w' (hb : Below w.heap.size w w') => check_in 2 C n1 c1 pl hn1 hc1 (by omega) w' (hC.below hb (Nat.le_refl _)))
  have I1 := Lib.hid (fun b w' (hb : Below w.heap.size w w') (h : ShAt w' A m d b l) => inherited_any l hok hps A m d b (l.length + 1) 1 pl (srt_iff.2 (chk_in (by omega) hcp).1) C n1 c1 hn1 h1 hc1 (by rw [idOf_one]; exact getV_i64 hp1 20) (hG.bnd _) w' h (hC.below hb (Nat.le_refl _)))
  have HC := Lib.hid hC
  have HN1 := Lib.hid hn1
  clear hA hC hok hnm hps hp1
  go_enter Try.func30, Try.ntmps30
  go_wp2_with fail
  (with_reducible refine cO.mono ?_)
  rintro e w1 ⟨⟨v, b, rfl, g1, g2⟩, k1⟩
  obtain ⟨rfl, hsh⟩ := g1 h0
  rw [h0]
  have kn := (Below.refl w1.heap.size w1).alloc (Nat.le_refl _) (.cells #[.slice A m d, .map (some b)] 73)
  have SH := Lib.hid (hsh.below kn)
  have O2 := Lib.hid (ObjAt.new w1 #[.slice A m d, .map (some b)] 73)
  have K2 := Lib.hid (k1.alloc k1.size (.cells #[.slice A m d, .map (some b)] 73))
  have s2 := K2.out.size
  have cc := C1.out _ K2.out
  clear cO g1 g2 hsh kn k1 h0
  rw [hcp] at cc
  go_wp2_with fail
  (with_reducible refine cc.mono ?_)
  rintro e w3 ⟨rfl, k3⟩
  have SH3 := Lib.hid (SH.out.below k3)
  have O3 := Lib.hid (O2.out.below k3)
  have K3 := Lib.hid (K2.out.trans (k3.mono s2))
  have s3 := K3.out.size
  clear cc k3 hcp
  have ci := I1.out b _ K3.out SH3.out
  have p0 := O3.out.a0
  have p1 := O3.out.a1
  go_wp2_with fail
  (with_reducible refine ci.mono ?_)
  intro e w5 hR
  unfold InhR at hR
  rw [if_neg hok1] at hR
  obtain ⟨xs1, v1, q1, q2, rfl, hr1, k5⟩ := hR
  have hce := chn_eq q1 q2
  have hef : effP l xs1 = effI l (idOf 1 pl) := by unfold effI; rw [hce]
  rw [hef] at hr1
  obtain ⟨B1, cb1, rfl⟩ := own_form hr1
  have K5 := Lib.hid (K3.out.trans (k5.mono s3))
  have s5 := K5.out.size
  have HR1 := Lib.hid (row_prat hr1 rfl)
  clear ci k5 p0 p1 hr1 q1 q2 hok1 hce hef hIN
  obtain ⟨eff, hE⟩ : ∃ eff, effI l (idOf 1 pl) = eff := ⟨_, rfl⟩
  rw [hE] at HEI HML HR1
  rw [hE]
  have HE := Lib.hid hE
  clear hE
  have hl45 := HEI.out.len
  have cM := merge_any B1 C cb1 c1 eff pl (by omega) (by rw [HN1.out]; exact h1) ⟨HR1.out.1, HR1.out.2.1⟩ (by rw [HN1.out]; exact hc1) w5 HR1.out.2.2 (HC.out.below K5.out (Nat.le_refl _))
  rw [HN1.out] at cM
  go_wp2_with fail
  (with_reducible refine cM.mono ?_)
  rintro e w7 ⟨v3, rfl, hr3, k7⟩
  obtain ⟨B3, cb3, rfl⟩ := own_form hr3
  have K7 := Lib.hid (K5.out.trans (k7.mono s5))
  have s7 := K7.out.size
  have hl4 : (mergeL eff pl).length = (pairs eff pl).length := by rw [mergeL, List.length_map]
  have hr4' : w7.ownsRow w5.heap.size 55 2 (.slice B3 (pairs eff pl).length cb3) (pairs eff pl).length (rowP (mergeL eff pl)) := hr3
  have HR3 := Lib.hid (row_prat hr4' hl4)
  have hl46 := HML.out.len
  have cP := pick_any 2 (mergeL eff pl) _ cb3 hl4 (by omega) B3 ⟨HR3.out.1, HR3.out.2.1⟩ w7 HR3.out.2.2
  clear hr3 hr4' hl4 cM k7
  go_wp2_with fail
  (with_reducible refine cP.mono ?_)
  rintro e w9 ⟨B5, k, cap, rfl, hk, hr5, k9⟩
  clear cP
  go_wp2
  go_ret2
  rw [← HE.out] at hk hr5
  exact ⟨⟨B5, k, cap, hk, rfl, own_lower hr5 s7⟩, K7.out.trans (k9.mono s7)⟩
/-- The error of Text behind the list's own, and what it hands back. -/
noncomputable def txtE (l : List St) (pl ol : List Pr) : Int := if chkP 2 pl ≠ 0 then chkP 2 pl else if chkP 1 ol ≠ 0 then chkP 1 ol
  else if idOf 1 pl ≠ 0 ∧ hasB l 1 (idOf 1 pl) = false then 25 else if idOf 2 ol ≠ 0 ∧ hasB l 2 (idOf 2 ol) = false then 25 else 0
noncomputable def txtL (l : List St) (pl ol : List Pr) : List Pr := if txtE l pl ol ≠ 0 then [] else keepP 1 (mergeL (effI l (idOf 1 pl)) (mergeL (effI l (idOf 2 ol)) ol))
noncomputable def parE (l : List St) (pl : List Pr) : Int := if chkP 2 pl ≠ 0 then chkP 2 pl else if idOf 1 pl ≠ 0 ∧ hasB l 1 (idOf 1 pl) = false then 25 else 0
noncomputable def parL (l : List St) (pl : List Pr) : List Pr := if parE l pl ≠ 0 then [] else keepP 2 (mergeL (effI l (idOf 1 pl)) pl)
set_option maxRecDepth 100000 in
set_option maxHeartbeats 16000000 in
theorem Para_any (l : List St) (hok : LsOk l) (hnm : NmsOk l) (hps : PrsOk l) (A : Option Addr) (m d : Nat) (hm : l.length = m) (hs : m ≤ 1000) (pl : List Pr) (C : Option Addr) (n1 c1 : Nat) (hn1 : pl.length = n1) (hc1 : n1 ≤ c1 ∧ c1 ≤ maxLen) (h1 : n1 ≤ 1000)
    (hp1 : ∀ y ∈ pl, I64 y.1 ∧ I64 y.2) (h0 : chkA l = 0)
    (w : World) (hA : LsAt w A l) (hC : PrAt w C pl) :
    Calls Try.prog 30 #[.slice A m d, .slice C n1 c1] w (OutE (parL l pl) (parE l pl) w) := by
  have hG := good_of h0
  by_cases a1 : chkP 2 pl = 0
  case neg =>
    have e1 : parE l pl = chkP 2 pl := by unfold parE; rw [if_pos a1]
    have e2 : parL l pl = [] := by unfold parL; rw [if_pos (by rw [e1]; exact a1)]
    rw [e1, e2]
    exact (para_e2 l hok hnm hps A m d hm hs pl C n1 c1 hn1 hc1 h1 hp1 h0 a1 w hA hC).mono fun _ _ h => OutE.none h
  by_cases a2 : idOf 1 pl ≠ 0 ∧ hasB l 1 (idOf 1 pl) = false
  · have e1 : parE l pl = 25 := by unfold parE; rw [if_neg (by simp [a1]), if_pos a2]
    have e2 : parL l pl = [] := by unfold parL; rw [if_pos (by rw [e1]; decide)]
    rw [e1, e2]
    exact (para_e4 l hok hnm hps A m d hm hs pl C n1 c1 hn1 hc1 h1 hp1 hG h0 a1 a2 w hA hC).mono fun _ _ h => OutE.none h
  · have e1 : parE l pl = 0 := by unfold parE; rw [if_neg (by simp [a1]), if_neg a2]
    have e2 : parL l pl = keepP 2 (mergeL (effI l (idOf 1 pl)) pl) := by unfold parL; rw [if_neg (by simp [e1])]
    rw [e1, e2]
    exact para_g l hok hnm hps A m d hm hs pl C n1 c1 hn1 hc1 h1 hp1 hG h0 a1 a2 w hA hC
set_option maxRecDepth 100000 in
set_option maxHeartbeats 16000000 in
theorem Text_any (l : List St) (hok : LsOk l) (hnm : NmsOk l) (hps : PrsOk l) (A : Option Addr) (m d : Nat) (hm : l.length = m) (hs : m ≤ 1000) (pl ol : List Pr) (C D : Option Addr) (n1 c1 n2 c2 : Nat) (hn1 : pl.length = n1) (hn2 : ol.length = n2) (hc1 : n1 ≤ c1 ∧ c1 ≤ maxLen) (hc2 : n2 ≤ c2 ∧ c2 ≤ maxLen) (h1 : n1 ≤ 1000) (h2 : n2 ≤ 1000)
    (hp1 : ∀ y ∈ pl, I64 y.1 ∧ I64 y.2) (hp2 : ∀ y ∈ ol, I64 y.1 ∧ I64 y.2) (h0 : chkA l = 0)
    (w : World) (hA : LsAt w A l) (hC : PrAt w C pl) (hD : PrAt w D ol) :
    Calls Try.prog 31 #[.slice A m d, .slice C n1 c1, .slice D n2 c2] w (OutE (txtL l pl ol) (txtE l pl ol) w) := by
  have hG := good_of h0
  by_cases a1 : chkP 2 pl = 0
  case neg =>
    have e1 : txtE l pl ol = chkP 2 pl := by unfold txtE; rw [if_pos a1]
    have e2 : txtL l pl ol = [] := by unfold txtL; rw [if_pos (by rw [e1]; exact a1)]
    rw [e1, e2]
    exact (text_e2 l hok hnm hps A m d hm hs pl ol C D n1 c1 n2 c2 hn1 hn2 hc1 hc2 h1 h2 hp1 hp2 h0 a1 w hA hC hD).mono fun _ _ h => OutE.none h
  by_cases a3 : chkP 1 ol = 0
  case neg =>
    have e1 : txtE l pl ol = chkP 1 ol := by unfold txtE; rw [if_neg (by simp [a1]), if_pos a3]
    have e2 : txtL l pl ol = [] := by unfold txtL; rw [if_pos (by rw [e1]; exact a3)]
    rw [e1, e2]
    exact (text_e3 l hok hnm hps A m d hm hs pl ol C D n1 c1 n2 c2 hn1 hn2 hc1 hc2 h1 h2 hp1 hp2 h0 a1 a3 w hA hC hD).mono fun _ _ h => OutE.none h
  by_cases a2 : idOf 1 pl ≠ 0 ∧ hasB l 1 (idOf 1 pl) = false
  · have e1 : txtE l pl ol = 25 := by unfold txtE; rw [if_neg (by simp [a1]), if_neg (by simp [a3]), if_pos a2]
    have e2 : txtL l pl ol = [] := by unfold txtL; rw [if_pos (by rw [e1]; decide)]
    rw [e1, e2]
    exact (text_e4 l hok hnm hps A m d hm hs pl ol C D n1 c1 n2 c2 hn1 hn2 hc1 hc2 h1 h2 hp1 hp2 hG h0 a1 a3 a2 w hA hC hD).mono fun _ _ h => OutE.none h
  by_cases a4 : idOf 2 ol ≠ 0 ∧ hasB l 2 (idOf 2 ol) = false
  · have e1 : txtE l pl ol = 25 := by unfold txtE; rw [if_neg (by simp [a1]), if_neg (by simp [a3]), if_neg a2, if_pos a4]
    have e2 : txtL l pl ol = [] := by unfold txtL; rw [if_pos (by rw [e1]; decide)]
    rw [e1, e2]
    exact (text_e5 l hok hnm hps A m d hm hs pl ol C D n1 c1 n2 c2 hn1 hn2 hc1 hc2 h1 h2 hp1 hp2 hG h0 a1 a3 a2 a4 w hA hC hD).mono fun _ _ h => OutE.none h
  · have e1 : txtE l pl ol = 0 := by unfold txtE; rw [if_neg (by simp [a1]), if_neg (by simp [a3]), if_neg a2, if_neg a4]
    have e2 : txtL l pl ol = keepP 1 (mergeL (effI l (idOf 1 pl)) (mergeL (effI l (idOf 2 ol)) ol)) := by unfold txtL; rw [if_neg (by simp [e1])]
    rw [e1, e2]
    have i1 := chk_in (by omega) a1
    have i3 := chk_in (by omega) a3
    refine (text_good l hok hnm hps A m d (l.length + 1) hm hs pl ol C D n1 c1 n2 c2 hn1 hn2 hc1 hc2 h1 h2 (srt_iff.2 i1.1) (srt_iff.2 i3.1) h0 a1 a3 (by rw [idOf_one]; exact getV_i64 hp1 20) (by rw [idOf_two]; exact getV_i64 hp2 1) a2 a4 (hG.bnd _) (hG.bnd _)
      (fun xs _ => by have := ((effP_in hG.inT xs).merge i3).len; omega) (fun xs ys _ _ => by have := ((effP_in hG.inT xs).merge ((effP_in hG.inT ys).merge i3)).len; omega) w hA hC hD).mono ?_
    rintro e w' ⟨xs1, xs2, B, k, cap, ⟨q1, q2⟩, ⟨q3, q4⟩, rfl, hk, hr, hb⟩
    unfold effI
    rw [chn_eq q1 q2, chn_eq q3 q4]
    exact ⟨⟨B, k, cap, hk, rfl, hr⟩, hb⟩
end Go.Proofs.Ytbkpokipibgdfaa
