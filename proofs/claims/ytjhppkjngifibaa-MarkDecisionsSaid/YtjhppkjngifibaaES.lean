/- Layer 23: known. -/
import Derived.Test.YtjhppkjngifibaaER
namespace Go.Proofs.Ytjhppkjngifibaa
open Go.RowKit Go.Lib
set_option linter.unusedVariables false

theorem example_at (w : World) : Calls Try.prog 50 #[] w fun e w' => ∃ A C c1 c2 c3 B, e = .returned (.agg #[.slice A 1 c1, .int .i64 0, .int .i64 0, .slice B 0 c2, .slice C 3 c3]) ∧ HAt w' A B C 1 c1 0 c2 3 c3 exH ∧ Below w.heap.size w w' := by
  refine (example_any w).mono ?_
  rintro e w' ⟨A, B, C, c1, c2, c3, rfl, hown, hb⟩
  exact ⟨A, C, c1, c2, c3, B, rfl, hown.at, hb⟩
theorem decA_at (w : World) (A B C : Option Addr) (c1 c2 c3 : Nat) (hA : HAt w A B C 1 c1 0 c2 3 c3 exH) (X : Option Addr) (hX : NsAt w X [2]) :
    Calls Try.prog 15 #[.agg #[.slice A 1 c1, .int .i64 0, .int .i64 0, .slice B 0 c2, .slice C 3 c3], .agg #[.slice none 0 0, .slice X 1 1]] w fun e w' => ∃ A' B' C' d1 d2 d3, e = .returned (.tuple #[.agg #[.slice A' 1 d1, .int .i64 0, .int .i64 0, .slice B' 0 d2, .slice C' 2 d3], .bool true]) ∧ HAt w' A' B' C' 1 d1 0 d2 2 d3 exA ∧ Below w.heap.size w w' := by
  refine (Decide_any exH exH_ord exH_mod (by decide) A B C 1 c1 0 c2 3 c3 [] [2] 0 1 0 1 rfl rfl (by simp) (by simp) (by decide) (by decide) none X w hA (.inl rfl) hX).mono ?_
  rintro e w' ⟨r, A', B', C', d1, d2, d3, hr, rfl, hown, hb⟩
  rw [exA_gone] at hr ⊢
  have hr2 : r = exA := hr.trans (Eq.trans (if_neg (by decide)) exA_eq)
  subst hr2
  exact ⟨A', B', C', d1, d2, d3, rfl, hown.at, hb⟩
theorem decB_at (w : World) (A B C : Option Addr) (c1 c2 c3 : Nat) (hA : HAt w A B C 1 c1 0 c2 3 c3 exH) (X Y : Option Addr) (hX : NsAt w X [2]) (hY : NsAt w Y [3]) :
    Calls Try.prog 15 #[.agg #[.slice A 1 c1, .int .i64 0, .int .i64 0, .slice B 0 c2, .slice C 3 c3], .agg #[.slice X 1 1, .slice Y 1 1]] w fun e w' => ∃ A' B' C' d1 d2 d3, e = .returned (.tuple #[.agg #[.slice A' 1 d1, .int .i64 0, .int .i64 0, .slice B' 0 d2, .slice C' 0 d3], .bool true]) ∧ HAt w' A' B' C' 1 d1 0 d2 0 d3 exB ∧ Below w.heap.size w w' := by
  refine (Decide_any exH exH_ord exH_mod (by decide) A B C 1 c1 0 c2 3 c3 [2] [3] 1 1 1 1 rfl rfl (by simp) (by simp) (by decide) (by decide) X Y w hA hX hY).mono ?_
  rintro e w' ⟨r, A', B', C', d1, d2, d3, hr, rfl, hown, hb⟩
  rw [exB_gone] at hr ⊢
  have hr2 : r = exB := hr.trans (Eq.trans (if_neg (by decide)) exB_eq)
  subst hr2
  exact ⟨A', B', C', d1, d2, d3, rfl, hown.at, hb⟩
theorem decC_at (w : World) (B X : Option Addr) (hB : HAt w none B none 0 0 1 1 0 0 exC) (hX : NsAt w X [5]) :
    Calls Try.prog 15 #[.agg #[.slice none 0 0, .int .i64 3, .int .i64 0, .slice B 1 1, .slice none 0 0], .agg #[.slice X 1 1, .slice none 0 0]] w fun e w' => ∃ A' B' C' d1 d2 d3, e = .returned (.tuple #[.agg #[.slice A' 0 d1, .int .i64 0, .int .i64 0, .slice B' 0 d2, .slice C' 0 d3], .bool false]) ∧ Below w.heap.size w w' := by
  refine (Decide_any exC exC_ord exC_mod (by decide) none B none 0 0 1 1 0 0 [5] [] 1 0 1 0 rfl rfl (by simp) (by simp) (by decide) (by decide) X none w hB hX (.inl rfl)).mono ?_
  rintro e w' ⟨r, A', B', C', d1, d2, d3, hr, rfl, hown, hb⟩
  rw [exC_gone] at hr ⊢
  have hr2 : r = ⟨[], 0, 0, [], []⟩ := hr.trans (if_pos rfl)
  subst hr2
  exact ⟨A', B', C', d1, d2, d3, rfl, hb⟩
set_option maxRecDepth 100000 in
set_option maxHeartbeats 8000000 in
theorem known_any (w : World) : Calls Try.prog 17 #[] w fun e w' => e = .returned (.bool true) ∧ Below w.heap.size w w' := by
  have cE := fun W => example_at W
  obtain ⟨b, hbb⟩ : ∃ b, w.heap.size = b := ⟨_, rfl⟩
  have HBB := Lib.hid hbb
  have K0 := Lib.hid (Below.refl b w)
  have s0 : b ≤ w.heap.size := Nat.le_of_eq hbb.symm
  rw [hbb]
  clear hbb
  go_enter Try.func17, Try.ntmps17
  go_wp2_with fail
  refine (cE _).mono ?_
  rintro e w1 ⟨A, C, c1, c2, c3, B, rfl, hA, k1⟩
  have K1 := Lib.hid (K0.out.trans (k1.mono s0))
  have s1 := K1.out.size
  have cD := decA_at (w1.alloc (.cells #[.int .i64 2] 3)) A B C c1 c2 c3 (hA.below ((Below.refl _ w1).alloc (Nat.le_refl _) _) (Nat.le_refl _)) (some ⟨w1.heap.size, 0, none⟩) (ns_one w1 2)
  have K2 := Lib.hid (K1.out.alloc (by omega) (.cells #[.int .i64 2] 3))
  clear hA k1
  go_wp2_with fail
  refine cD.mono ?_
  rintro e w3 ⟨A3, B3, C3, d1, d2, d3, rfl, hA3, k3⟩
  have K3 := Lib.hid (K2.out.trans (k3.mono (by have := K2.out.size; omega)))
  have X1 := Lib.hid (ObjAt.new w3 #[.slice A3 1 d1, .int .i64 0, .int .i64 0, .slice B3 0 d2, .slice C3 2 d3] 28)
  have s3 : b ≤ w3.heap.size := by have := K3.out.size; omega
  have K4 := Lib.hid (K3.out.alloc s3 (.cells #[.slice A3 1 d1, .int .i64 0, .int .i64 0, .slice B3 0 d2, .slice C3 2 d3] 28))
  have L3 := Lib.hid ((hA3.below ((Below.refl _ w3).alloc (Nat.le_refl _) (.cells #[.slice A3 1 d1, .int .i64 0, .int .i64 0, .slice B3 0 d2, .slice C3 2 d3] 28)) (Nat.le_refl _)).l)
  clear hA3 k3 cD
  go_upto_region 2 with fail
  obtain ⟨x1, hx1⟩ : ∃ x, w3.heap.size = x := ⟨_, rfl⟩
  rw [hx1] at X1 s3 ⊢
  clear hx1
  generalize w3.alloc (.cells #[.slice A3 1 d1, .int .i64 0, .int .i64 0, .slice B3 0 d2, .slice C3 2 d3] 28) = W4 at X1 K4 L3 ⊢
  have s4 : b ≤ W4.heap.size := by have := K4.out.size; omega
  go_wp2_with fail
  refine (cE _).mono ?_
  rintro e w5 ⟨A, C, c1, c2, c3, B, rfl, hA, k5⟩
  have X1' := Lib.hid (X1.out.below k5)
  have L3' := Lib.hid (L3.out.below k5 (Nat.le_refl _))
  have K5 := Lib.hid (K4.out.trans (k5.mono s4))
  have s5 : b ≤ w5.heap.size := by have := K5.out.size; omega
  have bA := (Below.refl w5.heap.size w5).alloc (Nat.le_refl _) (.cells #[.int .i64 2] 3)
  have bB := (Below.refl (w5.alloc (.cells #[.int .i64 2] 3)).heap.size (w5.alloc (.cells #[.int .i64 2] 3))).alloc (Nat.le_refl _) (.cells #[.int .i64 3] 3)
  have n2 := ns_one (w5.alloc (.cells #[.int .i64 2] 3)) 3
  rw [World.size_alloc] at n2
  have cD := decB_at ((w5.alloc (.cells #[.int .i64 2] 3)).alloc (.cells #[.int .i64 3] 3)) A B C c1 c2 c3 ((hA.below bA (Nat.le_refl _)).below bB (Nat.le_refl _)) (some ⟨w5.heap.size, 0, none⟩) (some ⟨w5.heap.size + 1, 0, none⟩) ((ns_one w5 2).below bB (Nat.le_refl _)) n2
  have X16 := Lib.hid ((X1'.out.alloc (.cells #[.int .i64 2] 3)).alloc (.cells #[.int .i64 3] 3))
  have L36 := Lib.hid ((L3'.out.below bA (Nat.le_refl _)).below bB (Nat.le_refl _))
  have K6 := Lib.hid ((K5.out.alloc s5 (.cells #[.int .i64 2] 3)).alloc (by rw [World.size_alloc]; omega) (.cells #[.int .i64 3] 3))
  clear hA k5 bA bB n2
  go_wp2_with fail
  refine cD.mono ?_
  rintro e w7 ⟨A7, B7, C7, e1, e2, e3, rfl, hA7, k7⟩
  have K7 := Lib.hid (K6.out.trans (k7.mono (by have := K6.out.size; omega)))
  have X17 := Lib.hid (X16.out.below k7)
  have L37 := Lib.hid (L36.out.below k7 (Nat.le_refl _))
  have s7 : b ≤ w7.heap.size := by have := K7.out.size; omega
  have b8 := (Below.refl w7.heap.size w7).alloc (Nat.le_refl _) (.cells #[.slice A7 1 e1, .int .i64 0, .int .i64 0, .slice B7 0 e2, .slice C7 0 e3] 28)
  have X18 := Lib.hid (X17.out.below b8)
  have L38 := Lib.hid (L37.out.below b8 (Nat.le_refl _))
  have P38 := Lib.hid ((hA7.below b8 (Nat.le_refl _)).p)
  have X3 := Lib.hid (ObjAt.new w7 #[.slice A7 1 e1, .int .i64 0, .int .i64 0, .slice B7 0 e2, .slice C7 0 e3] 28)
  have K8 := Lib.hid (K7.out.alloc s7 (.cells #[.slice A7 1 e1, .int .i64 0, .int .i64 0, .slice B7 0 e2, .slice C7 0 e3] 28))
  clear hA7 k7 cD b8
  go_upto_region 3 with fail
  obtain ⟨x3, hx3⟩ : ∃ x, w7.heap.size = x := ⟨_, rfl⟩
  rw [hx3] at X3 ⊢
  clear hx3
  generalize w7.alloc (.cells #[.slice A7 1 e1, .int .i64 0, .int .i64 0, .slice B7 0 e2, .slice C7 0 e3] 28) = W8 at X18 L38 P38 X3 K8 ⊢
  clear X1 X1' L3 L3' K0 K1 K2 K3 K4 K5 K6 K7 X16 L36 X17 L37 s0 s1 s3 s4 s5 s7
  have s8 : b ≤ W8.heap.size := by have := K8.out.size; have := HBB.out; omega
  obtain ⟨n8, hn8⟩ : ∃ x, W8.heap.size = x := ⟨_, rfl⟩
  have b9 := ((Below.refl W8.heap.size W8).alloc (Nat.le_refl _) (.cells #[.int .i64 5, .int .i64 0] 59)).alloc (by simp) (.cells #[.slice none 0 0, .int .i64 3, .int .i64 0, .slice (some ⟨W8.heap.size, 0, none⟩) 1 1, .slice none 0 0] 28)
  have D5 := (ObjAt.new W8 #[.int .i64 5, .int .i64 0] 59).alloc (.cells #[.slice none 0 0, .int .i64 3, .int .i64 0, .slice (some ⟨W8.heap.size, 0, none⟩) 1 1, .slice none 0 0] 28)
  have X5 := ObjAt.new (W8.alloc (.cells #[.int .i64 5, .int .i64 0] 59)) #[.slice none 0 0, .int .i64 3, .int .i64 0, .slice (some ⟨W8.heap.size, 0, none⟩) 1 1, .slice none 0 0] 28
  rw [World.size_alloc] at X5
  have X1b := X18.out.below b9
  have L3b := L38.out.below b9 (Nat.le_refl _)
  have P3b := P38.out.below b9 (Nat.le_refl _)
  have X3b := X3.out.below b9
  have K9 := K8.out.trans (b9.mono (by rw [hn8]; omega))
  rw [hn8] at D5 X5 X1b L3b P3b X3b K9 s8
  have HX1 := Lib.hid X1b
  have HX3 := Lib.hid X3b
  have HX5 := Lib.hid X5
  have HL3 := Lib.hid L3b
  have HP3 := Lib.hid P3b
  have HD5 := Lib.hid D5
  have HK9 := Lib.hid K9
  clear b9 D5 X5 X1b L3b P3b X3b K9 X18 L38 P38 X3 K8
  go_upto_region 4 with fail
  generalize (W8.alloc (.cells #[.int .i64 5, .int .i64 0] 59)).alloc (.cells #[.slice none 0 0, .int .i64 3, .int .i64 0, .slice (some ⟨n8, 0, none⟩) 1 1, .slice none 0 0] 28) = W9 at HX1 HX3 HX5 HL3 HP3 HD5 HK9 ⊢
  clear hn8
  have y0 := HX5.out.get (k := 0) (v := .slice none 0 0) rfl
  have y1 := HX5.out.get (k := 1) (v := .int .i64 3) rfl
  have y2 := HX5.out.get (k := 2) (v := .int .i64 0) rfl
  have y3 := HX5.out.get (k := 3) (v := .slice (some ⟨n8, 0, none⟩) 1 1) rfl
  have y4 := HX5.out.get (k := 4) (v := .slice none 0 0) rfl
  have bA := (Below.refl W9.heap.size W9).alloc (Nat.le_refl _) (.cells #[.int .i64 5] 3)
  have hA : HAt (W9.alloc (.cells #[.int .i64 5] 3)) none (some ⟨n8, 0, none⟩) none 0 0 1 1 0 0 exC := by
    have d5 := HD5.out.below bA
    exact ⟨.inl rfl, .inr ⟨n8, 0, rfl, d5.lt, fun k hk => by
      have : k = 0 := by simpa [exC] using hk
      subst this
      exact ⟨d5.get (k := 0) (v := .int .i64 5) rfl, d5.get (k := 1) (v := .int .i64 0) rfl⟩⟩, .inl rfl, rfl, rfl, rfl, ⟨by decide, by unfold maxLen; omega⟩, ⟨by decide, by unfold maxLen; omega⟩, ⟨by decide, by unfold maxLen; omega⟩⟩
  have cD := decC_at (W9.alloc (.cells #[.int .i64 5] 3)) (some ⟨n8, 0, none⟩) (some ⟨W9.heap.size, 0, none⟩) hA (ns_one W9 5)
  have s9 : b ≤ W9.heap.size := by have := HK9.out.size; have := HBB.out; omega
  have KA := Lib.hid (HK9.out.alloc s9 (.cells #[.int .i64 5] 3))
  have BA := Lib.hid bA
  have NZ := Lib.hid (show ∀ W, Below W9.heap.size W9 W → ObjAt W x1 #[.slice A3 1 d1, .int .i64 0, .int .i64 0, .slice B3 0 d2, .slice C3 2 d3] 28 ∧ ObjAt W x3 #[.slice A7 1 e1, .int .i64 0, .int .i64 0, .slice B7 0 e2, .slice C7 0 e3] 28 ∧ ObjAt W (n8 + 1) #[.slice none 0 0, .int .i64 3, .int .i64 0, .slice (some ⟨n8, 0, none⟩) 1 1, .slice none 0 0] 28 ∧ AtL W C3 exA.lays ∧ AtP W A7 exB.props from
    fun W hb => ⟨HX1.out.below hb, HX3.out.below hb, HX5.out.below hb, HL3.out.below hb (Nat.le_refl _), HP3.out.below hb (Nat.le_refl _)⟩)
  clear hA bA HX1 HX3 HX5 HL3 HP3 HD5
  go_wp2_with fail
  refine cD.mono ?_
  rintro e w11 ⟨A9, B9, C9, g1, g2, g3, rfl, k11⟩
  have KB := Lib.hid (KA.out.trans (k11.mono (by have := KA.out.size; have := HBB.out; omega)))
  have B11 := Lib.hid ((BA.out.trans (k11.mono (by simp))).alloc (by have := k11.size; simp at this; omega) (.cells #[.slice A9 0 g1, .int .i64 0, .int .i64 0, .slice B9 0 g2, .slice C9 0 g3] 28))
  have KC := Lib.hid (KB.out.alloc (by have := KB.out.size; have := HBB.out; omega) (.cells #[.slice A9 0 g1, .int .i64 0, .int .i64 0, .slice B9 0 g2, .slice C9 0 g3] 28))
  clear cD k11 y0 y1 y2 y3 y4
  go_upto_region 5 with fail
  generalize w11.alloc (.cells #[.slice A9 0 g1, .int .i64 0, .int .i64 0, .slice B9 0 g2, .slice C9 0 g3] 28) = W12 at B11 KC ⊢
  obtain ⟨o1, o3, o5, hl, hp⟩ := NZ.out _ B11.out
  have u1 := o1.get (k := 4) (v := .slice C3 2 d3) rfl
  have u3 := o3.get (k := 4) (v := .slice C7 0 e3) rfl
  have v3 := o3.get (k := 0) (v := .slice A7 1 e1) rfl
  obtain ⟨g, o, rfl, hg, hcl⟩ := hl.pos (by decide)
  obtain ⟨g', o', rfl, hg', hcp⟩ := hp.pos (by decide)
  have z0 : W12.cell? ⟨g, o + 4, none⟩ = some (.int .i64 3) := (hcl 1 (by decide)).1
  have z1 : W12.cell? ⟨g, o + 4 + 1, none⟩ = some (.int .i64 4) := (hcl 1 (by decide)).2.1
  have z2 : W12.cell? ⟨g, o + 4 + 2, none⟩ = some (.int .i64 1) := (hcl 1 (by decide)).2.2.1
  have z3 : W12.cell? ⟨g, o + 4 + 3, none⟩ = some (.bool true) := (hcl 1 (by decide)).2.2.2
  have t1 : W12.cell? ⟨g', o' + 1, none⟩ = some (.int .i64 2) := (hcp 0 (by decide)).2
  have cV := fun W => visible_any none none none 0 0 0 0 0 0 0 0 W
  have cW := fun W => visible_any none (some ⟨n8, 0, none⟩) none 0 0 1 1 0 0 3 0 W
  unfold hdV at cV cW
  have O5 := Lib.hid o5
  clear hcl hcp hl hp o1 o3 o5 NZ
  have sC := KC.out.size
  rw [HBB.out] at sC
  go_wp2_with fail
  (with_reducible refine (cV _).mono ?_)
  rintro e w13 ⟨rfl, k13⟩
  have O6 := O5.out.below k13
  have KD := Lib.hid (KC.out.trans (k13.mono sC))
  have y0 := O6.get (k := 0) (v := .slice none 0 0) rfl
  have y1 := O6.get (k := 1) (v := .int .i64 3) rfl
  have y2 := O6.get (k := 2) (v := .int .i64 0) rfl
  have y3 := O6.get (k := 3) (v := .slice (some ⟨n8, 0, none⟩) 1 1) rfl
  have y4 := O6.get (k := 4) (v := .slice none 0 0) rfl
  have sD := KD.out.size
  rw [HBB.out] at sD
  clear k13 u1 u3 v3 z0 z1 z2 z3 t1 O6
  go_wp2_with fail
  (with_reducible refine (cW _).mono ?_)
  rintro e w14 ⟨rfl, k14⟩
  have KE := Lib.hid (KD.out.trans (k14.mono sD))
  clear k14 y0 y1 y2 y3 y4
  go_wp2
  go_ret
  exact ⟨rfl, KE.out⟩
end Go.Proofs.Ytjhppkjngifibaa
