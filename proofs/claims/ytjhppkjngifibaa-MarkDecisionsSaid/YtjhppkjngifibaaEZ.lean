/- Layer 23: Union. -/
import Derived.Test.YtjhppkjngifibaaEY
import Derived.Test.YtjhppkjngifibaaEZ0
import Derived.Test.YtjhppkjngifibaaEM1
namespace Go.Proofs.Ytjhppkjngifibaa
open Go.RowKit Go.Lib
set_option linter.unusedVariables false

theorem LLAt.below {w w' : World} {A : Option Addr} {l : List (List Int)} (h : LLAt w A l) {n : Nat} (hb : Below n w w') (hn : w.heap.size ≤ n) : LLAt w' A l := by
  rcases h with h | ⟨g, o, h1, h2, h3⟩
  · exact .inl h
  · refine .inr ⟨g, o, h1, Nat.lt_of_lt_of_le h2 hb.size, fun k hk => ?_⟩
    obtain ⟨B, c, h4, h5⟩ := h3 k hk
    exact ⟨B, c, (hb.cell (p := ⟨g, o + k, none⟩) (Nat.lt_of_lt_of_le h2 hn)).trans h4, h5.below hb hn⟩
theorem ll_two {w : World} {A B : Option Addr} {l1 l2 : List Int} {n1 n2 : Nat} (c1 c2 : Nat) (e1 : l1.length = n1) (e2 : l2.length = n2) (hA : NsAt w A l1) (hB : NsAt w B l2) : LLAt (w.alloc (.cells #[.slice A n1 c1, .slice B n2 c2] 29)) (some ⟨w.heap.size, 0, none⟩) [l1, l2] := by
  subst e1 e2
  have bb := (Below.refl w.heap.size w).alloc (Nat.le_refl _) (.cells #[.slice A l1.length c1, .slice B l2.length c2] 29)
  have O := ObjAt.new w #[.slice A l1.length c1, .slice B l2.length c2] 29
  refine .inr ⟨w.heap.size, 0, rfl, by simp, fun k hk => ?_⟩
  match k, hk with
  | 0, _ => exact ⟨A, c1, O.get (k := 0) rfl, hA.below bb (Nat.le_refl _)⟩
  | 1, _ => exact ⟨B, c2, O.get (k := 1) rfl, hB.below bb (Nat.le_refl _)⟩
theorem row_obj2 {w : World} {base n sz k : Nat} {t t' : TypeId} {v : Value} {xs : List Value} {cs : Array Value} (x : w.ownsRow base t sz v n xs) (y : ObjAt w k cs t') (h : t' ≠ t) (u1 u2 : Value) : ((w.setCell ⟨k, 0, none⟩ u1).setCell ⟨k, 1, none⟩ u2).ownsRow base t sz v n xs := by
  refine own_keptC x fun j c t z hj hc => ?_
  have hne : j ≠ k := fun e => obj_far x y h (by rw [hj, e])
  exact (Below.heap_setCell _ _ _ j hne).trans ((Below.heap_setCell _ _ _ j hne).trans hc)
theorem i64_rev {l : List Int} (h : RevL l) : ∀ a ∈ l, I64 a := fun a ha => by have := h.1 a ha; unfold I64; omega
def UniR (LA LR : List Int) (w : World) (e : Ending) (w' : World) : Prop := Below w.heap.size w w' ∧ ((ckD LA LR = 0 ∧ ∃ P c P' c', e = .returned (.tuple #[.agg #[.slice P LA.length c, .slice P' LR.length c'], .int .i64 0]) ∧ w'.ownsRow w.heap.size 3 1 (.slice P LA.length c) LA.length (LA.map encZ) ∧ w'.ownsRow w.heap.size 3 1 (.slice P' LR.length c') LR.length (LR.map encZ)) ∨ (ckD LA LR ≠ 0 ∧ e = .returned (.tuple #[.agg #[.slice none 0 0, .slice none 0 0], .int .i64 (ckD LA LR)])))
set_option maxRecDepth 100000 in
set_option maxHeartbeats 8000000 in
theorem union_ok (la lr la' lr' : List Int) (na nb na' nb' ca cb ca' cb' : Nat) (A B A' B' : Option Addr) (w : World) (e1 : la.length = na) (e2 : lr.length = nb) (e3 : la'.length = na') (e4 : lr'.length = nb') (hA : NsAt w A la) (hB : NsAt w B lr) (hA' : NsAt w A' la') (hB' : NsAt w B' lr')
    (h1 : ckD la lr = 0) (h2 : ckD la' lr' = 0) (s1 : na + na' ≤ 1000) (s2 : nb + nb' ≤ 1000) :
    Calls Try.prog 19 #[.agg #[.slice A na ca, .slice B nb cb], .agg #[.slice A' na' ca', .slice B' nb' cb']] w (UniR (srtU (la ++ la')) (srtU (lr ++ lr')) w) := by
  have K1 := Lib.hid ((ckD_iff la lr).1 h1)
  have K2 := Lib.hid ((ckD_iff la' lr').1 h2)
  have c1 := fun W (hb : Below w.heap.size w W) => checkdec_any la lr na nb e1 e2 (by omega) (by omega) A B ca cb W (hA.below hb (Nat.le_refl _)) (hB.below hb (Nat.le_refl _))
  have c2 := fun W (hb : Below w.heap.size w W) => checkdec_any la' lr' na' nb' e3 e4 (by omega) (by omega) A' B' ca' cb' W (hA'.below hb (Nat.le_refl _)) (hB'.below hb (Nat.le_refl _))
  rw [h1] at c1
  rw [h2] at c2
  have cA := Lib.hid (fun W X (hL : LLAt W X [la, la']) => unite_any [la, la'] 2 rfl (by decide) (by simp; omega) (by intro l hl; simp at hl; rcases hl with rfl | rfl; exact i64_rev K1.out.1; exact i64_rev K2.out.1) X 2 W hL)
  have cR := Lib.hid (fun W X (hL : LLAt W X [lr, lr']) => unite_any [lr, lr'] 2 rfl (by decide) (by simp; omega) (by intro l hl; simp at hl; rcases hl with rfl | rfl; exact i64_rev K1.out.2.1; exact i64_rev K2.out.2.1) X 2 W hL)
  have eA : [la, la'].flatten = la ++ la' := by simp
  have eR : [lr, lr'].flatten = lr ++ lr' := by simp
  rw [eA] at cA
  rw [eR] at cR
  have sA : (srtU (la ++ la')).length ≤ 1000 := Nat.le_trans (srtU_len _) (by simp; omega)
  have sR : (srtU (lr ++ lr')).length ≤ 1000 := Nat.le_trans (srtU_len _) (by simp; omega)
  have c3 := Lib.hid (fun W P c P' c' (hP : NsAt W P (srtU (la ++ la'))) (hP' : NsAt W P' (srtU (lr ++ lr'))) => checkdec_any (srtU (la ++ la')) (srtU (lr ++ lr')) _ _ rfl rfl sA sR P P' c c' W hP hP')
  generalize srtU (la ++ la') = SA at *
  generalize srtU (lr ++ lr') = SR at *
  have E1 := Lib.hid e1
  have E2 := Lib.hid e2
  have E3 := Lib.hid e3
  have E4 := Lib.hid e4
  have HW := Lib.hid (⟨hA, hB, hA', hB'⟩ : NsAt w A la ∧ NsAt w B lr ∧ NsAt w A' la' ∧ NsAt w B' lr')
  have b0 := (((Below.refl w.heap.size w).alloc (Nat.le_refl _) (.cells #[.slice A na ca, .slice B nb cb] 31)).alloc (by simp) (.cells #[.slice A' na' ca', .slice B' nb' cb'] 31)).alloc (by simp; omega) (.cells #[.slice none 0 0, .slice none 0 0] 31)
  have O1 := ((ObjAt.new w #[.slice A na ca, .slice B nb cb] 31).alloc (.cells #[.slice A' na' ca', .slice B' nb' cb'] 31)).alloc (.cells #[.slice none 0 0, .slice none 0 0] 31)
  have O2 := (ObjAt.new (w.alloc (.cells #[.slice A na ca, .slice B nb cb] 31)) #[.slice A' na' ca', .slice B' nb' cb'] 31).alloc (.cells #[.slice none 0 0, .slice none 0 0] 31)
  have O3 := ObjAt.new ((w.alloc (.cells #[.slice A na ca, .slice B nb cb] 31)).alloc (.cells #[.slice A' na' ca', .slice B' nb' cb'] 31)) #[.slice none 0 0, .slice none 0 0] 31
  rw [World.size_alloc] at O2 O3
  rw [World.size_alloc] at O3
  clear h1 h2 e1 e2 e3 e4 hA hB hA' hB' eA eR
  obtain ⟨b, hbb⟩ : ∃ b, w.heap.size = b := ⟨_, rfl⟩
  rw [hbb] at b0 O1 O2 O3 c1 c2
  have HBB := Lib.hid hbb
  have KB := Lib.hid b0
  have X2 := Lib.hid O1
  have X3 := Lib.hid O2
  have X4 := Lib.hid O3
  clear b0 O1 O2 O3
  go_enter Try.func19, Try.ntmps19
  go_upto_region 1 with fail
  clear hbb
  generalize ((w.alloc (.cells #[.slice A na ca, .slice B nb cb] 31)).alloc (.cells #[.slice A' na' ca', .slice B' nb' cb'] 31)).alloc (.cells #[.slice none 0 0, .slice none 0 0] 31) = W0 at KB X2 X3 X4 ⊢
  have y0 := X2.out.get (k := 0) (v := .slice A na ca) rfl
  have y1 := X2.out.get (k := 1) (v := .slice B nb cb) rfl
  have cc := c1 _ KB.out
  go_wp2_with fail
  (with_reducible refine cc.mono ?_)
  rintro e W1 ⟨rfl, kk⟩
  have zz := X4.out.lt
  replace KB := Lib.hid (KB.out.trans (kk.mono (by omega)))
  replace X2 := Lib.hid (X2.out.below kk)
  replace X3 := Lib.hid (X3.out.below kk)
  replace X4 := Lib.hid (X4.out.below kk)
  clear y0 y1 cc kk c1
  have y0 := X3.out.get (k := 0) (v := .slice A' na' ca') rfl
  have y1 := X3.out.get (k := 1) (v := .slice B' nb' cb') rfl
  have cc := c2 _ KB.out
  go_wp2_with fail
  (with_reducible refine cc.mono ?_)
  rintro e V ⟨rfl, kk⟩
  have zz := X4.out.lt
  replace KB := Lib.hid (KB.out.trans (kk.mono (by omega)))
  replace X2 := Lib.hid (X2.out.below kk)
  replace X3 := Lib.hid (X3.out.below kk)
  replace X4 := Lib.hid (X4.out.below kk)
  clear y0 y1 cc kk c2
  go_upto_region 7 with fail
  have HA := Lib.hid (HW.out.1.below (by rw [HBB.out]; exact KB.out) (Nat.le_refl _))
  have HR := Lib.hid (HW.out.2.1.below (by rw [HBB.out]; exact KB.out) (Nat.le_refl _))
  have HA2 := Lib.hid (HW.out.2.2.1.below (by rw [HBB.out]; exact KB.out) (Nat.le_refl _))
  have HR2 := Lib.hid (HW.out.2.2.2.below (by rw [HBB.out]; exact KB.out) (Nat.le_refl _))
  have hVb : b + 3 ≤ V.heap.size := by have := X4.out.lt; omega
  refine region_inv2 (fun a0 => fun (L : Nat → Bool) (a : Act) (w : World) => ∃ u22 u23 u24 u25 u26 u27 u28 u29 u30 u31 u32 u33 u34 u8 : Value, a = ((((((((((((((a0.put (some 22) u22).put (some 23) u23).put (some 24) u24).put (some 25) u25).put (some 26) u26).put (some 27) u27).put (some 28) u28).put (some 29) u29).put (some 30) u30).put (some 31) u31).put (some 32) u32).put (some 33) u33).put (some 34) u34).put (some 8) u8) ∧ (Hid (Below V.heap.size V w)) ∧ (L 0 = true → u22 = (.pointer (some ⟨b, 0, none⟩))) ∧ (L 1 = true → u23 = (.slice A na ca)) ∧ (L 2 = true → u24 = (.pointer (some ⟨b + 1, 0, none⟩))) ∧ (L 3 = true → u25 = (.slice A' na' ca')) ∧ (L 6 = true → u28 = (.pointer (some ⟨b, 1, none⟩))) ∧ (L 7 = true → u29 = (.slice B nb cb)) ∧ (L 8 = true → u30 = (.pointer (some ⟨b + 1, 1, none⟩))) ∧ (L 9 = true → u31 = (.slice B' nb' cb')) ∧ (L 4 = true → L 5 = false → ∃ X : Nat, u26 = .slice (some ⟨X, 0, none⟩) 2 2 ∧ LLAt w (some ⟨X, 0, none⟩) [la, la']) ∧ (L 5 = true → ∃ P m c, u27 = .slice P m c ∧ m = (SA.length) ∧ w.ownsRow V.heap.size 3 1 (.slice P m c) m (SA.map encZ)) ∧ (L 10 = true → L 11 = false → ∃ X : Nat, u32 = .slice (some ⟨X, 0, none⟩) 2 2 ∧ LLAt w (some ⟨X, 0, none⟩) [lr, lr']) ∧ (L 11 = true → ∃ P m c, u33 = .slice P m c ∧ m = SR.length ∧ w.ownsRow V.heap.size 3 1 (.slice P m c) m (SR.map encZ)) ∧ (L 12 = true → (L 5 = true ∧ L 11 = true ∧ u34 = .agg #[u27, u33])) ∧ (L 13 = true → L 14 = false → ∃ X : Nat, u8 = .pointer (some ⟨X, 0, none⟩) ∧ V.heap.size ≤ X ∧ ObjAt w X #[(.slice none 0 0), (.slice none 0 0)] 31) ∧ (L 14 = true → ∃ X : Nat, u8 = .pointer (some ⟨X, 0, none⟩) ∧ V.heap.size ≤ X ∧ ObjAt w X #[u27, u33] 31) ∧ (L 14 = true → (L 13 = true ∧ L 5 = true ∧ L 11 = true))) (by kernel_rfl) (by kernel_rfl) ?h0 ?hs ?he
  case h0 =>
    refine ⟨undef, undef, undef, undef, undef, undef, undef, undef, undef, undef, undef, undef, undef, undef, by kernel_rfl, Lib.hid (Below.refl _ V).drew, (fun h0 => by cases h0), (fun h0 => by cases h0), (fun h0 => by cases h0), (fun h0 => by cases h0), (fun h0 => by cases h0), (fun h0 => by cases h0), (fun h0 => by cases h0), (fun h0 => by cases h0), (fun h0 => by cases h0), (fun h0 => by cases h0), (fun h0 => by cases h0), (fun h0 => by cases h0), (fun h0 => by cases h0), (fun h0 => by cases h0), (fun h0 => by cases h0), (fun h0 => by cases h0)⟩
  case hs =>
    repeat' (first | refine StepsI.cons ?_ ?_ | exact StepsI.nil)
    · intro L a w hI hl hd K' hK
      obtain ⟨u22, u23, u24, u25, u26, u27, u28, u29, u30, u31, u32, u33, u34, u8, HE, HB, f0, f1, f2, f3, f6, f7, f8, f9, f4, f5, f10, f11, f12, f13, f14, g14⟩ := hI
      refine step_eq HE ?_
      clear HE hd
      go_simp
      refine hK _ _ ⟨(.pointer (some ⟨b, 0, none⟩)), u23, u24, u25, u26, u27, u28, u29, u30, u31, u32, u33, u34, u8, by kernel_rfl, HB, (fun h0 => rfl), (fun h0 => (f1 ((plus_other L (show 1 ≠ 0 by decide)).symm.trans h0))), (fun h0 => (f2 ((plus_other L (show 2 ≠ 0 by decide)).symm.trans h0))), (fun h0 => (f3 ((plus_other L (show 3 ≠ 0 by decide)).symm.trans h0))), (fun h0 => (f6 ((plus_other L (show 6 ≠ 0 by decide)).symm.trans h0))), (fun h0 => (f7 ((plus_other L (show 7 ≠ 0 by decide)).symm.trans h0))), (fun h0 => (f8 ((plus_other L (show 8 ≠ 0 by decide)).symm.trans h0))), (fun h0 => (f9 ((plus_other L (show 9 ≠ 0 by decide)).symm.trans h0))), (fun h0 h1 => (f4 ((plus_other L (show 4 ≠ 0 by decide)).symm.trans h0) ((plus_other L (show 5 ≠ 0 by decide)).symm.trans h1))), (fun h0 => (f5 ((plus_other L (show 5 ≠ 0 by decide)).symm.trans h0))), (fun h0 h1 => (f10 ((plus_other L (show 10 ≠ 0 by decide)).symm.trans h0) ((plus_other L (show 11 ≠ 0 by decide)).symm.trans h1))), (fun h0 => (f11 ((plus_other L (show 11 ≠ 0 by decide)).symm.trans h0))), (fun h0 => (let ⟨q5, q11, q⟩ := (f12 ((plus_other L (show 12 ≠ 0 by decide)).symm.trans h0)); ⟨(plus_other L (by decide)).trans q5, (plus_other L (by decide)).trans q11, q⟩)), (fun h0 h1 => (f13 ((plus_other L (show 13 ≠ 0 by decide)).symm.trans h0) ((plus_other L (show 14 ≠ 0 by decide)).symm.trans h1))), (fun h0 => (f14 ((plus_other L (show 14 ≠ 0 by decide)).symm.trans h0))), (fun h0 => (let ⟨q13, q5, q11⟩ := (g14 ((plus_other L (show 14 ≠ 0 by decide)).symm.trans h0)); ⟨(plus_other L (by decide)).trans q13, (plus_other L (by decide)).trans q5, (plus_other L (by decide)).trans q11⟩))⟩
    · intro L a w hI hl hd K' hK
      obtain ⟨u22, u23, u24, u25, u26, u27, u28, u29, u30, u31, u32, u33, u34, u8, HE, HB, f0, f1, f2, f3, f6, f7, f8, f9, f4, f5, f10, f11, f12, f13, f14, g14⟩ := hI
      obtain rfl := f0 (hd 0 (by rfl))
      have z := (X2.out.below HB.out).get (k := 0) (v := .slice A na ca) rfl
      refine step_eq HE ?_
      clear HE hd
      go_simp
      refine hK _ _ ⟨(.pointer (some ⟨b, 0, none⟩)), (.slice A na ca), u24, u25, u26, u27, u28, u29, u30, u31, u32, u33, u34, u8, by kernel_rfl, HB, (fun h0 => (f0 ((plus_other L (show 0 ≠ 1 by decide)).symm.trans h0))), (fun h0 => rfl), (fun h0 => (f2 ((plus_other L (show 2 ≠ 1 by decide)).symm.trans h0))), (fun h0 => (f3 ((plus_other L (show 3 ≠ 1 by decide)).symm.trans h0))), (fun h0 => (f6 ((plus_other L (show 6 ≠ 1 by decide)).symm.trans h0))), (fun h0 => (f7 ((plus_other L (show 7 ≠ 1 by decide)).symm.trans h0))), (fun h0 => (f8 ((plus_other L (show 8 ≠ 1 by decide)).symm.trans h0))), (fun h0 => (f9 ((plus_other L (show 9 ≠ 1 by decide)).symm.trans h0))), (fun h0 h1 => (f4 ((plus_other L (show 4 ≠ 1 by decide)).symm.trans h0) ((plus_other L (show 5 ≠ 1 by decide)).symm.trans h1))), (fun h0 => (f5 ((plus_other L (show 5 ≠ 1 by decide)).symm.trans h0))), (fun h0 h1 => (f10 ((plus_other L (show 10 ≠ 1 by decide)).symm.trans h0) ((plus_other L (show 11 ≠ 1 by decide)).symm.trans h1))), (fun h0 => (f11 ((plus_other L (show 11 ≠ 1 by decide)).symm.trans h0))), (fun h0 => (let ⟨q5, q11, q⟩ := (f12 ((plus_other L (show 12 ≠ 1 by decide)).symm.trans h0)); ⟨(plus_other L (by decide)).trans q5, (plus_other L (by decide)).trans q11, q⟩)), (fun h0 h1 => (f13 ((plus_other L (show 13 ≠ 1 by decide)).symm.trans h0) ((plus_other L (show 14 ≠ 1 by decide)).symm.trans h1))), (fun h0 => (f14 ((plus_other L (show 14 ≠ 1 by decide)).symm.trans h0))), (fun h0 => (let ⟨q13, q5, q11⟩ := (g14 ((plus_other L (show 14 ≠ 1 by decide)).symm.trans h0)); ⟨(plus_other L (by decide)).trans q13, (plus_other L (by decide)).trans q5, (plus_other L (by decide)).trans q11⟩))⟩
    · intro L a w hI hl hd K' hK
      obtain ⟨u22, u23, u24, u25, u26, u27, u28, u29, u30, u31, u32, u33, u34, u8, HE, HB, f0, f1, f2, f3, f6, f7, f8, f9, f4, f5, f10, f11, f12, f13, f14, g14⟩ := hI
      refine step_eq HE ?_
      clear HE hd
      go_simp
      refine hK _ _ ⟨u22, u23, (.pointer (some ⟨b + 1, 0, none⟩)), u25, u26, u27, u28, u29, u30, u31, u32, u33, u34, u8, by kernel_rfl, HB, (fun h0 => (f0 ((plus_other L (show 0 ≠ 2 by decide)).symm.trans h0))), (fun h0 => (f1 ((plus_other L (show 1 ≠ 2 by decide)).symm.trans h0))), (fun h0 => rfl), (fun h0 => (f3 ((plus_other L (show 3 ≠ 2 by decide)).symm.trans h0))), (fun h0 => (f6 ((plus_other L (show 6 ≠ 2 by decide)).symm.trans h0))), (fun h0 => (f7 ((plus_other L (show 7 ≠ 2 by decide)).symm.trans h0))), (fun h0 => (f8 ((plus_other L (show 8 ≠ 2 by decide)).symm.trans h0))), (fun h0 => (f9 ((plus_other L (show 9 ≠ 2 by decide)).symm.trans h0))), (fun h0 h1 => (f4 ((plus_other L (show 4 ≠ 2 by decide)).symm.trans h0) ((plus_other L (show 5 ≠ 2 by decide)).symm.trans h1))), (fun h0 => (f5 ((plus_other L (show 5 ≠ 2 by decide)).symm.trans h0))), (fun h0 h1 => (f10 ((plus_other L (show 10 ≠ 2 by decide)).symm.trans h0) ((plus_other L (show 11 ≠ 2 by decide)).symm.trans h1))), (fun h0 => (f11 ((plus_other L (show 11 ≠ 2 by decide)).symm.trans h0))), (fun h0 => (let ⟨q5, q11, q⟩ := (f12 ((plus_other L (show 12 ≠ 2 by decide)).symm.trans h0)); ⟨(plus_other L (by decide)).trans q5, (plus_other L (by decide)).trans q11, q⟩)), (fun h0 h1 => (f13 ((plus_other L (show 13 ≠ 2 by decide)).symm.trans h0) ((plus_other L (show 14 ≠ 2 by decide)).symm.trans h1))), (fun h0 => (f14 ((plus_other L (show 14 ≠ 2 by decide)).symm.trans h0))), (fun h0 => (let ⟨q13, q5, q11⟩ := (g14 ((plus_other L (show 14 ≠ 2 by decide)).symm.trans h0)); ⟨(plus_other L (by decide)).trans q13, (plus_other L (by decide)).trans q5, (plus_other L (by decide)).trans q11⟩))⟩
    · intro L a w hI hl hd K' hK
      obtain ⟨u22, u23, u24, u25, u26, u27, u28, u29, u30, u31, u32, u33, u34, u8, HE, HB, f0, f1, f2, f3, f6, f7, f8, f9, f4, f5, f10, f11, f12, f13, f14, g14⟩ := hI
      obtain rfl := f2 (hd 2 (by rfl))
      have z := (X3.out.below HB.out).get (k := 0) (v := .slice A' na' ca') rfl
      refine step_eq HE ?_
      clear HE hd
      go_simp
      refine hK _ _ ⟨u22, u23, (.pointer (some ⟨b + 1, 0, none⟩)), (.slice A' na' ca'), u26, u27, u28, u29, u30, u31, u32, u33, u34, u8, by kernel_rfl, HB, (fun h0 => (f0 ((plus_other L (show 0 ≠ 3 by decide)).symm.trans h0))), (fun h0 => (f1 ((plus_other L (show 1 ≠ 3 by decide)).symm.trans h0))), (fun h0 => (f2 ((plus_other L (show 2 ≠ 3 by decide)).symm.trans h0))), (fun h0 => rfl), (fun h0 => (f6 ((plus_other L (show 6 ≠ 3 by decide)).symm.trans h0))), (fun h0 => (f7 ((plus_other L (show 7 ≠ 3 by decide)).symm.trans h0))), (fun h0 => (f8 ((plus_other L (show 8 ≠ 3 by decide)).symm.trans h0))), (fun h0 => (f9 ((plus_other L (show 9 ≠ 3 by decide)).symm.trans h0))), (fun h0 h1 => (f4 ((plus_other L (show 4 ≠ 3 by decide)).symm.trans h0) ((plus_other L (show 5 ≠ 3 by decide)).symm.trans h1))), (fun h0 => (f5 ((plus_other L (show 5 ≠ 3 by decide)).symm.trans h0))), (fun h0 h1 => (f10 ((plus_other L (show 10 ≠ 3 by decide)).symm.trans h0) ((plus_other L (show 11 ≠ 3 by decide)).symm.trans h1))), (fun h0 => (f11 ((plus_other L (show 11 ≠ 3 by decide)).symm.trans h0))), (fun h0 => (let ⟨q5, q11, q⟩ := (f12 ((plus_other L (show 12 ≠ 3 by decide)).symm.trans h0)); ⟨(plus_other L (by decide)).trans q5, (plus_other L (by decide)).trans q11, q⟩)), (fun h0 h1 => (f13 ((plus_other L (show 13 ≠ 3 by decide)).symm.trans h0) ((plus_other L (show 14 ≠ 3 by decide)).symm.trans h1))), (fun h0 => (f14 ((plus_other L (show 14 ≠ 3 by decide)).symm.trans h0))), (fun h0 => (let ⟨q13, q5, q11⟩ := (g14 ((plus_other L (show 14 ≠ 3 by decide)).symm.trans h0)); ⟨(plus_other L (by decide)).trans q13, (plus_other L (by decide)).trans q5, (plus_other L (by decide)).trans q11⟩))⟩
    · intro L a w hI hl hd K' hK
      obtain ⟨u22, u23, u24, u25, u26, u27, u28, u29, u30, u31, u32, u33, u34, u8, HE, HB, f0, f1, f2, f3, f6, f7, f8, f9, f4, f5, f10, f11, f12, f13, f14, g14⟩ := hI
      obtain rfl := f1 (hd 1 (by rfl))
      obtain rfl := f3 (hd 3 (by rfl))
      have kk := (Below.refl w.heap.size w).alloc (Nat.le_refl _) (.cells #[.slice A na ca, .slice A' na' ca'] 29)
      have LA := ll_two (w := w) (A := A) (B := A') ca ca' E1.out E3.out (HA.out.below HB.out (Nat.le_refl _)) (HA2.out.below HB.out (Nat.le_refl _))
      refine step_eq HE ?_
      clear HE hd
      go_simp
      refine hK _ _ ⟨u22, (.slice A na ca), u24, (.slice A' na' ca'), (.slice (some ⟨w.heap.size, 0, none⟩) 2 2), u27, u28, u29, u30, u31, u32, u33, u34, u8, by kernel_rfl, Lib.hid (HB.out.trans (kk.mono HB.out.size)), (fun h0 => (f0 ((plus_other L (show 0 ≠ 4 by decide)).symm.trans h0))), (fun h0 => (f1 ((plus_other L (show 1 ≠ 4 by decide)).symm.trans h0))), (fun h0 => (f2 ((plus_other L (show 2 ≠ 4 by decide)).symm.trans h0))), (fun h0 => (f3 ((plus_other L (show 3 ≠ 4 by decide)).symm.trans h0))), (fun h0 => (f6 ((plus_other L (show 6 ≠ 4 by decide)).symm.trans h0))), (fun h0 => (f7 ((plus_other L (show 7 ≠ 4 by decide)).symm.trans h0))), (fun h0 => (f8 ((plus_other L (show 8 ≠ 4 by decide)).symm.trans h0))), (fun h0 => (f9 ((plus_other L (show 9 ≠ 4 by decide)).symm.trans h0))), (fun h0 h1 => ⟨w.heap.size, rfl, LA⟩), (fun h0 => (let ⟨P, m, c, e, e2, r⟩ := (f5 ((plus_other L (show 5 ≠ 4 by decide)).symm.trans h0)); ⟨P, m, c, e, e2, row_below r kk⟩)), (fun h0 h1 => (let ⟨X, e, l⟩ := (f10 ((plus_other L (show 10 ≠ 4 by decide)).symm.trans h0) ((plus_other L (show 11 ≠ 4 by decide)).symm.trans h1)); ⟨X, e, l.below kk (Nat.le_refl _)⟩)), (fun h0 => (let ⟨P, m, c, e, e2, r⟩ := (f11 ((plus_other L (show 11 ≠ 4 by decide)).symm.trans h0)); ⟨P, m, c, e, e2, row_below r kk⟩)), (fun h0 => (let ⟨q5, q11, q⟩ := (f12 ((plus_other L (show 12 ≠ 4 by decide)).symm.trans h0)); ⟨(plus_other L (by decide)).trans q5, (plus_other L (by decide)).trans q11, q⟩)), (fun h0 h1 => (let ⟨X, e, hX, q⟩ := (f13 ((plus_other L (show 13 ≠ 4 by decide)).symm.trans h0) ((plus_other L (show 14 ≠ 4 by decide)).symm.trans h1)); ⟨X, e, hX, q.below kk⟩)), (fun h0 => (let ⟨X, e, hX, q⟩ := (f14 ((plus_other L (show 14 ≠ 4 by decide)).symm.trans h0)); ⟨X, e, hX, q.below kk⟩)), (fun h0 => (let ⟨q13, q5, q11⟩ := (g14 ((plus_other L (show 14 ≠ 4 by decide)).symm.trans h0)); ⟨(plus_other L (by decide)).trans q13, (plus_other L (by decide)).trans q5, (plus_other L (by decide)).trans q11⟩))⟩
    · intro L a w hI hl hd K' hK
      obtain ⟨u22, u23, u24, u25, u26, u27, u28, u29, u30, u31, u32, u33, u34, u8, HE, HB, f0, f1, f2, f3, f6, f7, f8, f9, f4, f5, f10, f11, f12, f13, f14, g14⟩ := hI
      obtain ⟨X, rfl, LA⟩ := f4 (hd 4 (by rfl)) hl
      have hg := hd 4 (by rfl)
      have hX12 : L 12 = false := by
        cases h : L 12 with
        | false => rfl
        | true => have := (f12 h).1; rw [hl] at this; cases this
      refine step_eq HE ?_
      clear HE hd
      go_wp2_with (go_at_call 57; (with_reducible refine (cA.out _ _ LA).mono ?_); rintro e w' ⟨PA, cq, rfl, oA, kk⟩)
      (try (refine hK _ _ ?_))
      refine ⟨u22, u23, u24, u25, (.slice (some ⟨X, 0, none⟩) 2 2), (.slice PA SA.length cq), u28, u29, u30, u31, u32, u33, u34, u8, by kernel_rfl, Lib.hid (HB.out.trans (kk.mono HB.out.size)), (fun h0 => (f0 ((plus_other L (show 0 ≠ 5 by decide)).symm.trans h0))), (fun h0 => (f1 ((plus_other L (show 1 ≠ 5 by decide)).symm.trans h0))), (fun h0 => (f2 ((plus_other L (show 2 ≠ 5 by decide)).symm.trans h0))), (fun h0 => (f3 ((plus_other L (show 3 ≠ 5 by decide)).symm.trans h0))), (fun h0 => (f6 ((plus_other L (show 6 ≠ 5 by decide)).symm.trans h0))), (fun h0 => (f7 ((plus_other L (show 7 ≠ 5 by decide)).symm.trans h0))), (fun h0 => (f8 ((plus_other L (show 8 ≠ 5 by decide)).symm.trans h0))), (fun h0 => (f9 ((plus_other L (show 9 ≠ 5 by decide)).symm.trans h0))), (fun h0 h1 => absurd h1 (by rw [plus_same]; exact fun h => by cases h)), (fun h0 => ⟨PA, _, cq, rfl, rfl, own_lower oA HB.out.size⟩), (fun h0 h1 => (let ⟨X, e, l⟩ := (f10 ((plus_other L (show 10 ≠ 5 by decide)).symm.trans h0) ((plus_other L (show 11 ≠ 5 by decide)).symm.trans h1)); ⟨X, e, l.below kk (Nat.le_refl _)⟩)), (fun h0 => (let ⟨P, m, c, e, e2, r⟩ := (f11 ((plus_other L (show 11 ≠ 5 by decide)).symm.trans h0)); ⟨P, m, c, e, e2, row_below r kk⟩)), (fun h0 => (absurd ((f12 ((plus_other L (show 12 ≠ 5 by decide)).symm.trans h0))).1 (by rw [hl]; decide))), (fun h0 h1 => (let ⟨X, e, hX, q⟩ := (f13 ((plus_other L (show 13 ≠ 5 by decide)).symm.trans h0) ((plus_other L (show 14 ≠ 5 by decide)).symm.trans h1)); ⟨X, e, hX, q.below kk⟩)), (fun h0 => (absurd (g14 ((plus_other L (by decide)).symm.trans h0)).2.1 (by rw [hl]; decide))), (fun h0 => (absurd ((g14 ((plus_other L (show 14 ≠ 5 by decide)).symm.trans h0))).2.1 (by rw [hl]; decide)))⟩
    · intro L a w hI hl hd K' hK
      obtain ⟨u22, u23, u24, u25, u26, u27, u28, u29, u30, u31, u32, u33, u34, u8, HE, HB, f0, f1, f2, f3, f6, f7, f8, f9, f4, f5, f10, f11, f12, f13, f14, g14⟩ := hI
      refine step_eq HE ?_
      clear HE hd
      go_simp
      refine hK _ _ ⟨u22, u23, u24, u25, u26, u27, (.pointer (some ⟨b, 1, none⟩)), u29, u30, u31, u32, u33, u34, u8, by kernel_rfl, HB, (fun h0 => (f0 ((plus_other L (show 0 ≠ 6 by decide)).symm.trans h0))), (fun h0 => (f1 ((plus_other L (show 1 ≠ 6 by decide)).symm.trans h0))), (fun h0 => (f2 ((plus_other L (show 2 ≠ 6 by decide)).symm.trans h0))), (fun h0 => (f3 ((plus_other L (show 3 ≠ 6 by decide)).symm.trans h0))), (fun h0 => rfl), (fun h0 => (f7 ((plus_other L (show 7 ≠ 6 by decide)).symm.trans h0))), (fun h0 => (f8 ((plus_other L (show 8 ≠ 6 by decide)).symm.trans h0))), (fun h0 => (f9 ((plus_other L (show 9 ≠ 6 by decide)).symm.trans h0))), (fun h0 h1 => (f4 ((plus_other L (show 4 ≠ 6 by decide)).symm.trans h0) ((plus_other L (show 5 ≠ 6 by decide)).symm.trans h1))), (fun h0 => (f5 ((plus_other L (show 5 ≠ 6 by decide)).symm.trans h0))), (fun h0 h1 => (f10 ((plus_other L (show 10 ≠ 6 by decide)).symm.trans h0) ((plus_other L (show 11 ≠ 6 by decide)).symm.trans h1))), (fun h0 => (f11 ((plus_other L (show 11 ≠ 6 by decide)).symm.trans h0))), (fun h0 => (let ⟨q5, q11, q⟩ := (f12 ((plus_other L (show 12 ≠ 6 by decide)).symm.trans h0)); ⟨(plus_other L (by decide)).trans q5, (plus_other L (by decide)).trans q11, q⟩)), (fun h0 h1 => (f13 ((plus_other L (show 13 ≠ 6 by decide)).symm.trans h0) ((plus_other L (show 14 ≠ 6 by decide)).symm.trans h1))), (fun h0 => (f14 ((plus_other L (show 14 ≠ 6 by decide)).symm.trans h0))), (fun h0 => (let ⟨q13, q5, q11⟩ := (g14 ((plus_other L (show 14 ≠ 6 by decide)).symm.trans h0)); ⟨(plus_other L (by decide)).trans q13, (plus_other L (by decide)).trans q5, (plus_other L (by decide)).trans q11⟩))⟩
    · intro L a w hI hl hd K' hK
      obtain ⟨u22, u23, u24, u25, u26, u27, u28, u29, u30, u31, u32, u33, u34, u8, HE, HB, f0, f1, f2, f3, f6, f7, f8, f9, f4, f5, f10, f11, f12, f13, f14, g14⟩ := hI
      obtain rfl := f6 (hd 6 (by rfl))
      have z := (X2.out.below HB.out).get (k := 1) (v := .slice B nb cb) rfl
      refine step_eq HE ?_
      clear HE hd
      go_simp
      refine hK _ _ ⟨u22, u23, u24, u25, u26, u27, (.pointer (some ⟨b, 1, none⟩)), (.slice B nb cb), u30, u31, u32, u33, u34, u8, by kernel_rfl, HB, (fun h0 => (f0 ((plus_other L (show 0 ≠ 7 by decide)).symm.trans h0))), (fun h0 => (f1 ((plus_other L (show 1 ≠ 7 by decide)).symm.trans h0))), (fun h0 => (f2 ((plus_other L (show 2 ≠ 7 by decide)).symm.trans h0))), (fun h0 => (f3 ((plus_other L (show 3 ≠ 7 by decide)).symm.trans h0))), (fun h0 => (f6 ((plus_other L (show 6 ≠ 7 by decide)).symm.trans h0))), (fun h0 => rfl), (fun h0 => (f8 ((plus_other L (show 8 ≠ 7 by decide)).symm.trans h0))), (fun h0 => (f9 ((plus_other L (show 9 ≠ 7 by decide)).symm.trans h0))), (fun h0 h1 => (f4 ((plus_other L (show 4 ≠ 7 by decide)).symm.trans h0) ((plus_other L (show 5 ≠ 7 by decide)).symm.trans h1))), (fun h0 => (f5 ((plus_other L (show 5 ≠ 7 by decide)).symm.trans h0))), (fun h0 h1 => (f10 ((plus_other L (show 10 ≠ 7 by decide)).symm.trans h0) ((plus_other L (show 11 ≠ 7 by decide)).symm.trans h1))), (fun h0 => (f11 ((plus_other L (show 11 ≠ 7 by decide)).symm.trans h0))), (fun h0 => (let ⟨q5, q11, q⟩ := (f12 ((plus_other L (show 12 ≠ 7 by decide)).symm.trans h0)); ⟨(plus_other L (by decide)).trans q5, (plus_other L (by decide)).trans q11, q⟩)), (fun h0 h1 => (f13 ((plus_other L (show 13 ≠ 7 by decide)).symm.trans h0) ((plus_other L (show 14 ≠ 7 by decide)).symm.trans h1))), (fun h0 => (f14 ((plus_other L (show 14 ≠ 7 by decide)).symm.trans h0))), (fun h0 => (let ⟨q13, q5, q11⟩ := (g14 ((plus_other L (show 14 ≠ 7 by decide)).symm.trans h0)); ⟨(plus_other L (by decide)).trans q13, (plus_other L (by decide)).trans q5, (plus_other L (by decide)).trans q11⟩))⟩
    · intro L a w hI hl hd K' hK
      obtain ⟨u22, u23, u24, u25, u26, u27, u28, u29, u30, u31, u32, u33, u34, u8, HE, HB, f0, f1, f2, f3, f6, f7, f8, f9, f4, f5, f10, f11, f12, f13, f14, g14⟩ := hI
      refine step_eq HE ?_
      clear HE hd
      go_simp
      refine hK _ _ ⟨u22, u23, u24, u25, u26, u27, u28, u29, (.pointer (some ⟨b + 1, 1, none⟩)), u31, u32, u33, u34, u8, by kernel_rfl, HB, (fun h0 => (f0 ((plus_other L (show 0 ≠ 8 by decide)).symm.trans h0))), (fun h0 => (f1 ((plus_other L (show 1 ≠ 8 by decide)).symm.trans h0))), (fun h0 => (f2 ((plus_other L (show 2 ≠ 8 by decide)).symm.trans h0))), (fun h0 => (f3 ((plus_other L (show 3 ≠ 8 by decide)).symm.trans h0))), (fun h0 => (f6 ((plus_other L (show 6 ≠ 8 by decide)).symm.trans h0))), (fun h0 => (f7 ((plus_other L (show 7 ≠ 8 by decide)).symm.trans h0))), (fun h0 => rfl), (fun h0 => (f9 ((plus_other L (show 9 ≠ 8 by decide)).symm.trans h0))), (fun h0 h1 => (f4 ((plus_other L (show 4 ≠ 8 by decide)).symm.trans h0) ((plus_other L (show 5 ≠ 8 by decide)).symm.trans h1))), (fun h0 => (f5 ((plus_other L (show 5 ≠ 8 by decide)).symm.trans h0))), (fun h0 h1 => (f10 ((plus_other L (show 10 ≠ 8 by decide)).symm.trans h0) ((plus_other L (show 11 ≠ 8 by decide)).symm.trans h1))), (fun h0 => (f11 ((plus_other L (show 11 ≠ 8 by decide)).symm.trans h0))), (fun h0 => (let ⟨q5, q11, q⟩ := (f12 ((plus_other L (show 12 ≠ 8 by decide)).symm.trans h0)); ⟨(plus_other L (by decide)).trans q5, (plus_other L (by decide)).trans q11, q⟩)), (fun h0 h1 => (f13 ((plus_other L (show 13 ≠ 8 by decide)).symm.trans h0) ((plus_other L (show 14 ≠ 8 by decide)).symm.trans h1))), (fun h0 => (f14 ((plus_other L (show 14 ≠ 8 by decide)).symm.trans h0))), (fun h0 => (let ⟨q13, q5, q11⟩ := (g14 ((plus_other L (show 14 ≠ 8 by decide)).symm.trans h0)); ⟨(plus_other L (by decide)).trans q13, (plus_other L (by decide)).trans q5, (plus_other L (by decide)).trans q11⟩))⟩
    · intro L a w hI hl hd K' hK
      obtain ⟨u22, u23, u24, u25, u26, u27, u28, u29, u30, u31, u32, u33, u34, u8, HE, HB, f0, f1, f2, f3, f6, f7, f8, f9, f4, f5, f10, f11, f12, f13, f14, g14⟩ := hI
      obtain rfl := f8 (hd 8 (by rfl))
      have z := (X3.out.below HB.out).get (k := 1) (v := .slice B' nb' cb') rfl
      refine step_eq HE ?_
      clear HE hd
      go_simp
      refine hK _ _ ⟨u22, u23, u24, u25, u26, u27, u28, u29, (.pointer (some ⟨b + 1, 1, none⟩)), (.slice B' nb' cb'), u32, u33, u34, u8, by kernel_rfl, HB, (fun h0 => (f0 ((plus_other L (show 0 ≠ 9 by decide)).symm.trans h0))), (fun h0 => (f1 ((plus_other L (show 1 ≠ 9 by decide)).symm.trans h0))), (fun h0 => (f2 ((plus_other L (show 2 ≠ 9 by decide)).symm.trans h0))), (fun h0 => (f3 ((plus_other L (show 3 ≠ 9 by decide)).symm.trans h0))), (fun h0 => (f6 ((plus_other L (show 6 ≠ 9 by decide)).symm.trans h0))), (fun h0 => (f7 ((plus_other L (show 7 ≠ 9 by decide)).symm.trans h0))), (fun h0 => (f8 ((plus_other L (show 8 ≠ 9 by decide)).symm.trans h0))), (fun h0 => rfl), (fun h0 h1 => (f4 ((plus_other L (show 4 ≠ 9 by decide)).symm.trans h0) ((plus_other L (show 5 ≠ 9 by decide)).symm.trans h1))), (fun h0 => (f5 ((plus_other L (show 5 ≠ 9 by decide)).symm.trans h0))), (fun h0 h1 => (f10 ((plus_other L (show 10 ≠ 9 by decide)).symm.trans h0) ((plus_other L (show 11 ≠ 9 by decide)).symm.trans h1))), (fun h0 => (f11 ((plus_other L (show 11 ≠ 9 by decide)).symm.trans h0))), (fun h0 => (let ⟨q5, q11, q⟩ := (f12 ((plus_other L (show 12 ≠ 9 by decide)).symm.trans h0)); ⟨(plus_other L (by decide)).trans q5, (plus_other L (by decide)).trans q11, q⟩)), (fun h0 h1 => (f13 ((plus_other L (show 13 ≠ 9 by decide)).symm.trans h0) ((plus_other L (show 14 ≠ 9 by decide)).symm.trans h1))), (fun h0 => (f14 ((plus_other L (show 14 ≠ 9 by decide)).symm.trans h0))), (fun h0 => (let ⟨q13, q5, q11⟩ := (g14 ((plus_other L (show 14 ≠ 9 by decide)).symm.trans h0)); ⟨(plus_other L (by decide)).trans q13, (plus_other L (by decide)).trans q5, (plus_other L (by decide)).trans q11⟩))⟩
    · intro L a w hI hl hd K' hK
      obtain ⟨u22, u23, u24, u25, u26, u27, u28, u29, u30, u31, u32, u33, u34, u8, HE, HB, f0, f1, f2, f3, f6, f7, f8, f9, f4, f5, f10, f11, f12, f13, f14, g14⟩ := hI
      obtain rfl := f7 (hd 7 (by rfl))
      obtain rfl := f9 (hd 9 (by rfl))
      have kk := (Below.refl w.heap.size w).alloc (Nat.le_refl _) (.cells #[.slice B nb cb, .slice B' nb' cb'] 29)
      have LA := ll_two (w := w) (A := B) (B := B') cb cb' E2.out E4.out (HR.out.below HB.out (Nat.le_refl _)) (HR2.out.below HB.out (Nat.le_refl _))
      refine step_eq HE ?_
      clear HE hd
      go_simp
      refine hK _ _ ⟨u22, u23, u24, u25, u26, u27, u28, (.slice B nb cb), u30, (.slice B' nb' cb'), (.slice (some ⟨w.heap.size, 0, none⟩) 2 2), u33, u34, u8, by kernel_rfl, Lib.hid (HB.out.trans (kk.mono HB.out.size)), (fun h0 => (f0 ((plus_other L (show 0 ≠ 10 by decide)).symm.trans h0))), (fun h0 => (f1 ((plus_other L (show 1 ≠ 10 by decide)).symm.trans h0))), (fun h0 => (f2 ((plus_other L (show 2 ≠ 10 by decide)).symm.trans h0))), (fun h0 => (f3 ((plus_other L (show 3 ≠ 10 by decide)).symm.trans h0))), (fun h0 => (f6 ((plus_other L (show 6 ≠ 10 by decide)).symm.trans h0))), (fun h0 => (f7 ((plus_other L (show 7 ≠ 10 by decide)).symm.trans h0))), (fun h0 => (f8 ((plus_other L (show 8 ≠ 10 by decide)).symm.trans h0))), (fun h0 => (f9 ((plus_other L (show 9 ≠ 10 by decide)).symm.trans h0))), (fun h0 h1 => (let ⟨X, e, l⟩ := (f4 ((plus_other L (show 4 ≠ 10 by decide)).symm.trans h0) ((plus_other L (show 5 ≠ 10 by decide)).symm.trans h1)); ⟨X, e, l.below kk (Nat.le_refl _)⟩)), (fun h0 => (let ⟨P, m, c, e, e2, r⟩ := (f5 ((plus_other L (show 5 ≠ 10 by decide)).symm.trans h0)); ⟨P, m, c, e, e2, row_below r kk⟩)), (fun h0 h1 => ⟨w.heap.size, rfl, LA⟩), (fun h0 => (let ⟨P, m, c, e, e2, r⟩ := (f11 ((plus_other L (show 11 ≠ 10 by decide)).symm.trans h0)); ⟨P, m, c, e, e2, row_below r kk⟩)), (fun h0 => (let ⟨q5, q11, q⟩ := (f12 ((plus_other L (show 12 ≠ 10 by decide)).symm.trans h0)); ⟨(plus_other L (by decide)).trans q5, (plus_other L (by decide)).trans q11, q⟩)), (fun h0 h1 => (let ⟨X, e, hX, q⟩ := (f13 ((plus_other L (show 13 ≠ 10 by decide)).symm.trans h0) ((plus_other L (show 14 ≠ 10 by decide)).symm.trans h1)); ⟨X, e, hX, q.below kk⟩)), (fun h0 => (let ⟨X, e, hX, q⟩ := (f14 ((plus_other L (show 14 ≠ 10 by decide)).symm.trans h0)); ⟨X, e, hX, q.below kk⟩)), (fun h0 => (let ⟨q13, q5, q11⟩ := (g14 ((plus_other L (show 14 ≠ 10 by decide)).symm.trans h0)); ⟨(plus_other L (by decide)).trans q13, (plus_other L (by decide)).trans q5, (plus_other L (by decide)).trans q11⟩))⟩
    · intro L a w hI hl hd K' hK
      obtain ⟨u22, u23, u24, u25, u26, u27, u28, u29, u30, u31, u32, u33, u34, u8, HE, HB, f0, f1, f2, f3, f6, f7, f8, f9, f4, f5, f10, f11, f12, f13, f14, g14⟩ := hI
      obtain ⟨X, rfl, LA⟩ := f10 (hd 10 (by rfl)) hl
      have hg := hd 10 (by rfl)
      have hX12 : L 12 = false := by
        cases h : L 12 with
        | false => rfl
        | true => have := (f12 h).2.1; rw [hl] at this; cases this
      refine step_eq HE ?_
      clear HE hd
      go_wp2_with (go_at_call 57; (with_reducible refine (cR.out _ _ LA).mono ?_); rintro e w' ⟨PA, cq, rfl, oA, kk⟩)
      (try (refine hK _ _ ?_))
      refine ⟨u22, u23, u24, u25, u26, u27, u28, u29, u30, u31, (.slice (some ⟨X, 0, none⟩) 2 2), (.slice PA SR.length cq), u34, u8, by kernel_rfl, Lib.hid (HB.out.trans (kk.mono HB.out.size)), (fun h0 => (f0 ((plus_other L (show 0 ≠ 11 by decide)).symm.trans h0))), (fun h0 => (f1 ((plus_other L (show 1 ≠ 11 by decide)).symm.trans h0))), (fun h0 => (f2 ((plus_other L (show 2 ≠ 11 by decide)).symm.trans h0))), (fun h0 => (f3 ((plus_other L (show 3 ≠ 11 by decide)).symm.trans h0))), (fun h0 => (f6 ((plus_other L (show 6 ≠ 11 by decide)).symm.trans h0))), (fun h0 => (f7 ((plus_other L (show 7 ≠ 11 by decide)).symm.trans h0))), (fun h0 => (f8 ((plus_other L (show 8 ≠ 11 by decide)).symm.trans h0))), (fun h0 => (f9 ((plus_other L (show 9 ≠ 11 by decide)).symm.trans h0))), (fun h0 h1 => (let ⟨X, e, l⟩ := (f4 ((plus_other L (show 4 ≠ 11 by decide)).symm.trans h0) ((plus_other L (show 5 ≠ 11 by decide)).symm.trans h1)); ⟨X, e, l.below kk (Nat.le_refl _)⟩)), (fun h0 => (let ⟨P, m, c, e, e2, r⟩ := (f5 ((plus_other L (show 5 ≠ 11 by decide)).symm.trans h0)); ⟨P, m, c, e, e2, row_below r kk⟩)), (fun h0 h1 => absurd h1 (by rw [plus_same]; exact fun h => by cases h)), (fun h0 => ⟨PA, _, cq, rfl, rfl, own_lower oA HB.out.size⟩), (fun h0 => (absurd ((f12 ((plus_other L (show 12 ≠ 11 by decide)).symm.trans h0))).2.1 (by rw [hl]; decide))), (fun h0 h1 => (let ⟨X, e, hX, q⟩ := (f13 ((plus_other L (show 13 ≠ 11 by decide)).symm.trans h0) ((plus_other L (show 14 ≠ 11 by decide)).symm.trans h1)); ⟨X, e, hX, q.below kk⟩)), (fun h0 => (absurd (g14 ((plus_other L (by decide)).symm.trans h0)).2.2 (by rw [hl]; decide))), (fun h0 => (absurd ((g14 ((plus_other L (show 14 ≠ 11 by decide)).symm.trans h0))).2.2 (by rw [hl]; decide)))⟩
    · intro L a w hI hl hd K' hK
      obtain ⟨u22, u23, u24, u25, u26, u27, u28, u29, u30, u31, u32, u33, u34, u8, HE, HB, f0, f1, f2, f3, f6, f7, f8, f9, f4, f5, f10, f11, f12, f13, f14, g14⟩ := hI
      have q5 := hd 5 (by rfl)
      have q11 := hd 11 (by rfl)
      obtain ⟨P1, m1, k1, rfl, rfl, r5⟩ := f5 q5
      obtain ⟨P2, m2, k2, rfl, rfl, r11⟩ := f11 q11
      refine step_eq HE ?_
      clear HE hd
      go_simp
      refine hK _ _ ⟨u22, u23, u24, u25, u26, (.slice P1 SA.length k1), u28, u29, u30, u31, u32, (.slice P2 SR.length k2), (.agg #[(.slice P1 SA.length k1), (.slice P2 SR.length k2)]), u8, by kernel_rfl, HB, (fun h0 => (f0 ((plus_other L (show 0 ≠ 12 by decide)).symm.trans h0))), (fun h0 => (f1 ((plus_other L (show 1 ≠ 12 by decide)).symm.trans h0))), (fun h0 => (f2 ((plus_other L (show 2 ≠ 12 by decide)).symm.trans h0))), (fun h0 => (f3 ((plus_other L (show 3 ≠ 12 by decide)).symm.trans h0))), (fun h0 => (f6 ((plus_other L (show 6 ≠ 12 by decide)).symm.trans h0))), (fun h0 => (f7 ((plus_other L (show 7 ≠ 12 by decide)).symm.trans h0))), (fun h0 => (f8 ((plus_other L (show 8 ≠ 12 by decide)).symm.trans h0))), (fun h0 => (f9 ((plus_other L (show 9 ≠ 12 by decide)).symm.trans h0))), (fun h0 h1 => (f4 ((plus_other L (show 4 ≠ 12 by decide)).symm.trans h0) ((plus_other L (show 5 ≠ 12 by decide)).symm.trans h1))), (fun h0 => (f5 ((plus_other L (show 5 ≠ 12 by decide)).symm.trans h0))), (fun h0 h1 => (f10 ((plus_other L (show 10 ≠ 12 by decide)).symm.trans h0) ((plus_other L (show 11 ≠ 12 by decide)).symm.trans h1))), (fun h0 => (f11 ((plus_other L (show 11 ≠ 12 by decide)).symm.trans h0))), (fun h0 => ⟨(plus_other L (by decide)).trans q5, (plus_other L (by decide)).trans q11, rfl⟩), (fun h0 h1 => (f13 ((plus_other L (show 13 ≠ 12 by decide)).symm.trans h0) ((plus_other L (show 14 ≠ 12 by decide)).symm.trans h1))), (fun h0 => (f14 ((plus_other L (show 14 ≠ 12 by decide)).symm.trans h0))), (fun h0 => (let ⟨q13, q5, q11⟩ := (g14 ((plus_other L (show 14 ≠ 12 by decide)).symm.trans h0)); ⟨(plus_other L (by decide)).trans q13, (plus_other L (by decide)).trans q5, (plus_other L (by decide)).trans q11⟩))⟩
    · intro L a w hI hl hd K' hK
      obtain ⟨u22, u23, u24, u25, u26, u27, u28, u29, u30, u31, u32, u33, u34, u8, HE, HB, f0, f1, f2, f3, f6, f7, f8, f9, f4, f5, f10, f11, f12, f13, f14, g14⟩ := hI
      have kk := (Below.refl w.heap.size w).alloc (Nat.le_refl _) (.cells #[(.slice none 0 0), (.slice none 0 0)] 31)
      have OX := ObjAt.new w #[(.slice none 0 0), (.slice none 0 0)] 31
      refine step_eq HE ?_
      clear HE hd
      go_simp
      refine hK _ _ ⟨u22, u23, u24, u25, u26, u27, u28, u29, u30, u31, u32, u33, u34, (.pointer (some ⟨w.heap.size, 0, none⟩)), by kernel_rfl, Lib.hid (HB.out.trans (kk.mono HB.out.size)), (fun h0 => (f0 ((plus_other L (show 0 ≠ 13 by decide)).symm.trans h0))), (fun h0 => (f1 ((plus_other L (show 1 ≠ 13 by decide)).symm.trans h0))), (fun h0 => (f2 ((plus_other L (show 2 ≠ 13 by decide)).symm.trans h0))), (fun h0 => (f3 ((plus_other L (show 3 ≠ 13 by decide)).symm.trans h0))), (fun h0 => (f6 ((plus_other L (show 6 ≠ 13 by decide)).symm.trans h0))), (fun h0 => (f7 ((plus_other L (show 7 ≠ 13 by decide)).symm.trans h0))), (fun h0 => (f8 ((plus_other L (show 8 ≠ 13 by decide)).symm.trans h0))), (fun h0 => (f9 ((plus_other L (show 9 ≠ 13 by decide)).symm.trans h0))), (fun h0 h1 => (let ⟨X, e, l⟩ := (f4 ((plus_other L (show 4 ≠ 13 by decide)).symm.trans h0) ((plus_other L (show 5 ≠ 13 by decide)).symm.trans h1)); ⟨X, e, l.below kk (Nat.le_refl _)⟩)), (fun h0 => (let ⟨P, m, c, e, e2, r⟩ := (f5 ((plus_other L (show 5 ≠ 13 by decide)).symm.trans h0)); ⟨P, m, c, e, e2, row_below r kk⟩)), (fun h0 h1 => (let ⟨X, e, l⟩ := (f10 ((plus_other L (show 10 ≠ 13 by decide)).symm.trans h0) ((plus_other L (show 11 ≠ 13 by decide)).symm.trans h1)); ⟨X, e, l.below kk (Nat.le_refl _)⟩)), (fun h0 => (let ⟨P, m, c, e, e2, r⟩ := (f11 ((plus_other L (show 11 ≠ 13 by decide)).symm.trans h0)); ⟨P, m, c, e, e2, row_below r kk⟩)), (fun h0 => (let ⟨q5, q11, q⟩ := (f12 ((plus_other L (show 12 ≠ 13 by decide)).symm.trans h0)); ⟨(plus_other L (by decide)).trans q5, (plus_other L (by decide)).trans q11, q⟩)), (fun h0 h1 => ⟨w.heap.size, rfl, HB.out.size, OX⟩), (fun h0 => (absurd (g14 ((plus_other L (by decide)).symm.trans h0)).1 (by rw [hl]; decide))), (fun h0 => (absurd ((g14 ((plus_other L (show 14 ≠ 13 by decide)).symm.trans h0))).1 (by rw [hl]; decide)))⟩
    · intro L a w hI hl hd K' hK
      obtain ⟨u22, u23, u24, u25, u26, u27, u28, u29, u30, u31, u32, u33, u34, u8, HE, HB, f0, f1, f2, f3, f6, f7, f8, f9, f4, f5, f10, f11, f12, f13, f14, g14⟩ := hI
      obtain ⟨q5, q11, rfl⟩ := f12 (hd 12 (by rfl))
      obtain ⟨P1, m1, k1, rfl, rfl, r5⟩ := f5 q5
      obtain ⟨P2, m2, k2, rfl, rfl, r11⟩ := f11 q11
      have q13 := hd 13 (by rfl)
      obtain ⟨X, rfl, hX, OY⟩ := f13 q13 hl
      have OX := (OY.set 0 (.slice P1 SA.length k1)).set 1 (.slice P2 SR.length k2)
      have HB2 := (HB.out.setCell (p := ⟨X, 0, none⟩) hX (.slice P1 SA.length k1)).setCell (p := ⟨X, 1, none⟩) hX (.slice P2 SR.length k2)
      have y0 := OY.get (k := 0) (v := (.slice none 0 0)) rfl
      have y1 := OY.get (k := 1) (v := (.slice none 0 0)) rfl
      have g0 := OY.frozen 0
      have g1 := OY.frozen 1
      refine step_eq HE ?_
      clear HE hd
      go_simp
      refine hK _ _ ⟨u22, u23, u24, u25, u26, (.slice P1 SA.length k1), u28, u29, u30, u31, u32, (.slice P2 SR.length k2), (.agg #[(.slice P1 SA.length k1), (.slice P2 SR.length k2)]), (.pointer (some ⟨X, 0, none⟩)), by kernel_rfl, Lib.hid HB2, (fun h0 => (f0 ((plus_other L (show 0 ≠ 14 by decide)).symm.trans h0))), (fun h0 => (f1 ((plus_other L (show 1 ≠ 14 by decide)).symm.trans h0))), (fun h0 => (f2 ((plus_other L (show 2 ≠ 14 by decide)).symm.trans h0))), (fun h0 => (f3 ((plus_other L (show 3 ≠ 14 by decide)).symm.trans h0))), (fun h0 => (f6 ((plus_other L (show 6 ≠ 14 by decide)).symm.trans h0))), (fun h0 => (f7 ((plus_other L (show 7 ≠ 14 by decide)).symm.trans h0))), (fun h0 => (f8 ((plus_other L (show 8 ≠ 14 by decide)).symm.trans h0))), (fun h0 => (f9 ((plus_other L (show 9 ≠ 14 by decide)).symm.trans h0))), (fun h0 h1 => (absurd (h1.symm.trans ((plus_other L (by decide)).trans q5)) (by decide))), (fun h0 => (let ⟨P, m, c, e, e2, r⟩ := (f5 ((plus_other L (show 5 ≠ 14 by decide)).symm.trans h0)); ⟨P, m, c, e, e2, row_obj2 r OY (by decide) _ _⟩)), (fun h0 h1 => (absurd (h1.symm.trans ((plus_other L (by decide)).trans q11)) (by decide))), (fun h0 => (let ⟨P, m, c, e, e2, r⟩ := (f11 ((plus_other L (show 11 ≠ 14 by decide)).symm.trans h0)); ⟨P, m, c, e, e2, row_obj2 r OY (by decide) _ _⟩)), (fun h0 => ⟨(plus_other L (by decide)).trans q5, (plus_other L (by decide)).trans q11, rfl⟩), (fun h0 h1 => absurd h1 (by rw [plus_same]; exact fun h => by cases h)), (fun h0 => ⟨X, rfl, hX, OX⟩), (fun h0 => ⟨(plus_other L (by decide)).trans q13, (plus_other L (by decide)).trans q5, (plus_other L (by decide)).trans q11⟩)⟩
  case he =>
    intro L a w hI hall
    obtain ⟨u22, u23, u24, u25, u26, u27, u28, u29, u30, u31, u32, u33, u34, u8, HE, HB, f0, f1, f2, f3, f6, f7, f8, f9, f4, f5, f10, f11, f12, f13, f14, g14⟩ := hI
    have hl : ∀ i, Nat.ble (i + 1) 15 = true → L i = true := fun i h => hall i (Nat.le_of_ble_eq_true h)
    obtain rfl := f0 (hl 0 rfl)
    obtain rfl := f1 (hl 1 rfl)
    obtain rfl := f2 (hl 2 rfl)
    obtain rfl := f3 (hl 3 rfl)
    obtain rfl := f6 (hl 6 rfl)
    obtain rfl := f7 (hl 7 rfl)
    obtain rfl := f8 (hl 8 rfl)
    obtain rfl := f9 (hl 9 rfl)
    obtain ⟨P1, m1, k1, rfl, rfl, r1⟩ := f5 (hl 5 rfl)
    obtain ⟨P2, m2, k2, rfl, rfl, r2⟩ := f11 (hl 11 rfl)
    obtain ⟨_, _, rfl⟩ := f12 (hl 12 rfl)
    obtain ⟨X, rfl, hX, OX⟩ := f14 (hl 14 rfl)
    refine end_eq HE ?_
    clear HE
    have R1 := Lib.hid r1
    have R2 := Lib.hid r2
    have XX := Lib.hid OX
    have H4 := Lib.hid (X4.out.below HB.out)
    clear f0 f1 f2 f3 f4 f5 f6 f7 f8 f9 f10 f11 f12 f13 f14 g14 hall hl r1 r2 OX
    have y0 := XX.out.get (k := 0) (v := .slice P1 SA.length k1) rfl
    have y1 := XX.out.get (k := 1) (v := .slice P2 SR.length k2) rfl
    obtain ⟨A9, c9, e9, _, _, hn1⟩ := row_ns R1.out rfl
    cases e9
    obtain ⟨A9, c9, e9, _, _, hn2⟩ := row_ns R2.out rfl
    cases e9
    replace KB := Lib.hid (KB.out.trans (HB.out.mono (by omega)))
    have hwb : b + 3 ≤ w.heap.size := by have := H4.out.lt; omega
    have cc := c3.out w P1 k1 P2 k2 hn1 hn2
    clear hn1 hn2 c3 cA cR
    by_cases hz : ckD SA SR = 0
    · rw [hz] at cc
      have HZ := Lib.hid hz
      clear hz
      go_wp2_with fail
      (with_reducible refine cc.mono ?_)
      rintro e W9 ⟨rfl, kk⟩
      replace KB := Lib.hid (KB.out.trans (kk.mono (by omega)))
      replace H4 := Lib.hid (H4.out.below kk)
      replace XX := Lib.hid (XX.out.below kk)
      replace R1 := Lib.hid (row_below R1.out kk)
      replace R2 := Lib.hid (row_below R2.out kk)
      clear cc kk y0 y1
      have y0 := XX.out.get (k := 0) (v := .slice P1 SA.length k1) rfl
      have y1 := XX.out.get (k := 1) (v := .slice P2 SR.length k2) rfl
      have z0 := H4.out.get (k := 0) (v := .slice none 0 0) rfl
      have z1 := H4.out.get (k := 1) (v := .slice none 0 0) rfl
      have g0 := H4.out.frozen 0
      have g1 := H4.out.frozen 1
      have XF := (H4.out.set 0 (.slice P1 SA.length k1)).set 1 (.slice P2 SR.length k2)
      have KF := Lib.hid ((KB.out.setCell (p := ⟨b + 1 + 1, 0, none⟩) (by simp; omega) (.slice P1 SA.length k1)).setCell (p := ⟨b + 1 + 1, 1, none⟩) (by simp; omega) (.slice P2 SR.length k2))
      have RF := Lib.hid (own_lower (b' := b) (row_obj2 R1.out H4.out (by decide) (.slice P1 SA.length k1) (.slice P2 SR.length k2)) (by omega))
      have RG := Lib.hid (own_lower (b' := b) (row_obj2 R2.out H4.out (by decide) (.slice P1 SA.length k1) (.slice P2 SR.length k2)) (by omega))
      have q0 := XF.get (k := 0) (v := .slice P1 SA.length k1) (by simp)
      have q1 := XF.get (k := 1) (v := .slice P2 SR.length k2) (by simp)
      clear XF
      go_wp2
      exact bodyPost_ret (v := .tuple #[.agg #[.slice P1 SA.length k1, .slice P2 SR.length k2], .int .i64 0]) (by simp [results, Try.results19, go_sem, q0, q1]) rfl ⟨by rw [HBB.out]; exact KF.out, .inl ⟨HZ.out, P1, k1, P2, k2, rfl, by rw [HBB.out]; exact RF.out, by rw [HBB.out]; exact RG.out⟩⟩
    · have HZ := Lib.hid hz
      have ez : (ckD SA SR != 0) = true := by simpa using hz
      clear hz
      obtain ⟨z, hz0⟩ : ∃ z, ckD SA SR = z := ⟨_, rfl⟩
      rw [hz0] at cc ez
      have HZ0 := Lib.hid hz0
      clear hz0
      go_wp2_with fail
      (with_reducible refine cc.mono ?_)
      rintro e W9 ⟨rfl, kk⟩
      replace KB := Lib.hid (KB.out.trans (kk.mono (by omega)))
      replace H4 := Lib.hid (H4.out.below kk)
      clear cc kk y0 y1
      have z0 := H4.out.get (k := 0) (v := .slice none 0 0) rfl
      have z1 := H4.out.get (k := 1) (v := .slice none 0 0) rfl
      have g0 := H4.out.frozen 0
      have g1 := H4.out.frozen 1
      have XF := (H4.out.set 0 (.slice none 0 0)).set 1 (.slice none 0 0)
      have KF := Lib.hid ((KB.out.setCell (p := ⟨b + 1 + 1, 0, none⟩) (by simp; omega) (.slice none 0 0)).setCell (p := ⟨b + 1 + 1, 1, none⟩) (by simp; omega) (.slice none 0 0))
      have q0 := XF.get (k := 0) (v := .slice none 0 0) (by simp)
      have q1 := XF.get (k := 1) (v := .slice none 0 0) (by simp)
      clear XF
      go_wp2
      exact bodyPost_ret (v := .tuple #[.agg #[.slice none 0 0, .slice none 0 0], .int .i64 z]) (by simp [results, Try.results19, go_sem, q0, q1]) rfl ⟨by rw [HBB.out]; exact KF.out, .inr ⟨HZ.out, by rw [HZ0.out]⟩⟩
end Go.Proofs.Ytjhppkjngifibaa
