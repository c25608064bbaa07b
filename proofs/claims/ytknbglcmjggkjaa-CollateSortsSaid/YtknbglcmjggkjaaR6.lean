/- Layer 6: the reference's Point (38), whole. -/
import Derived.Test.YtknbglcmjggkjaaR5
import Derived.Deep.RegionHeld3
namespace Go.Proofs.Ytknbglcmjggkjaa
open Go.RowKit Go.Shelf Go.Lib Co

theorem ObjAt.all4 {W : World} {b : Nat} {t : TypeId} {p q r s : Value} (h : ObjAt W b #[p, q, r, s] t) : W.cell? ⟨b, 0, none⟩ = some p ∧ W.cell? ⟨b, 1, none⟩ = some q ∧ W.cell? ⟨b, 2, none⟩ = some r ∧ W.cell? ⟨b, 3, none⟩ = some s := ⟨h.c0, h.c1, h.c2, h.c3⟩
set_option maxRecDepth 100000 in
set_option maxHeartbeats 8000000 in
theorem rp_c6 (st : Int) (nu ig uf : Bool) (w : World)  : Calls Try.prog 38 #[.int .i64 198, opV st nu ig uf] w (RElR (pointE (upN uf) ig 198) w) := by
  have o1 := ObjAt.new w #[.int .i64 st, .bool nu, .bool ig, .bool uf] 34
  have hB : Below w.heap.size w (w.alloc (.cells #[.int .i64 st, .bool nu, .bool ig, .bool uf] 34)) := (Below.refl _ w).alloc (Nat.le_refl _) _
  have cD : ∀ w', Calls Try.prog 36 #[.int .i64 198] w' fun e w'' => e = .returned (.bool false) ∧ w'' = w' := fun w' => rdigit_any 198 w' (by omega)
  have cZ : ∀ w', Calls Try.prog 54 #[.int .i64 198] w' fun e w'' => e = .returned (.bool false) ∧ w'' = w' := fun w' => rletter_is 198 w' (by omega)
  have cX : ∀ w', Calls Try.prog 55 #[.int .i64 65, opV st nu ig uf] w' (ElR (ltE uf 65) w') := fun w' => rletter_any 65 st nu ig uf w' (by omega) (by omega)
  have cY : ∀ w', Calls Try.prog 55 #[.int .i64 69, opV st nu ig uf] w' (ElR (ltE uf 69) w') := fun w' => rletter_any 69 st nu ig uf w' (by omega) (by omega)
  obtain ⟨x, hx⟩ : ∃ x : El, x = ltE uf 65 := ⟨_, rfl⟩
  obtain ⟨y, hy⟩ : ∃ x : El, x = ltE uf 69 := ⟨_, rfl⟩
  rw [← hx] at cX
  rw [← hy] at cY
  have HE := Go.Lib.hid (show pointE (upN uf) ig 198 = [x, y] by rw [pointE_two (a := 65) (b := 69) (by decide) (by decide)]; simp only [oneE_ltt uf ig (show ltt 65 = true by decide), oneE_ltt uf ig (show ltt 69 = true by decide), hx, hy]; rfl)
  clear hx hy
  unfold opV at *
  go_enter Try.func38, Try.ntmps38
  go_wp2_with fail
  generalize w.alloc (.cells #[.int .i64 st, .bool nu, .bool ig, .bool uf] 34) = W at *
  go_wp2_with (first
    | (go_at_call 36; (with_reducible refine (cD _).mono ?_); rintro e W ⟨rfl, rfl⟩)
    | (go_at_call 54; (with_reducible refine (cZ _).mono ?_); rintro e W ⟨rfl, rfl⟩))
  have o2 : ObjAt W.drew w.heap.size #[.int .i64 st, .bool nu, .bool ig, .bool uf] 34 := o1
  go_region_held3 (fun w' => w'.cell? ⟨w.heap.size, 0, none⟩ = some (.int .i64 st) ∧ w'.cell? ⟨w.heap.size, 1, none⟩ = some (.bool nu) ∧ w'.cell? ⟨w.heap.size, 2, none⟩ = some (.bool ig) ∧ w'.cell? ⟨w.heap.size, 3, none⟩ = some (.bool uf))
    (first
      | exact o4.all4
      | exact o3.all4
      | exact o2.all4
      | exact (o4.alloc _).all4
      | go_keep)
    (first
      | (go_at_call 55; (with_reducible refine (cX _).mono ?_); rintro e w4 ⟨rfl, k4⟩; have o4 := o3.below k4; unfold elV)
      | (go_at_call 55; (with_reducible refine (cY _).mono ?_); rintro e w4 ⟨rfl, k4⟩; have o4 := o3.below k4; unfold elV)
      | (go_at_call 55; (with_reducible refine (cX _).mono ?_); rintro e w3 ⟨rfl, k3⟩; have o3 := o2.below k3; unfold elV)
      | (go_at_call 55; (with_reducible refine (cY _).mono ?_); rintro e w3 ⟨rfl, k3⟩; have o3 := o2.below k3; unfold elV))
  all_goals
    have hb4 : Below w.heap.size w w4 := (hB.drew.trans (k3.mono hB.size)).trans (k4.mono (Nat.le_trans hB.size k3.size))
    have HR := Go.Lib.hid (REls.two w4 x y w.heap.size hb4.size)
    have HB := Go.Lib.hid (hb4.alloc hb4.size (.cells #[.int .i64 (x.1 : Nat), .int .i64 (x.2.1 : Nat), .int .i64 (x.2.2 : Nat), .int .i64 (y.1 : Nat), .int .i64 (y.2.1 : Nat), .int .i64 (y.2.2 : Nat)] 38))
    clear hb4 k3 k4 o1 o2 o3 hB
    go_wp2
    go_ret
    exact ⟨_, rfl, by rw [HE.out]; exact HR.out, HB.out⟩
set_option maxRecDepth 100000 in
set_option maxHeartbeats 8000000 in
theorem rp_e6 (st : Int) (nu ig uf : Bool) (w : World)  : Calls Try.prog 38 #[.int .i64 230, opV st nu ig uf] w (RElR (pointE (upN uf) ig 230) w) := by
  have o1 := ObjAt.new w #[.int .i64 st, .bool nu, .bool ig, .bool uf] 34
  have hB : Below w.heap.size w (w.alloc (.cells #[.int .i64 st, .bool nu, .bool ig, .bool uf] 34)) := (Below.refl _ w).alloc (Nat.le_refl _) _
  have cD : ∀ w', Calls Try.prog 36 #[.int .i64 230] w' fun e w'' => e = .returned (.bool false) ∧ w'' = w' := fun w' => rdigit_any 230 w' (by omega)
  have cZ : ∀ w', Calls Try.prog 54 #[.int .i64 230] w' fun e w'' => e = .returned (.bool false) ∧ w'' = w' := fun w' => rletter_is 230 w' (by omega)
  have cX : ∀ w', Calls Try.prog 55 #[.int .i64 97, opV st nu ig uf] w' (ElR (ltE uf 97) w') := fun w' => rletter_any 97 st nu ig uf w' (by omega) (by omega)
  have cY : ∀ w', Calls Try.prog 55 #[.int .i64 101, opV st nu ig uf] w' (ElR (ltE uf 101) w') := fun w' => rletter_any 101 st nu ig uf w' (by omega) (by omega)
  obtain ⟨x, hx⟩ : ∃ x : El, x = ltE uf 97 := ⟨_, rfl⟩
  obtain ⟨y, hy⟩ : ∃ x : El, x = ltE uf 101 := ⟨_, rfl⟩
  rw [← hx] at cX
  rw [← hy] at cY
  have HE := Go.Lib.hid (show pointE (upN uf) ig 230 = [x, y] by rw [pointE_two (a := 97) (b := 101) (by decide) (by decide)]; simp only [oneE_ltt uf ig (show ltt 97 = true by decide), oneE_ltt uf ig (show ltt 101 = true by decide), hx, hy]; rfl)
  clear hx hy
  unfold opV at *
  go_enter Try.func38, Try.ntmps38
  go_wp2_with fail
  generalize w.alloc (.cells #[.int .i64 st, .bool nu, .bool ig, .bool uf] 34) = W at *
  go_wp2_with (first
    | (go_at_call 36; (with_reducible refine (cD _).mono ?_); rintro e W ⟨rfl, rfl⟩)
    | (go_at_call 54; (with_reducible refine (cZ _).mono ?_); rintro e W ⟨rfl, rfl⟩))
  have o2 : ObjAt W.drew w.heap.size #[.int .i64 st, .bool nu, .bool ig, .bool uf] 34 := o1
  go_region_held3 (fun w' => w'.cell? ⟨w.heap.size, 0, none⟩ = some (.int .i64 st) ∧ w'.cell? ⟨w.heap.size, 1, none⟩ = some (.bool nu) ∧ w'.cell? ⟨w.heap.size, 2, none⟩ = some (.bool ig) ∧ w'.cell? ⟨w.heap.size, 3, none⟩ = some (.bool uf))
    (first
      | exact o4.all4
      | exact o3.all4
      | exact o2.all4
      | exact (o4.alloc _).all4
      | go_keep)
    (first
      | (go_at_call 55; (with_reducible refine (cX _).mono ?_); rintro e w4 ⟨rfl, k4⟩; have o4 := o3.below k4; unfold elV)
      | (go_at_call 55; (with_reducible refine (cY _).mono ?_); rintro e w4 ⟨rfl, k4⟩; have o4 := o3.below k4; unfold elV)
      | (go_at_call 55; (with_reducible refine (cX _).mono ?_); rintro e w3 ⟨rfl, k3⟩; have o3 := o2.below k3; unfold elV)
      | (go_at_call 55; (with_reducible refine (cY _).mono ?_); rintro e w3 ⟨rfl, k3⟩; have o3 := o2.below k3; unfold elV))
  all_goals
    have hb4 : Below w.heap.size w w4 := (hB.drew.trans (k3.mono hB.size)).trans (k4.mono (Nat.le_trans hB.size k3.size))
    have HR := Go.Lib.hid (REls.two w4 x y w.heap.size hb4.size)
    have HB := Go.Lib.hid (hb4.alloc hb4.size (.cells #[.int .i64 (x.1 : Nat), .int .i64 (x.2.1 : Nat), .int .i64 (x.2.2 : Nat), .int .i64 (y.1 : Nat), .int .i64 (y.2.1 : Nat), .int .i64 (y.2.2 : Nat)] 38))
    clear hb4 k3 k4 o1 o2 o3 hB
    go_wp2
    go_ret
    exact ⟨_, rfl, by rw [HE.out]; exact HR.out, HB.out⟩
set_option maxRecDepth 100000 in
set_option maxHeartbeats 8000000 in
theorem rp_df (st : Int) (nu ig uf : Bool) (w : World)  : Calls Try.prog 38 #[.int .i64 223, opV st nu ig uf] w (RElR (pointE (upN uf) ig 223) w) := by
  have o1 := ObjAt.new w #[.int .i64 st, .bool nu, .bool ig, .bool uf] 34
  have hB : Below w.heap.size w (w.alloc (.cells #[.int .i64 st, .bool nu, .bool ig, .bool uf] 34)) := (Below.refl _ w).alloc (Nat.le_refl _) _
  have cD : ∀ w', Calls Try.prog 36 #[.int .i64 223] w' fun e w'' => e = .returned (.bool false) ∧ w'' = w' := fun w' => rdigit_any 223 w' (by omega)
  have cZ : ∀ w', Calls Try.prog 54 #[.int .i64 223] w' fun e w'' => e = .returned (.bool false) ∧ w'' = w' := fun w' => rletter_is 223 w' (by omega)
  have cX : ∀ w', Calls Try.prog 55 #[.int .i64 115, opV st nu ig uf] w' (ElR (ltE uf 115) w') := fun w' => rletter_any 115 st nu ig uf w' (by omega) (by omega)
  have cY : ∀ w', Calls Try.prog 55 #[.int .i64 115, opV st nu ig uf] w' (ElR (ltE uf 115) w') := fun w' => rletter_any 115 st nu ig uf w' (by omega) (by omega)
  obtain ⟨x, hx⟩ : ∃ x : El, x = ltE uf 115 := ⟨_, rfl⟩
  obtain ⟨y, hy⟩ : ∃ x : El, x = ltE uf 115 := ⟨_, rfl⟩
  rw [← hx] at cX
  rw [← hy] at cY
  have HE := Go.Lib.hid (show pointE (upN uf) ig 223 = [x, y] by rw [pointE_two (a := 115) (b := 115) (by decide) (by decide)]; simp only [oneE_ltt uf ig (show ltt 115 = true by decide), hx, hy]; rfl)
  have hxy : x = y := by rw [hx, hy]
  clear hx hy
  subst hxy
  unfold opV at *
  go_enter Try.func38, Try.ntmps38
  go_wp2_with fail
  generalize w.alloc (.cells #[.int .i64 st, .bool nu, .bool ig, .bool uf] 34) = W at *
  go_wp2_with (first
    | (go_at_call 36; (with_reducible refine (cD _).mono ?_); rintro e W ⟨rfl, rfl⟩)
    | (go_at_call 54; (with_reducible refine (cZ _).mono ?_); rintro e W ⟨rfl, rfl⟩))
  have o2 : ObjAt W.drew w.heap.size #[.int .i64 st, .bool nu, .bool ig, .bool uf] 34 := o1
  go_region_held3 (fun w' => w'.cell? ⟨w.heap.size, 0, none⟩ = some (.int .i64 st) ∧ w'.cell? ⟨w.heap.size, 1, none⟩ = some (.bool nu) ∧ w'.cell? ⟨w.heap.size, 2, none⟩ = some (.bool ig) ∧ w'.cell? ⟨w.heap.size, 3, none⟩ = some (.bool uf))
    (first
      | exact o4.all4
      | exact o3.all4
      | exact o2.all4
      | exact (o4.alloc _).all4
      | go_keep)
    (first
      | (go_at_call 55; (with_reducible refine (cX _).mono ?_); rintro e w4 ⟨rfl, k4⟩; have o4 := o3.below k4; unfold elV)
      | (go_at_call 55; (with_reducible refine (cX _).mono ?_); rintro e w3 ⟨rfl, k3⟩; have o3 := o2.below k3; unfold elV))
  all_goals
    have hb4 : Below w.heap.size w w4 := (hB.drew.trans (k3.mono hB.size)).trans (k4.mono (Nat.le_trans hB.size k3.size))
    have HR := Go.Lib.hid (REls.two w4 x x w.heap.size hb4.size)
    have HB := Go.Lib.hid (hb4.alloc hb4.size (.cells #[.int .i64 (x.1 : Nat), .int .i64 (x.2.1 : Nat), .int .i64 (x.2.2 : Nat), .int .i64 (x.1 : Nat), .int .i64 (x.2.1 : Nat), .int .i64 (x.2.2 : Nat)] 38))
    clear hb4 k3 k4 o1 o2 o3 hB
    go_wp2
    go_ret
    exact ⟨_, rfl, by rw [HE.out]; exact HR.out, HB.out⟩
set_option maxRecDepth 100000 in
set_option maxHeartbeats 8000000 in
theorem rp_pr {c : Nat} (st : Int) (nu ig uf : Bool) (w : World) {a m : Nat} (h1 : 160 ≤ c) (h2 : c < 256) (n1 : c ≠ 173) (n2 : c ≠ 198) (n3 : c ≠ 230) (n4 : c ≠ 223) (hac : accP c = (a, m)) (hpr : pairN c = (a, m)) (hla : ltt a = true) (hm1 : 768 ≤ m) (hm2 : m ≤ 879) : Calls Try.prog 38 #[.int .i64 (c : Nat), opV st nu ig uf] w (RElR (pointE (upN uf) ig c) w) := by
  have o1 := ObjAt.new w #[.int .i64 st, .bool nu, .bool ig, .bool uf] 34
  have hB : Below w.heap.size w (w.alloc (.cells #[.int .i64 st, .bool nu, .bool ig, .bool uf] 34)) := (Below.refl _ w).alloc (Nat.le_refl _) _
  have j0 : ¬ (c : Int) < 32 := by omega
  have j1 : (127 : Int) ≤ c := by omega
  have j2 : ¬ (c : Int) ≤ 159 := by omega
  have j4 : ¬ (c : Int) < 127 := by omega
  have j5 : ¬ (768 : Int) ≤ c := by omega
  have j6 : (c : Int) ≤ 879 := by omega
  have hd : dig c = false := by simp [dig]; omega
  have hl : ltt c = false := by simp [ltt]; omega
  have j3 : ¬ (c : Int) = 173 := by omega
  have j7 : ¬ (c : Int) = 198 := by omega
  have j8 : ¬ (c : Int) = 230 := by omega
  have j9 : ¬ (c : Int) = 223 := by omega
  have hab : (65 ≤ a ∧ a ≤ 122) := by have : (97 ≤ a ∧ a ≤ 122) ∨ (65 ≤ a ∧ a ≤ 90) := by simpa [ltt] using hla
                                      omega
  have pa : (0 : Int) < (a : Int) := by omega
  have cA := fun w' => accented_any c w' (by omega)
  rw [hac] at cA
  have cX := fun w' => rletter_any a st nu ig uf w' hab.1 hab.2
  have cY := fun w' => rmark_any m w' hm1 (by omega)
  obtain ⟨x, hx⟩ : ∃ x : El, x = ltE uf a := ⟨_, rfl⟩
  obtain ⟨y, hy⟩ : ∃ x : El, x = mkE m := ⟨_, rfl⟩
  rw [← hx] at cX
  rw [← hy] at cY
  have HE := Go.Lib.hid (show pointE (upN uf) ig c = [x, y] by rw [pointE_two hpr (by omega), oneE_ltt uf ig hla, oneE_mark _ _ hm1 hm2, hx, hy]; rfl)
  clear hx hy
  unfold opV at *
  go_enter Try.func38, Try.ntmps38
  go_wp2_with fail
  generalize w.alloc (.cells #[.int .i64 st, .bool nu, .bool ig, .bool uf] 34) = W at *
  have z0 := o1.c0
  have z1 := o1.c1
  have z2 := o1.c2
  have z3 := o1.c3
  go_wp2_with (first
    | (go_at_call 36; (with_reducible refine (rdigit_any c _ (by omega)).mono ?_); rintro e W ⟨rfl, rfl⟩)
    | (go_at_call 54; (with_reducible refine (rletter_is c _ (by omega)).mono ?_); rintro e W ⟨rfl, rfl⟩)
    | (go_at_call 57; (with_reducible refine (cA _).mono ?_); rintro e w5 ⟨rfl, k5⟩; have o5 := o1.below k5; have y0 := o5.c0; have y1 := o5.c1; have y2 := o5.c2; have y3 := o5.c3)
    | (go_at_call 55; (with_reducible refine (cX _).mono ?_); rintro e w6 ⟨rfl, k6⟩; unfold elV)
    | (go_at_call 56; (with_reducible refine (cY _).mono ?_); rintro e w7 ⟨rfl, k7⟩; unfold elV))
  have hb7 : Below w.heap.size w w7 := ((hB.trans (k5.mono hB.size)).trans (k6.mono (Nat.le_trans hB.size k5.size))).trans (k7.mono (Nat.le_trans hB.size (Nat.le_trans k5.size k6.size)))
  have HR := Go.Lib.hid (REls.two w7 x y w.heap.size hb7.size)
  have HB := Go.Lib.hid (hb7.alloc hb7.size (.cells #[.int .i64 (x.1 : Nat), .int .i64 (x.2.1 : Nat), .int .i64 (x.2.2 : Nat), .int .i64 (y.1 : Nat), .int .i64 (y.2.1 : Nat), .int .i64 (y.2.2 : Nat)] 38))
  clear hb7 k5 k6 k7 o1 o5 hB
  go_ret
  exact ⟨_, rfl, by rw [HE.out]; exact HR.out, HB.out⟩

set_option maxRecDepth 100000 in
set_option maxHeartbeats 8000000 in
theorem rp_o1 {c : Nat} (st : Int) (nu ig uf : Bool) (w : World) (h1 : 160 ≤ c) (h2 : c < 768) (n1 : c ≠ 173) (n2 : c ≠ 198) (n3 : c ≠ 230) (n4 : c ≠ 223) (hac : accP c = (0, 0)) (hpr : pairN c = (0, 0)) : Calls Try.prog 38 #[.int .i64 (c : Nat), opV st nu ig uf] w (RElR (pointE (upN uf) ig c) w) := by
  have o1 := ObjAt.new w #[.int .i64 st, .bool nu, .bool ig, .bool uf] 34
  have hB : Below w.heap.size w (w.alloc (.cells #[.int .i64 st, .bool nu, .bool ig, .bool uf] 34)) := (Below.refl _ w).alloc (Nat.le_refl _) _
  have j0 : ¬ (c : Int) < 32 := by omega
  have j1 : (127 : Int) ≤ c := by omega
  have j2 : ¬ (c : Int) ≤ 159 := by omega
  have j4 : ¬ (c : Int) < 127 := by omega
  have j5 : ¬ (768 : Int) ≤ c := by omega
  have j6 : (c : Int) ≤ 879 := by omega
  have hd : dig c = false := by simp [dig]; omega
  have hl : ltt c = false := by simp [ltt]; omega
  have j3 : ¬ (c : Int) = 173 := by omega
  have j7 : ¬ (c : Int) = 198 := by omega
  have j8 : ¬ (c : Int) = 230 := by omega
  have j9 : ¬ (c : Int) = 223 := by omega
  have cA := fun w' => accented_any c w' (by omega)
  rw [hac] at cA
  obtain ⟨x, hx⟩ : ∃ x : El, x = (65536 + c, 32, 2) := ⟨_, rfl⟩
  have hxx := Go.Lib.hid (show (x.1 : Int) = 65536 + (c : Nat) ∧ x.2 = (32, 2) by rw [hx]; exact ⟨by simp only []; omega, rfl⟩)
  have HE := Go.Lib.hid (show pointE (upN uf) ig c = [x] by rw [hx, pointE_one (hpr)]; unfold oneE; rw [if_neg (by simp [silent]; omega), if_neg (by simp [hd]), if_neg (by omega), if_neg (by omega), if_neg (by omega), if_neg (by omega)])
  clear hx
  unfold opV at *
  go_enter Try.func38, Try.ntmps38
  go_wp2_with fail
  generalize w.alloc (.cells #[.int .i64 st, .bool nu, .bool ig, .bool uf] 34) = W at *
  have z0 := o1.c0
  have z1 := o1.c1
  have z2 := o1.c2
  have z3 := o1.c3
  go_wp2_with (first
    | (go_at_call 36; (with_reducible refine (rdigit_any c _ (by omega)).mono ?_); rintro e W ⟨rfl, rfl⟩)
    | (go_at_call 54; (with_reducible refine (rletter_is c _ (by omega)).mono ?_); rintro e W ⟨rfl, rfl⟩)
    | (go_at_call 57; (with_reducible refine (cA _).mono ?_); rintro e w5 ⟨rfl, k5⟩; have o5 := o1.below k5; have y0 := o5.c0; have y1 := o5.c1; have y2 := o5.c2; have y3 := o5.c3)
    | (go_at_call 53; (with_reducible refine (rbase_el _ x hxx.out _).mono ?_); rintro e w2 ⟨rfl, k2⟩; unfold elV))
  have HR := Go.Lib.hid (REls.one w2 x w.heap.size (Nat.le_trans hB.size (Nat.le_trans k5.size k2.size)))
  have HB := Go.Lib.hid (show Below w.heap.size w (w2.alloc (.cells #[.int .i64 (x.1 : Nat), .int .i64 (x.2.1 : Nat), .int .i64 (x.2.2 : Nat)] 38)) from (hB.trans ((k5.mono hB.size).trans (k2.mono (Nat.le_trans hB.size k5.size)))).alloc (Nat.le_trans hB.size (Nat.le_trans k5.size k2.size)) _)
  go_ret
  exact ⟨_, rfl, by rw [HE.out]; exact HR.out, HB.out⟩
set_option maxRecDepth 100000 in
set_option maxHeartbeats 8000000 in
theorem rp_o2 {c : Nat} (st : Int) (nu ig uf : Bool) (w : World) (h1 : 879 < c) (h2 : c ≤ 1114111) : Calls Try.prog 38 #[.int .i64 (c : Nat), opV st nu ig uf] w (RElR (pointE (upN uf) ig c) w) := by
  have o1 := ObjAt.new w #[.int .i64 st, .bool nu, .bool ig, .bool uf] 34
  have hB : Below w.heap.size w (w.alloc (.cells #[.int .i64 st, .bool nu, .bool ig, .bool uf] 34)) := (Below.refl _ w).alloc (Nat.le_refl _) _
  have j0 : ¬ (c : Int) < 32 := by omega
  have j1 : (127 : Int) ≤ c := by omega
  have j2 : ¬ (c : Int) ≤ 159 := by omega
  have j3 : ¬ (c : Int) = 173 := by omega
  have j4 : ¬ (c : Int) < 127 := by omega
  have j5 : (768 : Int) ≤ c := by omega
  have j6 : ¬ (c : Int) ≤ 879 := by omega
  have j7 : ¬ (c : Int) = 198 := by omega
  have j8 : ¬ (c : Int) = 230 := by omega
  have j9 : ¬ (c : Int) = 223 := by omega
  have hd : dig c = false := by simp [dig]; omega
  have hl : ltt c = false := by simp [ltt]; omega
  have j3 : ¬ (c : Int) = 173 := by omega
  have j7 : ¬ (c : Int) = 198 := by omega
  have j8 : ¬ (c : Int) = 230 := by omega
  have j9 : ¬ (c : Int) = 223 := by omega
  have cA := fun w' => accented_any c w' (by omega)
  rw [accP_hi (by omega)] at cA
  obtain ⟨x, hx⟩ : ∃ x : El, x = (65536 + c, 32, 2) := ⟨_, rfl⟩
  have hxx := Go.Lib.hid (show (x.1 : Int) = 65536 + (c : Nat) ∧ x.2 = (32, 2) by rw [hx]; exact ⟨by simp only []; omega, rfl⟩)
  have HE := Go.Lib.hid (show pointE (upN uf) ig c = [x] by rw [hx, pointE_one (pairN_hi (by omega))]; unfold oneE; rw [if_neg (by simp [silent]; omega), if_neg (by simp [hd]), if_neg (by omega), if_neg (by omega), if_neg (by omega), if_neg (by omega)])
  clear hx
  unfold opV at *
  go_enter Try.func38, Try.ntmps38
  go_wp2_with fail
  generalize w.alloc (.cells #[.int .i64 st, .bool nu, .bool ig, .bool uf] 34) = W at *
  have z0 := o1.c0
  have z1 := o1.c1
  have z2 := o1.c2
  have z3 := o1.c3
  go_wp2_with (first
    | (go_at_call 36; (with_reducible refine (rdigit_any c _ (by omega)).mono ?_); rintro e W ⟨rfl, rfl⟩)
    | (go_at_call 54; (with_reducible refine (rletter_is c _ (by omega)).mono ?_); rintro e W ⟨rfl, rfl⟩)
    | (go_at_call 57; (with_reducible refine (cA _).mono ?_); rintro e w5 ⟨rfl, k5⟩; have o5 := o1.below k5; have y0 := o5.c0; have y1 := o5.c1; have y2 := o5.c2; have y3 := o5.c3)
    | (go_at_call 53; (with_reducible refine (rbase_el _ x hxx.out _).mono ?_); rintro e w2 ⟨rfl, k2⟩; unfold elV))
  have HR := Go.Lib.hid (REls.one w2 x w.heap.size (Nat.le_trans hB.size (Nat.le_trans k5.size k2.size)))
  have HB := Go.Lib.hid (show Below w.heap.size w (w2.alloc (.cells #[.int .i64 (x.1 : Nat), .int .i64 (x.2.1 : Nat), .int .i64 (x.2.2 : Nat)] 38)) from (hB.trans ((k5.mono hB.size).trans (k2.mono (Nat.le_trans hB.size k5.size)))).alloc (Nat.le_trans hB.size (Nat.le_trans k5.size k2.size)) _)
  go_ret
  exact ⟨_, rfl, by rw [HE.out]; exact HR.out, HB.out⟩
theorem rpoint_any {c : Nat} (st : Int) (nu ig uf : Bool) (w : World) (hc : c ≤ 1114111) : Calls Try.prog 38 #[.int .i64 (c : Nat), opV st nu ig uf] w (RElR (pointE (upN uf) ig c) w) := by
  by_cases a1 : c < 32
  · exact rp_s1 st nu ig uf w a1
  by_cases a2 : c ≤ 47
  · cases ig
    · exact rp_g1f st nu uf w (by omega) a2
    · exact rp_g1t st nu uf w (by omega) a2
  by_cases a3 : c ≤ 57
  · exact rp_dig st nu ig uf w (by omega) a3
  by_cases a4 : c ≤ 64
  · cases ig
    · exact rp_g2f st nu uf w (by omega) a4
    · exact rp_g2t st nu uf w (by omega) a4
  by_cases a5 : c ≤ 90
  · exact rp_l1 st nu ig uf w (by omega) a5
  by_cases a6 : c ≤ 96
  · cases ig
    · exact rp_g3f st nu uf w (by omega) a6
    · exact rp_g3t st nu uf w (by omega) a6
  by_cases a7 : c ≤ 122
  · exact rp_l2 st nu ig uf w (by omega) a7
  by_cases a8 : c ≤ 126
  · cases ig
    · exact rp_g4f st nu uf w (by omega) a8
    · exact rp_g4t st nu uf w (by omega) a8
  by_cases a9 : c ≤ 159
  · exact rp_s2 st nu ig uf w (by omega) a9
  by_cases b1 : c = 173
  · exact rp_s3 st nu ig uf w b1
  by_cases b2 : c = 198
  · subst b2; exact rp_c6 st nu ig uf w
  by_cases b3 : c = 230
  · subst b3; exact rp_e6 st nu ig uf w
  by_cases b4 : c = 223
  · subst b4; exact rp_df st nu ig uf w
  by_cases b5 : c < 256
  · obtain ⟨q1, q2⟩ := acc_pair c b5 (by omega) b2 b3 b4
    rcases q2 with q2 | ⟨q2, q3, q4⟩
    · exact rp_o1 st nu ig uf w (by omega) (by omega) b1 b2 b3 b4 (q1.trans q2) q2
    · exact rp_pr st nu ig uf w (by omega) b5 b1 b2 b3 b4 q1 rfl q2 q3 q4
  by_cases b6 : c < 768
  · exact rp_o1 st nu ig uf w (by omega) b6 b1 b2 b3 b4 (accP_hi (by omega)) (pairN_hi (by omega))
  by_cases b7 : c ≤ 879
  · exact rp_m st nu ig uf w (by omega) b7
  · exact rp_o2 st nu ig uf w (by omega) hc
end Go.Proofs.Ytknbglcmjggkjaa
