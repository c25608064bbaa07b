/- Layer 6: the reference's Point (38). -/
import Derived.Test.YtknbglcmjggkjaaR4
import Derived.Deep.RegionHeld3
namespace Go.Proofs.Ytknbglcmjggkjaa
open Go.RowKit Go.Shelf Go.Lib Co

theorem oneE_ltt {c : Nat} (uf ig : Bool) (h : ltt c = true) : oneE (upN uf) ig c = [ltE uf c] := by
  have h' : (97 ≤ c ∧ c ≤ 122) ∨ (65 ≤ c ∧ c ≤ 90) := by simpa [ltt] using h
  have hs : silent c = false := by simp [silent]; omega
  have hd : dig c = false := by simp [dig]; omega
  unfold oneE ltE
  rw [if_neg (by simp [hs]), if_neg (by simp [hd])]
  rcases h' with h' | h'
  · rw [if_pos h', if_pos h'.1]
  · rw [if_neg (by omega), if_pos h', if_neg (by omega)]
theorem oneE_mark {c : Nat} (up : Nat) (ig : Bool) (h1 : 768 ≤ c) (h2 : c ≤ 879) : oneE up ig c = [mkE c] := by
  have hs : silent c = false := by simp [silent]; omega
  have hd : dig c = false := by simp [dig]; omega
  unfold oneE mkE
  rw [if_neg (by simp [hs]), if_neg (by simp [hd]), if_neg (by omega), if_neg (by omega), if_neg (by omega), if_pos ⟨h1, h2⟩]
theorem acc_pair (c : Nat) (h : c < 256) (h1 : 160 ≤ c) (h2 : c ≠ 198) (h3 : c ≠ 230) (h4 : c ≠ 223) : accP c = pairN c ∧ (pairN c = (0, 0) ∨ (ltt (pairN c).1 = true ∧ 768 ≤ (pairN c).2 ∧ (pairN c).2 ≤ 879)) := by
  have : (List.range 256).all (fun c => decide (c < 160) || c == 198 || c == 230 || c == 223 || (decide (accP c = pairN c) && (decide (pairN c = (0, 0)) || (ltt (pairN c).1 && decide (768 ≤ (pairN c).2) && decide ((pairN c).2 ≤ 879))))) = true := by decide +kernel
  have := List.all_eq_true.1 this c (List.mem_range.2 h)
  simp only [Bool.or_eq_true, Bool.and_eq_true, decide_eq_true_eq, beq_iff_eq] at this
  rcases this with (((h' | h') | h') | h') | h'
  · omega
  · exact absurd h' h2
  · exact absurd h' h3
  · exact absurd h' h4
  · exact ⟨h'.1, h'.2.imp id fun q => ⟨q.1.1, q.1.2, q.2⟩⟩
theorem pairN_hi {c : Nat} (h : c < 192 ∨ 256 ≤ c) : pairN c = (0, 0) := by unfold pairN; rw [if_neg (by omega)]
theorem accP_hi {c : Nat} (h : 256 ≤ c) : accP c = (0, 0) := by unfold accP; rw [if_neg (by omega), if_neg (by omega), if_neg (by omega)]
theorem pointE_one {up : Nat} {ig : Bool} {c : Nat} (h : pairN c = (0, 0)) : pointE up ig c = oneE up ig c := by unfold pointE; rw [if_pos h]
theorem pointE_two {up : Nat} {ig : Bool} {c a b : Nat} (h : pairN c = (a, b)) (hn : ¬ (a = 0 ∧ b = 0)) : pointE up ig c = oneE up ig a ++ oneE up ig b := by unfold pointE; rw [if_neg (by rw [h]; simpa using hn), h]
theorem REls.nil0 (B : Nat) (w : World) : REls B w (.slice none 0 0) [] := World.ownsRow_nil _ _ _ _
set_option maxRecDepth 100000 in
set_option maxHeartbeats 8000000 in
theorem rp_s1 {c : Nat} (st : Int) (nu ig uf : Bool) (w : World) (h : c < 32) : Calls Try.prog 38 #[.int .i64 (c : Nat), opV st nu ig uf] w (RElR (pointE (upN uf) ig c) w) := by
  have o1 := ObjAt.new w #[.int .i64 st, .bool nu, .bool ig, .bool uf] 34
  have hB : Below w.heap.size w (w.alloc (.cells #[.int .i64 st, .bool nu, .bool ig, .bool uf] 34)) := (Below.refl _ w).alloc (Nat.le_refl _) _
  have j0 : (c : Int) < 32 := by omega
  have j1 : ¬ (127 : Int) ≤ c := by omega
  have j2 : (c : Int) ≤ 159 := by omega
  have j3 : ¬ (c : Int) = 173 := by omega
  have j4 : (c : Int) < 127 := by omega
  have j5 : ¬ (768 : Int) ≤ c := by omega
  have j6 : (c : Int) ≤ 879 := by omega
  have j7 : ¬ (c : Int) = 198 := by omega
  have j8 : ¬ (c : Int) = 230 := by omega
  have j9 : ¬ (c : Int) = 223 := by omega
  have HE := Go.Lib.hid (show pointE (upN uf) ig c = [] by rw [pointE_one (pairN_hi (by omega))]; unfold oneE; rw [if_pos (by simp [silent]; omega)])
  unfold opV at *
  go_enter Try.func38, Try.ntmps38
  go_wp2_with fail
  generalize w.alloc (.cells #[.int .i64 st, .bool nu, .bool ig, .bool uf] 34) = W at *
  have z0 := o1.c0
  have z1 := o1.c1
  have z2 := o1.c2
  have z3 := o1.c3
  go_wp2
  go_ret
  exact ⟨_, rfl, by rw [HE.out]; exact REls.nil0 _ _, hB⟩
set_option maxRecDepth 100000 in
set_option maxHeartbeats 8000000 in
theorem rp_s2 {c : Nat} (st : Int) (nu ig uf : Bool) (w : World) (h1 : 127 ≤ c) (h2 : c ≤ 159) : Calls Try.prog 38 #[.int .i64 (c : Nat), opV st nu ig uf] w (RElR (pointE (upN uf) ig c) w) := by
  have o1 := ObjAt.new w #[.int .i64 st, .bool nu, .bool ig, .bool uf] 34
  have hB : Below w.heap.size w (w.alloc (.cells #[.int .i64 st, .bool nu, .bool ig, .bool uf] 34)) := (Below.refl _ w).alloc (Nat.le_refl _) _
  have j0 : ¬ (c : Int) < 32 := by omega
  have j1 : (127 : Int) ≤ c := by omega
  have j2 : (c : Int) ≤ 159 := by omega
  have j3 : ¬ (c : Int) = 173 := by omega
  have j4 : ¬ (c : Int) < 127 := by omega
  have j5 : ¬ (768 : Int) ≤ c := by omega
  have j6 : (c : Int) ≤ 879 := by omega
  have j7 : ¬ (c : Int) = 198 := by omega
  have j8 : ¬ (c : Int) = 230 := by omega
  have j9 : ¬ (c : Int) = 223 := by omega
  have HE := Go.Lib.hid (show pointE (upN uf) ig c = [] by rw [pointE_one (pairN_hi (by omega))]; unfold oneE; rw [if_pos (by simp [silent]; omega)])
  unfold opV at *
  go_enter Try.func38, Try.ntmps38
  go_wp2_with fail
  generalize w.alloc (.cells #[.int .i64 st, .bool nu, .bool ig, .bool uf] 34) = W at *
  have z0 := o1.c0
  have z1 := o1.c1
  have z2 := o1.c2
  have z3 := o1.c3
  go_wp2
  go_ret
  exact ⟨_, rfl, by rw [HE.out]; exact REls.nil0 _ _, hB⟩
set_option maxRecDepth 100000 in
set_option maxHeartbeats 8000000 in
theorem rp_s3 {c : Nat} (st : Int) (nu ig uf : Bool) (w : World) (h : c = 173) : Calls Try.prog 38 #[.int .i64 (c : Nat), opV st nu ig uf] w (RElR (pointE (upN uf) ig c) w) := by
  have o1 := ObjAt.new w #[.int .i64 st, .bool nu, .bool ig, .bool uf] 34
  have hB : Below w.heap.size w (w.alloc (.cells #[.int .i64 st, .bool nu, .bool ig, .bool uf] 34)) := (Below.refl _ w).alloc (Nat.le_refl _) _
  have j0 : ¬ (c : Int) < 32 := by omega
  have j1 : (127 : Int) ≤ c := by omega
  have j2 : ¬ (c : Int) ≤ 159 := by omega
  have j3 : (c : Int) = 173 := by omega
  have j4 : ¬ (c : Int) < 127 := by omega
  have j5 : ¬ (768 : Int) ≤ c := by omega
  have j6 : (c : Int) ≤ 879 := by omega
  have j7 : ¬ (c : Int) = 198 := by omega
  have j8 : ¬ (c : Int) = 230 := by omega
  have j9 : ¬ (c : Int) = 223 := by omega
  have HE := Go.Lib.hid (show pointE (upN uf) ig c = [] by rw [pointE_one (pairN_hi (by omega))]; unfold oneE; rw [if_pos (by simp [silent]; omega)])
  unfold opV at *
  have HC := Go.Lib.hid h
  clear h
  go_enter Try.func38, Try.ntmps38
  go_wp2_with fail
  generalize w.alloc (.cells #[.int .i64 st, .bool nu, .bool ig, .bool uf] 34) = W at *
  have z0 := o1.c0
  have z1 := o1.c1
  have z2 := o1.c2
  have z3 := o1.c3
  go_wp2
  go_ret
  exact ⟨_, rfl, by have := HE.out; rw [HC.out] at this ⊢; rw [this]; exact REls.nil0 _ _, hB⟩
set_option maxRecDepth 100000 in
set_option maxHeartbeats 8000000 in
theorem rp_dig {c : Nat} (st : Int) (nu ig uf : Bool) (w : World) (h1 : 48 ≤ c) (h2 : c ≤ 57) : Calls Try.prog 38 #[.int .i64 (c : Nat), opV st nu ig uf] w (RElR (pointE (upN uf) ig c) w) := by
  have o1 := ObjAt.new w #[.int .i64 st, .bool nu, .bool ig, .bool uf] 34
  have hB : Below w.heap.size w (w.alloc (.cells #[.int .i64 st, .bool nu, .bool ig, .bool uf] 34)) := (Below.refl _ w).alloc (Nat.le_refl _) _
  have j0 : ¬ (c : Int) < 32 := by omega
  have j1 : ¬ (127 : Int) ≤ c := by omega
  have j2 : (c : Int) ≤ 159 := by omega
  have j3 : ¬ (c : Int) = 173 := by omega
  have j4 : (c : Int) < 127 := by omega
  have j5 : ¬ (768 : Int) ≤ c := by omega
  have j6 : (c : Int) ≤ 879 := by omega
  have j7 : ¬ (c : Int) = 198 := by omega
  have j8 : ¬ (c : Int) = 230 := by omega
  have j9 : ¬ (c : Int) = 223 := by omega
  have hd : dig c = true := by simp [dig]; omega
  obtain ⟨x, hx⟩ : ∃ x : El, x = (512 + (c - 48), 32, 2) := ⟨_, rfl⟩
  have hxx := Go.Lib.hid (show (x.1 : Int) = 512 + (c : Nat) - 48 ∧ x.2 = (32, 2) by rw [hx]; exact ⟨by simp only []; omega, rfl⟩)
  have HE := Go.Lib.hid (show pointE (upN uf) ig c = [x] by rw [hx, pointE_one (pairN_hi (by omega))]; unfold oneE; rw [if_neg (by simp [silent]; omega), if_pos (by simp [dig]; omega)])
  clear hx
  unfold opV at *
  go_enter Try.func38, Try.ntmps38
  go_wp2_with fail
  generalize w.alloc (.cells #[.int .i64 st, .bool nu, .bool ig, .bool uf] 34) = W at *
  have z0 := o1.c0
  have z1 := o1.c1
  have z2 := o1.c2
  have z3 := o1.c3
  go_wp2_with (first
    | (go_at_call 36; (with_reducible refine (rdigit_any c _ (by omega)).mono ?_); rintro e W ⟨rfl, rfl⟩)
    | (go_at_call 53; (with_reducible refine (rbase_el _ x hxx.out _).mono ?_); rintro e w2 ⟨rfl, k2⟩; unfold elV))
  have HR := Go.Lib.hid (REls.one w2 x w.heap.size (Nat.le_trans hB.size k2.size))
  have HB := Go.Lib.hid (show Below w.heap.size w (w2.alloc (.cells #[.int .i64 (x.1 : Nat), .int .i64 (x.2.1 : Nat), .int .i64 (x.2.2 : Nat)] 38)) from (hB.trans (k2.mono hB.size)).alloc (Nat.le_trans hB.size k2.size) _)
  go_ret
  exact ⟨_, rfl, by rw [HE.out]; exact HR.out, HB.out⟩
set_option maxRecDepth 100000 in
set_option maxHeartbeats 8000000 in
theorem rp_l1 {c : Nat} (st : Int) (nu ig uf : Bool) (w : World) (h1 : 65 ≤ c) (h2 : c ≤ 90) : Calls Try.prog 38 #[.int .i64 (c : Nat), opV st nu ig uf] w (RElR (pointE (upN uf) ig c) w) := by
  have o1 := ObjAt.new w #[.int .i64 st, .bool nu, .bool ig, .bool uf] 34
  have hB : Below w.heap.size w (w.alloc (.cells #[.int .i64 st, .bool nu, .bool ig, .bool uf] 34)) := (Below.refl _ w).alloc (Nat.le_refl _) _
  have j0 : ¬ (c : Int) < 32 := by omega
  have j1 : ¬ (127 : Int) ≤ c := by omega
  have j2 : (c : Int) ≤ 159 := by omega
  have j3 : ¬ (c : Int) = 173 := by omega
  have j4 : (c : Int) < 127 := by omega
  have j5 : ¬ (768 : Int) ≤ c := by omega
  have j6 : (c : Int) ≤ 879 := by omega
  have j7 : ¬ (c : Int) = 198 := by omega
  have j8 : ¬ (c : Int) = 230 := by omega
  have j9 : ¬ (c : Int) = 223 := by omega
  have hd : dig c = false := by simp [dig]; omega
  have hl : ltt c = true := by simp [ltt]; omega
  have cL := fun w' => rletter_any c st nu ig uf w' (by omega) (by omega)
  obtain ⟨x, hx⟩ : ∃ x : El, x = ltE uf c := ⟨_, rfl⟩
  rw [← hx] at cL
  have HE := Go.Lib.hid (show pointE (upN uf) ig c = [x] by rw [hx, pointE_one (pairN_hi (by omega)), oneE_ltt uf ig hl])
  clear hx
  unfold opV at *
  go_enter Try.func38, Try.ntmps38
  go_wp2_with fail
  generalize w.alloc (.cells #[.int .i64 st, .bool nu, .bool ig, .bool uf] 34) = W at *
  have z0 := o1.c0
  have z1 := o1.c1
  have z2 := o1.c2
  have z3 := o1.c3
  go_wp2_with (first
    | (go_at_call 36; (with_reducible refine (rdigit_any c _ (by omega)).mono ?_); rintro e W ⟨rfl, rfl⟩)
    | (go_at_call 54; (with_reducible refine (rletter_is c _ (by omega)).mono ?_); rintro e W ⟨rfl, rfl⟩)
    | (go_at_call 55; (with_reducible refine (cL _).mono ?_); rintro e w2 ⟨rfl, k2⟩; unfold elV))
  have HR := Go.Lib.hid (REls.one w2 x w.heap.size (Nat.le_trans hB.size k2.size))
  have HB := Go.Lib.hid (show Below w.heap.size w (w2.alloc (.cells #[.int .i64 (x.1 : Nat), .int .i64 (x.2.1 : Nat), .int .i64 (x.2.2 : Nat)] 38)) from (hB.trans (k2.mono hB.size)).alloc (Nat.le_trans hB.size k2.size) _)
  go_ret
  exact ⟨_, rfl, by rw [HE.out]; exact HR.out, HB.out⟩
set_option maxRecDepth 100000 in
set_option maxHeartbeats 8000000 in
theorem rp_l2 {c : Nat} (st : Int) (nu ig uf : Bool) (w : World) (h1 : 97 ≤ c) (h2 : c ≤ 122) : Calls Try.prog 38 #[.int .i64 (c : Nat), opV st nu ig uf] w (RElR (pointE (upN uf) ig c) w) := by
  have o1 := ObjAt.new w #[.int .i64 st, .bool nu, .bool ig, .bool uf] 34
  have hB : Below w.heap.size w (w.alloc (.cells #[.int .i64 st, .bool nu, .bool ig, .bool uf] 34)) := (Below.refl _ w).alloc (Nat.le_refl _) _
  have j0 : ¬ (c : Int) < 32 := by omega
  have j1 : ¬ (127 : Int) ≤ c := by omega
  have j2 : (c : Int) ≤ 159 := by omega
  have j3 : ¬ (c : Int) = 173 := by omega
  have j4 : (c : Int) < 127 := by omega
  have j5 : ¬ (768 : Int) ≤ c := by omega
  have j6 : (c : Int) ≤ 879 := by omega
  have j7 : ¬ (c : Int) = 198 := by omega
  have j8 : ¬ (c : Int) = 230 := by omega
  have j9 : ¬ (c : Int) = 223 := by omega
  have hd : dig c = false := by simp [dig]; omega
  have hl : ltt c = true := by simp [ltt]; omega
  have cL := fun w' => rletter_any c st nu ig uf w' (by omega) (by omega)
  obtain ⟨x, hx⟩ : ∃ x : El, x = ltE uf c := ⟨_, rfl⟩
  rw [← hx] at cL
  have HE := Go.Lib.hid (show pointE (upN uf) ig c = [x] by rw [hx, pointE_one (pairN_hi (by omega)), oneE_ltt uf ig hl])
  clear hx
  unfold opV at *
  go_enter Try.func38, Try.ntmps38
  go_wp2_with fail
  generalize w.alloc (.cells #[.int .i64 st, .bool nu, .bool ig, .bool uf] 34) = W at *
  have z0 := o1.c0
  have z1 := o1.c1
  have z2 := o1.c2
  have z3 := o1.c3
  go_wp2_with (first
    | (go_at_call 36; (with_reducible refine (rdigit_any c _ (by omega)).mono ?_); rintro e W ⟨rfl, rfl⟩)
    | (go_at_call 54; (with_reducible refine (rletter_is c _ (by omega)).mono ?_); rintro e W ⟨rfl, rfl⟩)
    | (go_at_call 55; (with_reducible refine (cL _).mono ?_); rintro e w2 ⟨rfl, k2⟩; unfold elV))
  have HR := Go.Lib.hid (REls.one w2 x w.heap.size (Nat.le_trans hB.size k2.size))
  have HB := Go.Lib.hid (show Below w.heap.size w (w2.alloc (.cells #[.int .i64 (x.1 : Nat), .int .i64 (x.2.1 : Nat), .int .i64 (x.2.2 : Nat)] 38)) from (hB.trans (k2.mono hB.size)).alloc (Nat.le_trans hB.size k2.size) _)
  go_ret
  exact ⟨_, rfl, by rw [HE.out]; exact HR.out, HB.out⟩
set_option maxRecDepth 100000 in
set_option maxHeartbeats 8000000 in
theorem rp_g1t {c : Nat} (st : Int) (nu uf : Bool) (w : World) (h1 : 32 ≤ c) (h2 : c ≤ 47) : Calls Try.prog 38 #[.int .i64 (c : Nat), opV st nu true uf] w (RElR (pointE (upN uf) true c) w) := by
  have o1 := ObjAt.new w #[.int .i64 st, .bool nu, .bool true, .bool uf] 34
  have hB : Below w.heap.size w (w.alloc (.cells #[.int .i64 st, .bool nu, .bool true, .bool uf] 34)) := (Below.refl _ w).alloc (Nat.le_refl _) _
  have j0 : ¬ (c : Int) < 32 := by omega
  have j1 : ¬ (127 : Int) ≤ c := by omega
  have j2 : (c : Int) ≤ 159 := by omega
  have j3 : ¬ (c : Int) = 173 := by omega
  have j4 : (c : Int) < 127 := by omega
  have j5 : ¬ (768 : Int) ≤ c := by omega
  have j6 : (c : Int) ≤ 879 := by omega
  have j7 : ¬ (c : Int) = 198 := by omega
  have j8 : ¬ (c : Int) = 230 := by omega
  have j9 : ¬ (c : Int) = 223 := by omega
  have hd : dig c = false := by simp [dig]; omega
  have hl : ltt c = false := by simp [ltt]; omega
  have HE := Go.Lib.hid (show pointE (upN uf) true c = [] by rw [pointE_one (pairN_hi (by omega))]; unfold oneE; rw [if_neg (by simp [silent]; omega), if_neg (by simp [hd]), if_neg (by omega), if_neg (by omega), if_pos (by omega)]; rfl)
  unfold opV at *
  go_enter Try.func38, Try.ntmps38
  go_wp2_with fail
  generalize w.alloc (.cells #[.int .i64 st, .bool nu, .bool true, .bool uf] 34) = W at *
  have z0 := o1.c0
  have z1 := o1.c1
  have z2 := o1.c2
  have z3 := o1.c3
  go_wp2_with (first
    | (go_at_call 36; (with_reducible refine (rdigit_any c _ (by omega)).mono ?_); rintro e W ⟨rfl, rfl⟩)
    | (go_at_call 54; (with_reducible refine (rletter_is c _ (by omega)).mono ?_); rintro e W ⟨rfl, rfl⟩))
  go_ret
  exact ⟨_, rfl, by rw [HE.out]; exact REls.nil0 _ _, hB⟩
set_option maxRecDepth 100000 in
set_option maxHeartbeats 8000000 in
theorem rp_g1f {c : Nat} (st : Int) (nu uf : Bool) (w : World) (h1 : 32 ≤ c) (h2 : c ≤ 47) : Calls Try.prog 38 #[.int .i64 (c : Nat), opV st nu false uf] w (RElR (pointE (upN uf) false c) w) := by
  have o1 := ObjAt.new w #[.int .i64 st, .bool nu, .bool false, .bool uf] 34
  have hB : Below w.heap.size w (w.alloc (.cells #[.int .i64 st, .bool nu, .bool false, .bool uf] 34)) := (Below.refl _ w).alloc (Nat.le_refl _) _
  have j0 : ¬ (c : Int) < 32 := by omega
  have j1 : ¬ (127 : Int) ≤ c := by omega
  have j2 : (c : Int) ≤ 159 := by omega
  have j3 : ¬ (c : Int) = 173 := by omega
  have j4 : (c : Int) < 127 := by omega
  have j5 : ¬ (768 : Int) ≤ c := by omega
  have j6 : (c : Int) ≤ 879 := by omega
  have j7 : ¬ (c : Int) = 198 := by omega
  have j8 : ¬ (c : Int) = 230 := by omega
  have j9 : ¬ (c : Int) = 223 := by omega
  have hd : dig c = false := by simp [dig]; omega
  have hl : ltt c = false := by simp [ltt]; omega
  obtain ⟨x, hx⟩ : ∃ x : El, x = (256 + c, 32, 2) := ⟨_, rfl⟩
  have hxx := Go.Lib.hid (show (x.1 : Int) = 256 + (c : Nat) ∧ x.2 = (32, 2) by rw [hx]; exact ⟨by simp only []; omega, rfl⟩)
  have HE := Go.Lib.hid (show pointE (upN uf) false c = [x] by rw [hx, pointE_one (pairN_hi (by omega))]; unfold oneE; rw [if_neg (by simp [silent]; omega), if_neg (by simp [hd]), if_neg (by omega), if_neg (by omega), if_pos (by omega)]; rfl)
  clear hx
  unfold opV at *
  go_enter Try.func38, Try.ntmps38
  go_wp2_with fail
  generalize w.alloc (.cells #[.int .i64 st, .bool nu, .bool false, .bool uf] 34) = W at *
  have z0 := o1.c0
  have z1 := o1.c1
  have z2 := o1.c2
  have z3 := o1.c3
  go_wp2_with (first
    | (go_at_call 36; (with_reducible refine (rdigit_any c _ (by omega)).mono ?_); rintro e W ⟨rfl, rfl⟩)
    | (go_at_call 54; (with_reducible refine (rletter_is c _ (by omega)).mono ?_); rintro e W ⟨rfl, rfl⟩)
    | (go_at_call 53; (with_reducible refine (rbase_el _ x hxx.out _).mono ?_); rintro e w2 ⟨rfl, k2⟩; unfold elV))
  have HR := Go.Lib.hid (REls.one w2 x w.heap.size (Nat.le_trans hB.size k2.size))
  have HB := Go.Lib.hid (show Below w.heap.size w (w2.alloc (.cells #[.int .i64 (x.1 : Nat), .int .i64 (x.2.1 : Nat), .int .i64 (x.2.2 : Nat)] 38)) from (hB.trans (k2.mono hB.size)).alloc (Nat.le_trans hB.size k2.size) _)
  go_ret
  exact ⟨_, rfl, by rw [HE.out]; exact HR.out, HB.out⟩
set_option maxRecDepth 100000 in
set_option maxHeartbeats 8000000 in
theorem rp_g2t {c : Nat} (st : Int) (nu uf : Bool) (w : World) (h1 : 58 ≤ c) (h2 : c ≤ 64) : Calls Try.prog 38 #[.int .i64 (c : Nat), opV st nu true uf] w (RElR (pointE (upN uf) true c) w) := by
  have o1 := ObjAt.new w #[.int .i64 st, .bool nu, .bool true, .bool uf] 34
  have hB : Below w.heap.size w (w.alloc (.cells #[.int .i64 st, .bool nu, .bool true, .bool uf] 34)) := (Below.refl _ w).alloc (Nat.le_refl _) _
  have j0 : ¬ (c : Int) < 32 := by omega
  have j1 : ¬ (127 : Int) ≤ c := by omega
  have j2 : (c : Int) ≤ 159 := by omega
  have j3 : ¬ (c : Int) = 173 := by omega
  have j4 : (c : Int) < 127 := by omega
  have j5 : ¬ (768 : Int) ≤ c := by omega
  have j6 : (c : Int) ≤ 879 := by omega
  have j7 : ¬ (c : Int) = 198 := by omega
  have j8 : ¬ (c : Int) = 230 := by omega
  have j9 : ¬ (c : Int) = 223 := by omega
  have hd : dig c = false := by simp [dig]; omega
  have hl : ltt c = false := by simp [ltt]; omega
  have HE := Go.Lib.hid (show pointE (upN uf) true c = [] by rw [pointE_one (pairN_hi (by omega))]; unfold oneE; rw [if_neg (by simp [silent]; omega), if_neg (by simp [hd]), if_neg (by omega), if_neg (by omega), if_pos (by omega)]; rfl)
  unfold opV at *
  go_enter Try.func38, Try.ntmps38
  go_wp2_with fail
  generalize w.alloc (.cells #[.int .i64 st, .bool nu, .bool true, .bool uf] 34) = W at *
  have z0 := o1.c0
  have z1 := o1.c1
  have z2 := o1.c2
  have z3 := o1.c3
  go_wp2_with (first
    | (go_at_call 36; (with_reducible refine (rdigit_any c _ (by omega)).mono ?_); rintro e W ⟨rfl, rfl⟩)
    | (go_at_call 54; (with_reducible refine (rletter_is c _ (by omega)).mono ?_); rintro e W ⟨rfl, rfl⟩))
  go_ret
  exact ⟨_, rfl, by rw [HE.out]; exact REls.nil0 _ _, hB⟩
set_option maxRecDepth 100000 in
set_option maxHeartbeats 8000000 in
theorem rp_g2f {c : Nat} (st : Int) (nu uf : Bool) (w : World) (h1 : 58 ≤ c) (h2 : c ≤ 64) : Calls Try.prog 38 #[.int .i64 (c : Nat), opV st nu false uf] w (RElR (pointE (upN uf) false c) w) := by
  have o1 := ObjAt.new w #[.int .i64 st, .bool nu, .bool false, .bool uf] 34
  have hB : Below w.heap.size w (w.alloc (.cells #[.int .i64 st, .bool nu, .bool false, .bool uf] 34)) := (Below.refl _ w).alloc (Nat.le_refl _) _
  have j0 : ¬ (c : Int) < 32 := by omega
  have j1 : ¬ (127 : Int) ≤ c := by omega
  have j2 : (c : Int) ≤ 159 := by omega
  have j3 : ¬ (c : Int) = 173 := by omega
  have j4 : (c : Int) < 127 := by omega
  have j5 : ¬ (768 : Int) ≤ c := by omega
  have j6 : (c : Int) ≤ 879 := by omega
  have j7 : ¬ (c : Int) = 198 := by omega
  have j8 : ¬ (c : Int) = 230 := by omega
  have j9 : ¬ (c : Int) = 223 := by omega
  have hd : dig c = false := by simp [dig]; omega
  have hl : ltt c = false := by simp [ltt]; omega
  obtain ⟨x, hx⟩ : ∃ x : El, x = (256 + c, 32, 2) := ⟨_, rfl⟩
  have hxx := Go.Lib.hid (show (x.1 : Int) = 256 + (c : Nat) ∧ x.2 = (32, 2) by rw [hx]; exact ⟨by simp only []; omega, rfl⟩)
  have HE := Go.Lib.hid (show pointE (upN uf) false c = [x] by rw [hx, pointE_one (pairN_hi (by omega))]; unfold oneE; rw [if_neg (by simp [silent]; omega), if_neg (by simp [hd]), if_neg (by omega), if_neg (by omega), if_pos (by omega)]; rfl)
  clear hx
  unfold opV at *
  go_enter Try.func38, Try.ntmps38
  go_wp2_with fail
  generalize w.alloc (.cells #[.int .i64 st, .bool nu, .bool false, .bool uf] 34) = W at *
  have z0 := o1.c0
  have z1 := o1.c1
  have z2 := o1.c2
  have z3 := o1.c3
  go_wp2_with (first
    | (go_at_call 36; (with_reducible refine (rdigit_any c _ (by omega)).mono ?_); rintro e W ⟨rfl, rfl⟩)
    | (go_at_call 54; (with_reducible refine (rletter_is c _ (by omega)).mono ?_); rintro e W ⟨rfl, rfl⟩)
    | (go_at_call 53; (with_reducible refine (rbase_el _ x hxx.out _).mono ?_); rintro e w2 ⟨rfl, k2⟩; unfold elV))
  have HR := Go.Lib.hid (REls.one w2 x w.heap.size (Nat.le_trans hB.size k2.size))
  have HB := Go.Lib.hid (show Below w.heap.size w (w2.alloc (.cells #[.int .i64 (x.1 : Nat), .int .i64 (x.2.1 : Nat), .int .i64 (x.2.2 : Nat)] 38)) from (hB.trans (k2.mono hB.size)).alloc (Nat.le_trans hB.size k2.size) _)
  go_ret
  exact ⟨_, rfl, by rw [HE.out]; exact HR.out, HB.out⟩
set_option maxRecDepth 100000 in
set_option maxHeartbeats 8000000 in
theorem rp_g3t {c : Nat} (st : Int) (nu uf : Bool) (w : World) (h1 : 91 ≤ c) (h2 : c ≤ 96) : Calls Try.prog 38 #[.int .i64 (c : Nat), opV st nu true uf] w (RElR (pointE (upN uf) true c) w) := by
  have o1 := ObjAt.new w #[.int .i64 st, .bool nu, .bool true, .bool uf] 34
  have hB : Below w.heap.size w (w.alloc (.cells #[.int .i64 st, .bool nu, .bool true, .bool uf] 34)) := (Below.refl _ w).alloc (Nat.le_refl _) _
  have j0 : ¬ (c : Int) < 32 := by omega
  have j1 : ¬ (127 : Int) ≤ c := by omega
  have j2 : (c : Int) ≤ 159 := by omega
  have j3 : ¬ (c : Int) = 173 := by omega
  have j4 : (c : Int) < 127 := by omega
  have j5 : ¬ (768 : Int) ≤ c := by omega
  have j6 : (c : Int) ≤ 879 := by omega
  have j7 : ¬ (c : Int) = 198 := by omega
  have j8 : ¬ (c : Int) = 230 := by omega
  have j9 : ¬ (c : Int) = 223 := by omega
  have hd : dig c = false := by simp [dig]; omega
  have hl : ltt c = false := by simp [ltt]; omega
  have HE := Go.Lib.hid (show pointE (upN uf) true c = [] by rw [pointE_one (pairN_hi (by omega))]; unfold oneE; rw [if_neg (by simp [silent]; omega), if_neg (by simp [hd]), if_neg (by omega), if_neg (by omega), if_pos (by omega)]; rfl)
  unfold opV at *
  go_enter Try.func38, Try.ntmps38
  go_wp2_with fail
  generalize w.alloc (.cells #[.int .i64 st, .bool nu, .bool true, .bool uf] 34) = W at *
  have z0 := o1.c0
  have z1 := o1.c1
  have z2 := o1.c2
  have z3 := o1.c3
  go_wp2_with (first
    | (go_at_call 36; (with_reducible refine (rdigit_any c _ (by omega)).mono ?_); rintro e W ⟨rfl, rfl⟩)
    | (go_at_call 54; (with_reducible refine (rletter_is c _ (by omega)).mono ?_); rintro e W ⟨rfl, rfl⟩))
  go_ret
  exact ⟨_, rfl, by rw [HE.out]; exact REls.nil0 _ _, hB⟩
set_option maxRecDepth 100000 in
set_option maxHeartbeats 8000000 in
theorem rp_g3f {c : Nat} (st : Int) (nu uf : Bool) (w : World) (h1 : 91 ≤ c) (h2 : c ≤ 96) : Calls Try.prog 38 #[.int .i64 (c : Nat), opV st nu false uf] w (RElR (pointE (upN uf) false c) w) := by
  have o1 := ObjAt.new w #[.int .i64 st, .bool nu, .bool false, .bool uf] 34
  have hB : Below w.heap.size w (w.alloc (.cells #[.int .i64 st, .bool nu, .bool false, .bool uf] 34)) := (Below.refl _ w).alloc (Nat.le_refl _) _
  have j0 : ¬ (c : Int) < 32 := by omega
  have j1 : ¬ (127 : Int) ≤ c := by omega
  have j2 : (c : Int) ≤ 159 := by omega
  have j3 : ¬ (c : Int) = 173 := by omega
  have j4 : (c : Int) < 127 := by omega
  have j5 : ¬ (768 : Int) ≤ c := by omega
  have j6 : (c : Int) ≤ 879 := by omega
  have j7 : ¬ (c : Int) = 198 := by omega
  have j8 : ¬ (c : Int) = 230 := by omega
  have j9 : ¬ (c : Int) = 223 := by omega
  have hd : dig c = false := by simp [dig]; omega
  have hl : ltt c = false := by simp [ltt]; omega
  obtain ⟨x, hx⟩ : ∃ x : El, x = (256 + c, 32, 2) := ⟨_, rfl⟩
  have hxx := Go.Lib.hid (show (x.1 : Int) = 256 + (c : Nat) ∧ x.2 = (32, 2) by rw [hx]; exact ⟨by simp only []; omega, rfl⟩)
  have HE := Go.Lib.hid (show pointE (upN uf) false c = [x] by rw [hx, pointE_one (pairN_hi (by omega))]; unfold oneE; rw [if_neg (by simp [silent]; omega), if_neg (by simp [hd]), if_neg (by omega), if_neg (by omega), if_pos (by omega)]; rfl)
  clear hx
  unfold opV at *
  go_enter Try.func38, Try.ntmps38
  go_wp2_with fail
  generalize w.alloc (.cells #[.int .i64 st, .bool nu, .bool false, .bool uf] 34) = W at *
  have z0 := o1.c0
  have z1 := o1.c1
  have z2 := o1.c2
  have z3 := o1.c3
  go_wp2_with (first
    | (go_at_call 36; (with_reducible refine (rdigit_any c _ (by omega)).mono ?_); rintro e W ⟨rfl, rfl⟩)
    | (go_at_call 54; (with_reducible refine (rletter_is c _ (by omega)).mono ?_); rintro e W ⟨rfl, rfl⟩)
    | (go_at_call 53; (with_reducible refine (rbase_el _ x hxx.out _).mono ?_); rintro e w2 ⟨rfl, k2⟩; unfold elV))
  have HR := Go.Lib.hid (REls.one w2 x w.heap.size (Nat.le_trans hB.size k2.size))
  have HB := Go.Lib.hid (show Below w.heap.size w (w2.alloc (.cells #[.int .i64 (x.1 : Nat), .int .i64 (x.2.1 : Nat), .int .i64 (x.2.2 : Nat)] 38)) from (hB.trans (k2.mono hB.size)).alloc (Nat.le_trans hB.size k2.size) _)
  go_ret
  exact ⟨_, rfl, by rw [HE.out]; exact HR.out, HB.out⟩
set_option maxRecDepth 100000 in
set_option maxHeartbeats 8000000 in
theorem rp_g4t {c : Nat} (st : Int) (nu uf : Bool) (w : World) (h1 : 123 ≤ c) (h2 : c ≤ 126) : Calls Try.prog 38 #[.int .i64 (c : Nat), opV st nu true uf] w (RElR (pointE (upN uf) true c) w) := by
  have o1 := ObjAt.new w #[.int .i64 st, .bool nu, .bool true, .bool uf] 34
  have hB : Below w.heap.size w (w.alloc (.cells #[.int .i64 st, .bool nu, .bool true, .bool uf] 34)) := (Below.refl _ w).alloc (Nat.le_refl _) _
  have j0 : ¬ (c : Int) < 32 := by omega
  have j1 : ¬ (127 : Int) ≤ c := by omega
  have j2 : (c : Int) ≤ 159 := by omega
  have j3 : ¬ (c : Int) = 173 := by omega
  have j4 : (c : Int) < 127 := by omega
  have j5 : ¬ (768 : Int) ≤ c := by omega
  have j6 : (c : Int) ≤ 879 := by omega
  have j7 : ¬ (c : Int) = 198 := by omega
  have j8 : ¬ (c : Int) = 230 := by omega
  have j9 : ¬ (c : Int) = 223 := by omega
  have hd : dig c = false := by simp [dig]; omega
  have hl : ltt c = false := by simp [ltt]; omega
  have HE := Go.Lib.hid (show pointE (upN uf) true c = [] by rw [pointE_one (pairN_hi (by omega))]; unfold oneE; rw [if_neg (by simp [silent]; omega), if_neg (by simp [hd]), if_neg (by omega), if_neg (by omega), if_pos (by omega)]; rfl)
  unfold opV at *
  go_enter Try.func38, Try.ntmps38
  go_wp2_with fail
  generalize w.alloc (.cells #[.int .i64 st, .bool nu, .bool true, .bool uf] 34) = W at *
  have z0 := o1.c0
  have z1 := o1.c1
  have z2 := o1.c2
  have z3 := o1.c3
  go_wp2_with (first
    | (go_at_call 36; (with_reducible refine (rdigit_any c _ (by omega)).mono ?_); rintro e W ⟨rfl, rfl⟩)
    | (go_at_call 54; (with_reducible refine (rletter_is c _ (by omega)).mono ?_); rintro e W ⟨rfl, rfl⟩))
  go_ret
  exact ⟨_, rfl, by rw [HE.out]; exact REls.nil0 _ _, hB⟩
set_option maxRecDepth 100000 in
set_option maxHeartbeats 8000000 in
theorem rp_g4f {c : Nat} (st : Int) (nu uf : Bool) (w : World) (h1 : 123 ≤ c) (h2 : c ≤ 126) : Calls Try.prog 38 #[.int .i64 (c : Nat), opV st nu false uf] w (RElR (pointE (upN uf) false c) w) := by
  have o1 := ObjAt.new w #[.int .i64 st, .bool nu, .bool false, .bool uf] 34
  have hB : Below w.heap.size w (w.alloc (.cells #[.int .i64 st, .bool nu, .bool false, .bool uf] 34)) := (Below.refl _ w).alloc (Nat.le_refl _) _
  have j0 : ¬ (c : Int) < 32 := by omega
  have j1 : ¬ (127 : Int) ≤ c := by omega
  have j2 : (c : Int) ≤ 159 := by omega
  have j3 : ¬ (c : Int) = 173 := by omega
  have j4 : (c : Int) < 127 := by omega
  have j5 : ¬ (768 : Int) ≤ c := by omega
  have j6 : (c : Int) ≤ 879 := by omega
  have j7 : ¬ (c : Int) = 198 := by omega
  have j8 : ¬ (c : Int) = 230 := by omega
  have j9 : ¬ (c : Int) = 223 := by omega
  have hd : dig c = false := by simp [dig]; omega
  have hl : ltt c = false := by simp [ltt]; omega
  obtain ⟨x, hx⟩ : ∃ x : El, x = (256 + c, 32, 2) := ⟨_, rfl⟩
  have hxx := Go.Lib.hid (show (x.1 : Int) = 256 + (c : Nat) ∧ x.2 = (32, 2) by rw [hx]; exact ⟨by simp only []; omega, rfl⟩)
  have HE := Go.Lib.hid (show pointE (upN uf) false c = [x] by rw [hx, pointE_one (pairN_hi (by omega))]; unfold oneE; rw [if_neg (by simp [silent]; omega), if_neg (by simp [hd]), if_neg (by omega), if_neg (by omega), if_pos (by omega)]; rfl)
  clear hx
  unfold opV at *
  go_enter Try.func38, Try.ntmps38
  go_wp2_with fail
  generalize w.alloc (.cells #[.int .i64 st, .bool nu, .bool false, .bool uf] 34) = W at *
  have z0 := o1.c0
  have z1 := o1.c1
  have z2 := o1.c2
  have z3 := o1.c3
  go_wp2_with (first
    | (go_at_call 36; (with_reducible refine (rdigit_any c _ (by omega)).mono ?_); rintro e W ⟨rfl, rfl⟩)
    | (go_at_call 54; (with_reducible refine (rletter_is c _ (by omega)).mono ?_); rintro e W ⟨rfl, rfl⟩)
    | (go_at_call 53; (with_reducible refine (rbase_el _ x hxx.out _).mono ?_); rintro e w2 ⟨rfl, k2⟩; unfold elV))
  have HR := Go.Lib.hid (REls.one w2 x w.heap.size (Nat.le_trans hB.size k2.size))
  have HB := Go.Lib.hid (show Below w.heap.size w (w2.alloc (.cells #[.int .i64 (x.1 : Nat), .int .i64 (x.2.1 : Nat), .int .i64 (x.2.2 : Nat)] 38)) from (hB.trans (k2.mono hB.size)).alloc (Nat.le_trans hB.size k2.size) _)
  go_ret
  exact ⟨_, rfl, by rw [HE.out]; exact HR.out, HB.out⟩
set_option maxRecDepth 100000 in
set_option maxHeartbeats 8000000 in
theorem rp_m {c : Nat} (st : Int) (nu ig uf : Bool) (w : World) (h1 : 768 ≤ c) (h2 : c ≤ 879) : Calls Try.prog 38 #[.int .i64 (c : Nat), opV st nu ig uf] w (RElR (pointE (upN uf) ig c) w) := by
  have o1 := ObjAt.new w #[.int .i64 st, .bool nu, .bool ig, .bool uf] 34
  have hB : Below w.heap.size w (w.alloc (.cells #[.int .i64 st, .bool nu, .bool ig, .bool uf] 34)) := (Below.refl _ w).alloc (Nat.le_refl _) _
  have j0 : ¬ (c : Int) < 32 := by omega
  have j1 : (127 : Int) ≤ c := by omega
  have j2 : ¬ (c : Int) ≤ 159 := by omega
  have j3 : ¬ (c : Int) = 173 := by omega
  have j4 : ¬ (c : Int) < 127 := by omega
  have j5 : (768 : Int) ≤ c := by omega
  have j6 : (c : Int) ≤ 879 := by omega
  have j7 : ¬ (c : Int) = 198 := by omega
  have j8 : ¬ (c : Int) = 230 := by omega
  have j9 : ¬ (c : Int) = 223 := by omega
  have hd : dig c = false := by simp [dig]; omega
  have hl : ltt c = false := by simp [ltt]; omega
  have cM := fun w' => rmark_any c w' h1 (by omega)
  obtain ⟨x, hx⟩ : ∃ x : El, x = mkE c := ⟨_, rfl⟩
  rw [← hx] at cM
  have HE := Go.Lib.hid (show pointE (upN uf) ig c = [x] by rw [hx, pointE_one (pairN_hi (by omega)), oneE_mark _ _ h1 h2])
  clear hx
  unfold opV at *
  go_enter Try.func38, Try.ntmps38
  go_wp2_with fail
  generalize w.alloc (.cells #[.int .i64 st, .bool nu, .bool ig, .bool uf] 34) = W at *
  have z0 := o1.c0
  have z1 := o1.c1
  have z2 := o1.c2
  have z3 := o1.c3
  go_wp2_with (first
    | (go_at_call 36; (with_reducible refine (rdigit_any c _ (by omega)).mono ?_); rintro e W ⟨rfl, rfl⟩)
    | (go_at_call 54; (with_reducible refine (rletter_is c _ (by omega)).mono ?_); rintro e W ⟨rfl, rfl⟩)
    | (go_at_call 56; (with_reducible refine (cM _).mono ?_); rintro e w2 ⟨rfl, k2⟩; unfold elV))
  have HR := Go.Lib.hid (REls.one w2 x w.heap.size (Nat.le_trans hB.size k2.size))
  have HB := Go.Lib.hid (show Below w.heap.size w (w2.alloc (.cells #[.int .i64 (x.1 : Nat), .int .i64 (x.2.1 : Nat), .int .i64 (x.2.2 : Nat)] 38)) from (hB.trans (k2.mono hB.size)).alloc (Nat.le_trans hB.size k2.size) _)
  go_ret
  exact ⟨_, rfl, by rw [HE.out]; exact HR.out, HB.out⟩
end Go.Proofs.Ytknbglcmjggkjaa
