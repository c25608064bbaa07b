/- Layer 6: the reference's Key (22). -/
import Derived.Test.YtknbglcmjggkjaaKC
import Derived.Deep.RegionHeld3
namespace Go.Proofs.Ytknbglcmjggkjaa
open Go.RowKit Go.Shelf Go.Lib Co

theorem row_at {W : World} {g m d : Nat} {Q : List Nat} {B : Nat} (h : W.ownsRow B 3 1 (.slice (some ⟨g, 0, none⟩) m d) m (Cp.ints Q)) (hQ : Q.length = m) {j : Nat} (hj : j < Q.length) : W.cell? ⟨g, j, none⟩ = some (.int .i64 ((Q[j] : Nat) : Int)) := by
  rw [h.cellAt j (by omega)]
  simp [Cp.ints, hj]
theorem GrowR.cell {w a : World} {R : Option Nat} (h : GrowR w a R) {g j : Nat} (hg : g < w.heap.size) (hne : some g ≠ R) : a.cell? ⟨g, j, none⟩ = w.cell? ⟨g, j, none⟩ := World.cell?_of_block (w := w) (h.block g hg hne)
theorem encs_all (n : Nat) (P : List Nat) : encs n (P ++ [0]) = encL n P := by rw [encs_snoc]; rfl
theorem wOf_lt {L : Nat} {ex : List El} (h : ∀ e ∈ ex, ElOk e) : ∀ q ∈ lev (fun e => wOf L e) ex ++ [0], q < 16777216 := by
  intro q hq
  rcases List.mem_append.1 hq with hq | hq
  · refine lev_lt (b := 16777216) (fun e he => ?_) q hq
    obtain ⟨a1, a2, a3⟩ := h e he
    unfold wOf
    split <;> omega
  · rw [List.mem_singleton.1 hq]; decide
theorem keyN_step (k : Nat) (h : k < 3) (s : List UInt8) (l : List El) : keyN (k + 1) s l = keyN k s l ++ encs (3 - k) (lev (fun e => wOf (k + 1) e) l ++ [0]) := by
  rw [encs_all]
  rcases (show k = 0 ∨ k = 1 ∨ k = 2 by omega) with rfl | rfl | rfl <;> simp [keyN, lvs, wOf]
theorem IntsOwn.row {P : List Nat} {w w' : World} {e : Ending} (h : IntsOwn P w e w') : ∃ A m d, e = .returned (.slice A m d) ∧ w'.ownsRow w.heap.size 3 1 (.slice A m d) P.length (Cp.ints P) ∧ P.length = m ∧ Below w.heap.size w w' := by
  obtain ⟨v, rfl, hv, hb⟩ := h
  rcases hv.2 with ⟨h1, h2⟩ | ⟨g, cap, cur, h1, _⟩
  · subst h1
    exact ⟨_, _, _, rfl, hv, h2, hb⟩
  · subst h1
    exact ⟨_, _, _, rfl, hv, rfl, hb⟩
set_option maxRecDepth 100000 in
set_option maxHeartbeats 80000000 in
theorem rkey_any {x : Sx} {st : Int} (nu ig uf : Bool) (hx : x.bad = []) (h1 : 1 ≤ st) (h4 : st ≤ 4) (sx : x.s.size ≤ 4096) (w : World) :
    Calls Try.prog 22 #[.string x.s, opV st nu ig uf] w fun e w' => e = .returned (.string (bs (keyX st nu ig uf x))) ∧ Below w.heap.size w w' := by
  obtain ⟨i0, hi, hz0, hz1, hz2⟩ := info_parts byInfo
  obtain ⟨j0, hj, hy0, hy1, hy2⟩ := info_parts Cp.intInfo
  have hsx := x.str
  rw [hx] at hsx
  have cX := fun w' => relements_any hsx sx st nu ig uf w'
  have hlx : (elems nu (upN uf) ig x.P).length ≤ 10000 := by have := elems_len nu ig (upN uf) x.P; have := pts_len x.str; omega
  have hkx := elems_ok' x sx nu ig uf
  obtain ⟨n, rfl⟩ : ∃ n : Nat, st = (n : Nat) := ⟨st.toNat, by omega⟩
  have hn4 : n ≤ 4 := by omega
  have hn1 : 1 ≤ n := by omega
  obtain ⟨mm, hmm⟩ : ∃ mm : Nat, min (n : Int) 3 = (mm : Nat) := ⟨min n 3, by omega⟩
  have hmm3 : mm ≤ 3 := by omega
  have hmm1 : 1 ≤ mm := by omega
  have HM := Go.Lib.hid (show mm = n ∨ (n = 4 ∧ mm = 3) by omega)
  have HKX := Go.Lib.hid (show keyX (n : Nat) nu ig uf x = keyN n x.s.data.toList (elems nu (upN uf) ig x.P) by rw [keyN_B hn1 hn4]; rfl)
  clear h1 h4
  have hkl := keyN_len
  generalize hex : elems nu (upN uf) ig x.P = ex at *
  have KX := Go.Lib.hid hkx
  have hsl : x.s.data.toList.length = x.s.size := Array.length_toList
  have HKL := Go.Lib.hid (fun k => show (keyN k x.s.data.toList ex).length ≤ 70000 by have := hkl k x.s.data.toList ex; omega)
  have o1 := ObjAt.new w #[.int .i64 (n : Nat), .bool nu, .bool ig, .bool uf] 34
  have hB : Below w.heap.size w (w.alloc (.cells #[.int .i64 (n : Nat), .bool nu, .bool ig, .bool uf] 34)) := (Below.refl _ w).alloc (Nat.le_refl _) _
  unfold opV at *
  have CX := Go.Lib.hid cX
  clear cX hkx hex hsx hkl hsl
  have z0 := o1.c0
  have z1 := o1.c1
  have z2 := o1.c2
  have z3 := o1.c3
  go_enter Try.func22, Try.ntmps22
  go_wp2_with fail
  generalize w.alloc (.cells #[.int .i64 (n : Nat), .bool nu, .bool ig, .bool uf] 34) = W at *
  refine (CX.out W).mono ?_
  intro e w4 h5
  obtain ⟨Ax, mx, dx, rfl, ix, lx, k4⟩ := h5.form
  have o4 := o1.below k4
  have hb4 : Below w.heap.size w w4 := hB.trans (k4.mono hB.size)
  have hmx : mx ≤ 10000 := by omega
  have IX := Go.Lib.hid ix
  have LX := Go.Lib.hid lx
  clear ix lx k4 o1 hB z0 z1 z2 z3
  go_wp2_with fail
  go_loopw [6, 7] (fun ov lv wr => ∃ L : Nat, 1 ≤ L ∧ L ≤ mm + 1 ∧ lv = .int .i64 (L : Nat) ∧ Byt w4.heap.size wr ov (keyN (L - 1) x.s.data.toList ex) ∧ Below w4.heap.size w4 wr) (fun _ lv _ => 4 - (RowKit.intOf lv).toNat)
  case atStart => exact ⟨1, by omega, by omega, rfl, World.ownsRow_nil _ _ _ _, Below.refl _ _⟩
  case round =>
    obtain ⟨L, hL1, hL2, rfl, hvK0, hbk⟩ := hrel
    have hsk := hbk.size
    have o5 := o4.below hbk
    have y0 := o5.c0
    by_cases hle : L ≤ mm
    · have hK0l := HKL.out (L - 1)
      obtain ⟨K0, hK0⟩ : ∃ K0, K0 = keyN (L - 1) x.s.data.toList ex := ⟨_, rfl⟩
      rw [← hK0] at hvK0 hK0l
      obtain ⟨AK, mK, dK, hsl⟩ := own_slice (show World.ownsRow _ _ _ _ _ _ _ from hvK0)
      subst hsl
      have hvK1 := Go.Lib.hid hvK0
      rcases (show L = 1 ∨ L = 2 ∨ L = 3 by omega) with rfl | rfl | rfl
      · have HK0 := Go.Lib.hid (show K0 = keyN 0 x.s.data.toList ex from hK0)
        have q1 : (1 : Int) ≤ (mm : Int) := by omega
        clear hK0
        have cW := rweights_any 1 (by omega) (by omega) wr (IX.out.below hbk) LX.out (by omega) KX.out
        have CW := Go.Lib.hid cW
        clear cW
        have HST := Go.Lib.hid (keyN_step 0 (by omega) x.s.data.toList ex)
        have hlw := lev_len (fun e => wOf 1 e) ex
        have hwl := Go.Lib.hid (wOf_lt (L := 1) KX.out)
        go_wp2_with fail
        refine CW.out.mono ?_
        intro e w6 h6
        obtain ⟨AW, mW, dW, rfl, rW, lW, k6⟩ := h6.row
        generalize lev (fun e => wOf 1 e) ex = P at *
        have hs6 := k6.size
        have hlw' : P.length ≤ 10000 := by omega
        go_wp2_with (at_builtin; go_loud (refine wpList_append_own _ rfl _ _ 51 rfl wr.heap.size 3 j0 (.int .i64 0) 1 8 Try.underlying51 hj hy0 hy1 hy2 rfl (by decide) _ _ _ rfl (rW.alloc _) ⟨w6.heap.size, 0, none⟩ 1 1 [.int .i64 0] rfl rfl (cell_one_new _ _ _) (by intro u hu; simp at hu; subst hu; rfl) (by unfold maxLen; omega) (by omega) (by simp; omega) ?_; intro vQ w7 hownQ hgrowQ _; obtain ⟨gW, cQ, rfl, hgB, hgW⟩ := hownQ.form (by omega)))
        have rQ : w7.ownsRow wr.heap.size 3 1 (.slice (some ⟨gW, 0, none⟩) (P.length + 1) cQ) (P.length + 1) (Cp.ints (P ++ [0])) := by rw [Cp.ints_snoc]; exact hownQ
        have k7 : Below wr.heap.size wr w7 := (k6.alloc hs6 _).grown hgrowQ (by simp; omega) (fun j e => (rW.lt j e).1)
        have hv7 := Byt.below hvK0 k7
        have hne7 : some gW ≠ (Value.slice AK mK dK).ownBlock := fun e => by
          have := (World.ownsRow.lt (show World.ownsRow _ _ _ _ _ _ _ from hvK0) gW e.symm).2
          omega
        have hb7 := hbk.trans (k7.mono hsk)
        have hs7 : w4.heap.size ≤ w7.heap.size := hb7.size
        have HQL := Go.Lib.hid (show (P ++ [0]).length = P.length + 1 by simp)
        clear hownQ hgrowQ rW k6 hvK0
        go_wp2_with fail
        go_loopw [6, 9] (fun kv iv wi => ∃ (i : Nat) (K : List UInt8), i ≤ P.length + 1 ∧ iv = .int .i64 (i : Nat) ∧ Byt w4.heap.size wi kv K ∧ K.length = K0.length + 3 * i ∧ Hid (K = K0 ++ encs 3 ((P ++ [0]).take i)) ∧ GrowR w7 wi (Value.slice AK mK dK).ownBlock ∧ OldNew w7 (Value.slice AK mK dK).ownBlock kv) (fun _ iv _ => P.length + 1 - (RowKit.intOf iv).toNat)
        case atStart => exact ⟨0, K0, Nat.zero_le _, rfl, hv7, rfl, Go.Lib.hid (by simp [encs]), GrowR.refl _ _, .inl rfl⟩
        case round =>
          clear hv7
          obtain ⟨i, K, hi', rfl, hvK, hKl, HK, hgK, hoK⟩ := hrel
          have hsK := hgK.size
          by_cases hlt : i < P.length + 1
          · have hiQ : i < (P ++ [0]).length := by rw [HQL.out]; exact hlt
            have hq := row_at rQ HQL.out hiQ
            have hqb := hwl.out (P ++ [0])[i] (List.getElem_mem hiQ)
            have c0 := (hgK.cell (j := i) hgW hne7).trans hq
            have hneW := hne7
            have HT := Go.Lib.hid (show (P ++ [0]).take (i + 1) = (P ++ [0]).take i ++ [(P ++ [0])[i]] from List.take_succ_eq_append_getElem hiQ)
            generalize (P ++ [0])[i] = q at *
            have j1 : (i : Int) < (P.length : Int) + 1 := by omega
            have j2 : (0 : Int) ≤ (i : Int) := by omega
            have p1 : (q : Int) / 65536 < 256 := by omega
            have p2 : (0 : Int) ≤ (q : Int) := by omega
            go_wp2_with (first
              | (at_builtin; go_loud (refine wpList_append_own_at _ rfl _ _ 65 rfl w4.heap.size 5 i0 _ 1 1 Try.underlying65 hi hz0 hz1 hz2 rfl (by decide) _ _ _ rfl (World.ownsRow.alloc hv2 _) ⟨wa2.heap.size, 0, none⟩ 1 1 [.int .u8 _] rfl rfl (cell_one_new _ _ _) (by intro u hu; simp at hu; subst hu; rfl) (by unfold maxLen; simp only [List.length_append, List.length_singleton] at *; omega) (by simp only [List.length_append, List.length_singleton] at *; omega) (by simp; omega) ?_; intro va3 wa3 hown3 hgr3 _ hat3; have hv3 := Byt.snoc (u := UInt8.ofNat (q / 256 ^ 0)) hown3 (by rw [UInt8.toNat_ofNat']; omega); have hg3 := hg2.step ho2 hgr3; have ho3 := ho2.step hg2.size hat3; have hs3 := Nat.le_trans hs7 hg3.size; have c3 := (hg3.cell (j := i) hgW hneW).trans hq; clear hown3 hgr3 hat3))
              | (at_builtin; go_loud (refine wpList_append_own_at _ rfl _ _ 65 rfl w4.heap.size 5 i0 _ 1 1 Try.underlying65 hi hz0 hz1 hz2 rfl (by decide) _ _ _ rfl (World.ownsRow.alloc hv1 _) ⟨wa1.heap.size, 0, none⟩ 1 1 [.int .u8 _] rfl rfl (cell_one_new _ _ _) (by intro u hu; simp at hu; subst hu; rfl) (by unfold maxLen; simp only [List.length_append, List.length_singleton] at *; omega) (by simp only [List.length_append, List.length_singleton] at *; omega) (by simp; omega) ?_; intro va2 wa2 hown2 hgr2 _ hat2; have hv2 := Byt.snoc (u := UInt8.ofNat (q / 256 ^ 1)) hown2 (by rw [UInt8.toNat_ofNat']; omega); have hg2 := hg1.step ho1 hgr2; have ho2 := ho1.step hg1.size hat2; have hs2 := Nat.le_trans hs7 hg2.size; have c2 := (hg2.cell (j := i) hgW hneW).trans hq; clear hown2 hgr2 hat2))
              | (at_builtin; go_loud (refine wpList_append_own_at _ rfl _ _ 65 rfl w4.heap.size 5 i0 _ 1 1 Try.underlying65 hi hz0 hz1 hz2 rfl (by decide) _ _ _ rfl (World.ownsRow.alloc hvK _) ⟨wr.heap.size, 0, none⟩ 1 1 [.int .u8 _] rfl rfl (cell_one_new _ _ _) (by intro u hu; simp at hu; subst hu; rfl) (by unfold maxLen; simp only [List.length_append, List.length_singleton] at *; omega) (by simp only [List.length_append, List.length_singleton] at *; omega) (by simp; omega) ?_; intro va1 wa1 hown1 hgr1 _ hat1; have hv1 := Byt.snoc (u := UInt8.ofNat (q / 256 ^ 2)) hown1 (by rw [UInt8.toNat_ofNat']; omega); have hg1 := hgK.step hoK hgr1; have ho1 := hoK.step hgK.size hat1; have hs1 := Nat.le_trans hs7 hg1.size; have c1 := (hg1.cell (j := i) hgW hneW).trans hq; clear hown1 hgr1 hat1)))
            have HV := Go.Lib.hid hv3
            have HG := Go.Lib.hid (And.intro hg3 ho3)
            have HKN := Go.Lib.hid (show ((K ++ [UInt8.ofNat (q / 256 ^ 2)]) ++ [UInt8.ofNat (q / 256 ^ 1)]) ++ [UInt8.ofNat (q / 256 ^ 0)] = K0 ++ encs 3 ((P ++ [0]).take (i + 1)) by rw [HT.out, encs_snoc, HK.out]; simp [encW])
            clear hv1 hg1 ho1 hs1 c1 hv2 hg2 ho2 hs2 c2 hv3 hg3 ho3 hs3 c3 hvK hgK hoK c0
            go_wp2
            go_roundw
            case rel => exact ⟨i + 1, _, by omega, by go_num, HV.out, by simp only [List.length_append, List.length_singleton]; omega, HKN, HG.out.1, HG.out.2⟩
            case measure => simp [RowKit.intOf]; omega
          · obtain rfl : i = P.length + 1 := by omega
            have j1 : ¬ (P.length : Int) + 1 < (P.length : Int) + 1 := by omega
            have HE := Go.Lib.hid (show K = keyN 1 x.s.data.toList ex by rw [HST.out, HK.out, ← HK0.out, List.take_of_length_le (by rw [HQL.out]; omega)])
            rw [HE.out] at hvK
            have HV := Go.Lib.hid hvK
            have hbi : Below w4.heap.size w4 wr := hb7.trans (grow_below hs7 (Byt.below hvK1.out k7) hgK)
            clear hvK hgK hoK
            go_wp2
            go_roundw
            case rel => exact ⟨2, by omega, by omega, by go_num, HV.out, hbi⟩
            case measure => simp [RowKit.intOf]
      · have HK0 := Go.Lib.hid (show K0 = keyN 1 x.s.data.toList ex from hK0)
        have q1 : (2 : Int) ≤ (mm : Int) := by omega
        clear hK0
        have cW := rweights_any 2 (by omega) (by omega) wr (IX.out.below hbk) LX.out (by omega) KX.out
        have CW := Go.Lib.hid cW
        clear cW
        have HST := Go.Lib.hid (keyN_step 1 (by omega) x.s.data.toList ex)
        have hlw := lev_len (fun e => wOf 2 e) ex
        have hwl := Go.Lib.hid (wOf_lt (L := 2) KX.out)
        go_wp2_with fail
        refine CW.out.mono ?_
        intro e w6 h6
        obtain ⟨AW, mW, dW, rfl, rW, lW, k6⟩ := h6.row
        generalize lev (fun e => wOf 2 e) ex = P at *
        have hs6 := k6.size
        have hlw' : P.length ≤ 10000 := by omega
        go_wp2_with (at_builtin; go_loud (refine wpList_append_own _ rfl _ _ 51 rfl wr.heap.size 3 j0 (.int .i64 0) 1 8 Try.underlying51 hj hy0 hy1 hy2 rfl (by decide) _ _ _ rfl (rW.alloc _) ⟨w6.heap.size, 0, none⟩ 1 1 [.int .i64 0] rfl rfl (cell_one_new _ _ _) (by intro u hu; simp at hu; subst hu; rfl) (by unfold maxLen; omega) (by omega) (by simp; omega) ?_; intro vQ w7 hownQ hgrowQ _; obtain ⟨gW, cQ, rfl, hgB, hgW⟩ := hownQ.form (by omega)))
        have rQ : w7.ownsRow wr.heap.size 3 1 (.slice (some ⟨gW, 0, none⟩) (P.length + 1) cQ) (P.length + 1) (Cp.ints (P ++ [0])) := by rw [Cp.ints_snoc]; exact hownQ
        have k7 : Below wr.heap.size wr w7 := (k6.alloc hs6 _).grown hgrowQ (by simp; omega) (fun j e => (rW.lt j e).1)
        have hv7 := Byt.below hvK0 k7
        have hne7 : some gW ≠ (Value.slice AK mK dK).ownBlock := fun e => by
          have := (World.ownsRow.lt (show World.ownsRow _ _ _ _ _ _ _ from hvK0) gW e.symm).2
          omega
        have hb7 := hbk.trans (k7.mono hsk)
        have hs7 : w4.heap.size ≤ w7.heap.size := hb7.size
        have HQL := Go.Lib.hid (show (P ++ [0]).length = P.length + 1 by simp)
        clear hownQ hgrowQ rW k6 hvK0
        go_wp2_with fail
        go_loopw [6, 9] (fun kv iv wi => ∃ (i : Nat) (K : List UInt8), i ≤ P.length + 1 ∧ iv = .int .i64 (i : Nat) ∧ Byt w4.heap.size wi kv K ∧ K.length = K0.length + 2 * i ∧ Hid (K = K0 ++ encs 2 ((P ++ [0]).take i)) ∧ GrowR w7 wi (Value.slice AK mK dK).ownBlock ∧ OldNew w7 (Value.slice AK mK dK).ownBlock kv) (fun _ iv _ => P.length + 1 - (RowKit.intOf iv).toNat)
        case atStart => exact ⟨0, K0, Nat.zero_le _, rfl, hv7, rfl, Go.Lib.hid (by simp [encs]), GrowR.refl _ _, .inl rfl⟩
        case round =>
          clear hv7
          obtain ⟨i, K, hi', rfl, hvK, hKl, HK, hgK, hoK⟩ := hrel
          have hsK := hgK.size
          by_cases hlt : i < P.length + 1
          · have hiQ : i < (P ++ [0]).length := by rw [HQL.out]; exact hlt
            have hq := row_at rQ HQL.out hiQ
            have hqb := hwl.out (P ++ [0])[i] (List.getElem_mem hiQ)
            have c0 := (hgK.cell (j := i) hgW hne7).trans hq
            have hneW := hne7
            have HT := Go.Lib.hid (show (P ++ [0]).take (i + 1) = (P ++ [0]).take i ++ [(P ++ [0])[i]] from List.take_succ_eq_append_getElem hiQ)
            generalize (P ++ [0])[i] = q at *
            have j1 : (i : Int) < (P.length : Int) + 1 := by omega
            have j2 : (0 : Int) ≤ (i : Int) := by omega
            have p1 : (q : Int) / 65536 < 256 := by omega
            have p2 : (0 : Int) ≤ (q : Int) := by omega
            go_wp2_with (first
              | (at_builtin; go_loud (refine wpList_append_own_at _ rfl _ _ 65 rfl w4.heap.size 5 i0 _ 1 1 Try.underlying65 hi hz0 hz1 hz2 rfl (by decide) _ _ _ rfl (World.ownsRow.alloc hv1 _) ⟨wa1.heap.size, 0, none⟩ 1 1 [.int .u8 _] rfl rfl (cell_one_new _ _ _) (by intro u hu; simp at hu; subst hu; rfl) (by unfold maxLen; simp only [List.length_append, List.length_singleton] at *; omega) (by simp only [List.length_append, List.length_singleton] at *; omega) (by simp; omega) ?_; intro va2 wa2 hown2 hgr2 _ hat2; have hv2 := Byt.snoc (u := UInt8.ofNat (q / 256 ^ 0)) hown2 (by rw [UInt8.toNat_ofNat']; omega); have hg2 := hg1.step ho1 hgr2; have ho2 := ho1.step hg1.size hat2; have hs2 := Nat.le_trans hs7 hg2.size; have c2 := (hg2.cell (j := i) hgW hneW).trans hq; clear hown2 hgr2 hat2))
              | (at_builtin; go_loud (refine wpList_append_own_at _ rfl _ _ 65 rfl w4.heap.size 5 i0 _ 1 1 Try.underlying65 hi hz0 hz1 hz2 rfl (by decide) _ _ _ rfl (World.ownsRow.alloc hvK _) ⟨wr.heap.size, 0, none⟩ 1 1 [.int .u8 _] rfl rfl (cell_one_new _ _ _) (by intro u hu; simp at hu; subst hu; rfl) (by unfold maxLen; simp only [List.length_append, List.length_singleton] at *; omega) (by simp only [List.length_append, List.length_singleton] at *; omega) (by simp; omega) ?_; intro va1 wa1 hown1 hgr1 _ hat1; have hv1 := Byt.snoc (u := UInt8.ofNat (q / 256 ^ 1)) hown1 (by rw [UInt8.toNat_ofNat']; omega); have hg1 := hgK.step hoK hgr1; have ho1 := hoK.step hgK.size hat1; have hs1 := Nat.le_trans hs7 hg1.size; have c1 := (hg1.cell (j := i) hgW hneW).trans hq; clear hown1 hgr1 hat1)))
            have HV := Go.Lib.hid hv2
            have HG := Go.Lib.hid (And.intro hg2 ho2)
            have HKN := Go.Lib.hid (show (K ++ [UInt8.ofNat (q / 256 ^ 1)]) ++ [UInt8.ofNat (q / 256 ^ 0)] = K0 ++ encs 2 ((P ++ [0]).take (i + 1)) by rw [HT.out, encs_snoc, HK.out]; simp [encW])
            clear hv1 hg1 ho1 hs1 c1 hv2 hg2 ho2 hs2 c2 hvK hgK hoK c0
            go_wp2
            go_roundw
            case rel => exact ⟨i + 1, _, by omega, by go_num, HV.out, by simp only [List.length_append, List.length_singleton]; omega, HKN, HG.out.1, HG.out.2⟩
            case measure => simp [RowKit.intOf]; omega
          · obtain rfl : i = P.length + 1 := by omega
            have j1 : ¬ (P.length : Int) + 1 < (P.length : Int) + 1 := by omega
            have HE := Go.Lib.hid (show K = keyN 2 x.s.data.toList ex by rw [HST.out, HK.out, ← HK0.out, List.take_of_length_le (by rw [HQL.out]; omega)])
            rw [HE.out] at hvK
            have HV := Go.Lib.hid hvK
            have hbi : Below w4.heap.size w4 wr := hb7.trans (grow_below hs7 (Byt.below hvK1.out k7) hgK)
            clear hvK hgK hoK
            go_wp2
            go_roundw
            case rel => exact ⟨3, by omega, by omega, by go_num, HV.out, hbi⟩
            case measure => simp [RowKit.intOf]
      · have HK0 := Go.Lib.hid (show K0 = keyN 2 x.s.data.toList ex from hK0)
        have q1 : (3 : Int) ≤ (mm : Int) := by omega
        clear hK0
        have cW := rweights_any 3 (by omega) (by omega) wr (IX.out.below hbk) LX.out (by omega) KX.out
        have CW := Go.Lib.hid cW
        clear cW
        have HST := Go.Lib.hid (keyN_step 2 (by omega) x.s.data.toList ex)
        have hlw := lev_len (fun e => wOf 3 e) ex
        have hwl := Go.Lib.hid (wOf_lt (L := 3) KX.out)
        go_wp2_with fail
        refine CW.out.mono ?_
        intro e w6 h6
        obtain ⟨AW, mW, dW, rfl, rW, lW, k6⟩ := h6.row
        generalize lev (fun e => wOf 3 e) ex = P at *
        have hs6 := k6.size
        have hlw' : P.length ≤ 10000 := by omega
        go_wp2_with (at_builtin; go_loud (refine wpList_append_own _ rfl _ _ 51 rfl wr.heap.size 3 j0 (.int .i64 0) 1 8 Try.underlying51 hj hy0 hy1 hy2 rfl (by decide) _ _ _ rfl (rW.alloc _) ⟨w6.heap.size, 0, none⟩ 1 1 [.int .i64 0] rfl rfl (cell_one_new _ _ _) (by intro u hu; simp at hu; subst hu; rfl) (by unfold maxLen; omega) (by omega) (by simp; omega) ?_; intro vQ w7 hownQ hgrowQ _; obtain ⟨gW, cQ, rfl, hgB, hgW⟩ := hownQ.form (by omega)))
        have rQ : w7.ownsRow wr.heap.size 3 1 (.slice (some ⟨gW, 0, none⟩) (P.length + 1) cQ) (P.length + 1) (Cp.ints (P ++ [0])) := by rw [Cp.ints_snoc]; exact hownQ
        have k7 : Below wr.heap.size wr w7 := (k6.alloc hs6 _).grown hgrowQ (by simp; omega) (fun j e => (rW.lt j e).1)
        have hv7 := Byt.below hvK0 k7
        have hne7 : some gW ≠ (Value.slice AK mK dK).ownBlock := fun e => by
          have := (World.ownsRow.lt (show World.ownsRow _ _ _ _ _ _ _ from hvK0) gW e.symm).2
          omega
        have hb7 := hbk.trans (k7.mono hsk)
        have hs7 : w4.heap.size ≤ w7.heap.size := hb7.size
        have HQL := Go.Lib.hid (show (P ++ [0]).length = P.length + 1 by simp)
        clear hownQ hgrowQ rW k6 hvK0
        go_wp2_with fail
        go_loopw [6, 9] (fun kv iv wi => ∃ (i : Nat) (K : List UInt8), i ≤ P.length + 1 ∧ iv = .int .i64 (i : Nat) ∧ Byt w4.heap.size wi kv K ∧ K.length = K0.length + 1 * i ∧ Hid (K = K0 ++ encs 1 ((P ++ [0]).take i)) ∧ GrowR w7 wi (Value.slice AK mK dK).ownBlock ∧ OldNew w7 (Value.slice AK mK dK).ownBlock kv) (fun _ iv _ => P.length + 1 - (RowKit.intOf iv).toNat)
        case atStart => exact ⟨0, K0, Nat.zero_le _, rfl, hv7, rfl, Go.Lib.hid (by simp [encs]), GrowR.refl _ _, .inl rfl⟩
        case round =>
          clear hv7
          obtain ⟨i, K, hi', rfl, hvK, hKl, HK, hgK, hoK⟩ := hrel
          have hsK := hgK.size
          by_cases hlt : i < P.length + 1
          · have hiQ : i < (P ++ [0]).length := by rw [HQL.out]; exact hlt
            have hq := row_at rQ HQL.out hiQ
            have hqb := hwl.out (P ++ [0])[i] (List.getElem_mem hiQ)
            have c0 := (hgK.cell (j := i) hgW hne7).trans hq
            have hneW := hne7
            have HT := Go.Lib.hid (show (P ++ [0]).take (i + 1) = (P ++ [0]).take i ++ [(P ++ [0])[i]] from List.take_succ_eq_append_getElem hiQ)
            generalize (P ++ [0])[i] = q at *
            have j1 : (i : Int) < (P.length : Int) + 1 := by omega
            have j2 : (0 : Int) ≤ (i : Int) := by omega
            have p1 : (q : Int) / 65536 < 256 := by omega
            have p2 : (0 : Int) ≤ (q : Int) := by omega
            go_wp2_with (first
              | (at_builtin; go_loud (refine wpList_append_own_at _ rfl _ _ 65 rfl w4.heap.size 5 i0 _ 1 1 Try.underlying65 hi hz0 hz1 hz2 rfl (by decide) _ _ _ rfl (World.ownsRow.alloc hvK _) ⟨wr.heap.size, 0, none⟩ 1 1 [.int .u8 _] rfl rfl (cell_one_new _ _ _) (by intro u hu; simp at hu; subst hu; rfl) (by unfold maxLen; simp only [List.length_append, List.length_singleton] at *; omega) (by simp only [List.length_append, List.length_singleton] at *; omega) (by simp; omega) ?_; intro va1 wa1 hown1 hgr1 _ hat1; have hv1 := Byt.snoc (u := UInt8.ofNat (q / 256 ^ 0)) hown1 (by rw [UInt8.toNat_ofNat']; omega); have hg1 := hgK.step hoK hgr1; have ho1 := hoK.step hgK.size hat1; have hs1 := Nat.le_trans hs7 hg1.size; have c1 := (hg1.cell (j := i) hgW hneW).trans hq; clear hown1 hgr1 hat1)))
            have HV := Go.Lib.hid hv1
            have HG := Go.Lib.hid (And.intro hg1 ho1)
            have HKN := Go.Lib.hid (show K ++ [UInt8.ofNat (q / 256 ^ 0)] = K0 ++ encs 1 ((P ++ [0]).take (i + 1)) by rw [HT.out, encs_snoc, HK.out]; simp [encW])
            clear hv1 hg1 ho1 hs1 c1 hvK hgK hoK c0
            go_wp2
            go_roundw
            case rel => exact ⟨i + 1, _, by omega, by go_num, HV.out, by simp only [List.length_append, List.length_singleton]; omega, HKN, HG.out.1, HG.out.2⟩
            case measure => simp [RowKit.intOf]; omega
          · obtain rfl : i = P.length + 1 := by omega
            have j1 : ¬ (P.length : Int) + 1 < (P.length : Int) + 1 := by omega
            have HE := Go.Lib.hid (show K = keyN 3 x.s.data.toList ex by rw [HST.out, HK.out, ← HK0.out, List.take_of_length_le (by rw [HQL.out]; omega)])
            rw [HE.out] at hvK
            have HV := Go.Lib.hid hvK
            have hbi : Below w4.heap.size w4 wr := hb7.trans (grow_below hs7 (Byt.below hvK1.out k7) hgK)
            clear hvK hgK hoK
            go_wp2
            go_roundw
            case rel => exact ⟨4, by omega, by omega, by go_num, HV.out, hbi⟩
            case measure => simp [RowKit.intOf]
    · have q1 : ¬ (L : Int) ≤ (mm : Int) := by omega
      have hL : L - 1 = mm := by omega
      rw [hL] at hvK0
      have hne : keyN mm x.s.data.toList ex ≠ [] := by
        intro e
        have h := congrArg List.length e
        rw [keyN_B hmm1 (by omega)] at h
        unfold keyB at h
        simp only [List.length_append, encL_len, List.length_nil] at h
        omega
      have cv := hvK0.conv hne
      have HB8 := Go.Lib.hid (hb4.trans (hbk.mono hb4.size))
      obtain ⟨AK, mK, dK, hsl⟩ := own_slice (show World.ownsRow _ _ _ _ _ _ _ from hvK0)
      subst hsl
      clear hvK0 hbk
      have hKl := HKL.out mm
      by_cases hn : n = 4
      · subst hn
        have hm3 : mm = 3 := by have := HM.out; omega
        subst hm3
        have HA := Go.Lib.hid (show bs (keyN 3 x.s.data.toList ex) ++ x.s = bs (keyX (4 : Nat) nu ig uf x) by
          rw [HKX.out, show keyN 4 x.s.data.toList ex = keyN 3 x.s.data.toList ex ++ x.s.data.toList by simp [keyN, lvs]]
          apply ByteArray.ext
          simp [bs])
        have hz1' : (bs (keyN 3 x.s.data.toList ex)).size ≤ 70000 := by rw [bs_size]; exact hKl
        generalize bs (keyN 3 x.s.data.toList ex) = S at *
        go_wp2
        go_ret
        exact ⟨congrArg (fun v => Ending.returned (Value.string v)) HA.out, HB8.out⟩
      · have hni : ¬ (n : Int) = 4 := by omega
        have hmn : mm = n := by have := HM.out; omega
        subst hmn
        go_wp2
        go_ret
        exact ⟨by rw [HKX.out]; rfl, HB8.out⟩
end Go.Proofs.Ytknbglcmjggkjaa
