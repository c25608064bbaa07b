/- Layer 4: Line (27). -/
import Derived.Test.YtonplacldckbgaaMT
namespace Go.Proofs.Ytonplacldckbgaa
open Go.RowKit Go.Shelf Go.Lib Pt

/-- The offsets between which a line stands. -/
def frL (b : List UInt8) (i : Nat) : Nat := if i = 0 then 0 else (posL b 0).getD (i - 1) 0 + 1
def toL (b : List UInt8) (i : Nat) : Nat := if i = lf b then b.length else (posL b 0).getD i 0
theorem getD_of {l : List Nat} {k a : Nat} (h : l[k]? = some a) : l.getD k 0 = a := by rw [List.getD_eq_getElem?_getD, h]; rfl
set_option maxRecDepth 100000 in
set_option maxHeartbeats 8000000 in
theorem line_bad {b : Nat} {t : Tr} (n : Int) (w : World) (h : TAt w b t) (hf : Fine t) (hn : n < 0 ∨ (¬ n < 0 ∧ ((lf t.bytes : Nat) : Int) < n)) : Calls Try.prog 27 #[.pointer (some ⟨b, 0, none⟩), .int .i64 n] w fun e w' => e = .returned (.tuple #[.int .i64 0, .int .i64 0, .int .i64 2]) ∧ Below w.heap.size w w' := by
  obtain ⟨A, c0, c1, c2, hb, hA⟩ := id h
  have hs := hf.size
  have hfl := hf.lf
  have hfp := hf.pcs
  have hfd := hf.dep
  go_enter Try.func27, Try.ntmps27
  go_wp2_with fail
  refine (sum_any w h).mono ?_
  rintro e w1 ⟨rfl, k1⟩
  unfold smV
  have hbl := Nat.lt_of_lt_of_le hb k1.size
  have hne : b ≠ w1.heap.size := by omega
  have oop := ObjAt.new w1 #[.int .i64 (t.bytes.length : Nat), .int .i64 (lf t.bytes : Nat), .int .i64 (t.pcs : Nat), .int .i64 (t.dep : Nat)] 75
  have k2 : Below w1.heap.size w1 (w1.alloc (.cells #[.int .i64 (t.bytes.length : Nat), .int .i64 (lf t.bytes : Nat), .int .i64 (t.pcs : Nat), .int .i64 (t.dep : Nat)] 75)) := (Below.refl _ w1).alloc (Nat.le_refl _) _
  have y0 := oop.get (k := 0) (v := .int .i64 (t.bytes.length : Nat)) rfl
  have y1 := oop.get (k := 1) (v := .int .i64 (lf t.bytes : Nat)) rfl
  have d0 := (k2.cell (p := ⟨b, 0, none⟩) hbl).trans ((k1.cell (p := ⟨b, 0, none⟩) hb).trans c0)
  have HA := Go.Lib.hid (NAt.below (chain k1 k2) hA)
  have HB := Go.Lib.hid (chain k1 k2)
  have hNl := oop.lt
  have hbl2 := Nat.lt_of_lt_of_le hbl k2.size
  clear oop k1 k2 hA c0 c1 c2 h
  rcases hn with h1 | ⟨h1, h2⟩
  · go_wp2
    refine bodyPost_ret (v := .tuple #[.int .i64 0, .int .i64 0, .int .i64 2]) ?_ rfl ⟨rfl, HB.out⟩
    simp [results, Try.results27, go_sem]
  · go_wp2
    refine bodyPost_ret (v := .tuple #[.int .i64 0, .int .i64 0, .int .i64 2]) ?_ rfl ⟨rfl, HB.out⟩
    simp [results, Try.results27, go_sem]

set_option maxRecDepth 100000 in
set_option maxHeartbeats 8000000 in
theorem line_ok {b : Nat} {t : Tr} (n : Nat) (w : World) (h : TAt w b t) (hf : Fine t) (hn : n ≤ lf t.bytes) : Calls Try.prog 27 #[.pointer (some ⟨b, 0, none⟩), .int .i64 (n : Nat)] w fun e w' => e = .returned (.tuple #[.int .i64 (frL t.bytes n : Nat), .int .i64 (toL t.bytes n : Nat), .int .i64 0]) ∧ Below w.heap.size w w' := by
  obtain ⟨A, c0, c1, c2, hb, hA⟩ := id h
  have hs := hf.size
  have hfl := hf.lf
  have hfp := hf.pcs
  have hfd := hf.dep
  go_enter Try.func27, Try.ntmps27
  go_wp2_with fail
  refine (sum_any w h).mono ?_
  rintro e w1 ⟨rfl, k1⟩
  unfold smV
  have hbl := Nat.lt_of_lt_of_le hb k1.size
  have hne : b ≠ w1.heap.size := by omega
  have oop := ObjAt.new w1 #[.int .i64 (t.bytes.length : Nat), .int .i64 (lf t.bytes : Nat), .int .i64 (t.pcs : Nat), .int .i64 (t.dep : Nat)] 75
  have k2 : Below w1.heap.size w1 (w1.alloc (.cells #[.int .i64 (t.bytes.length : Nat), .int .i64 (lf t.bytes : Nat), .int .i64 (t.pcs : Nat), .int .i64 (t.dep : Nat)] 75)) := (Below.refl _ w1).alloc (Nat.le_refl _) _
  have y0 := oop.get (k := 0) (v := .int .i64 (t.bytes.length : Nat)) rfl
  have y1 := oop.get (k := 1) (v := .int .i64 (lf t.bytes : Nat)) rfl
  have d0 := (k2.cell (p := ⟨b, 0, none⟩) hbl).trans ((k1.cell (p := ⟨b, 0, none⟩) hb).trans c0)
  have HA := Go.Lib.hid (NAt.below (chain k1 k2) hA)
  have HB := Go.Lib.hid (chain k1 k2)
  have hNl := oop.lt
  have hbl2 := Nat.lt_of_lt_of_le hbl k2.size
  clear oop k1 k2 hA c0 c1 c2 h
  have i1 : ¬ (n : Int) < 0 := by omega
  have i2 : ¬ (lf t.bytes : Int) < (n : Int) := by omega
  have hn2 : n ≤ 200000 := by omega
  by_cases h0 : n = 0
  · have hfr := Go.Lib.hid (show frL t.bytes n = 0 from if_pos h0)
    have i3 : ¬ (0 : Int) < (n : Int) := by omega
    by_cases h3 : n = lf t.bytes
    · have hto := Go.Lib.hid (show toL t.bytes n = t.bytes.length from if_pos h3)
      have i4 : (n : Int) = (lf t.bytes : Int) := by omega
      clear h0 h3
      go_wp2_with fail
      go_region
      all_goals
        go_wp2
        refine bodyPost_ret (v := .tuple #[.int .i64 ((0 : Nat) : Int), .int .i64 (t.bytes.length : Nat), .int .i64 0]) ?_ rfl ⟨by rw [hfr.out, hto.out], HB.out.drew⟩
        simp [results, Try.results27, go_sem]

    · have i4 : ¬ (n : Int) = (lf t.bytes : Int) := by omega
      have HN := Go.Lib.hid h3
      have hlt : n < lf t.bytes := by omega
      clear h0 h3
      go_wp2_with fail
      refine (nfeed_any t A n _ hf HA.out hlt).mono ?_
      intro e w3 h9
      unfold FeedR at h9
      obtain ⟨a, rfl, ha, k3⟩ := h9
      have hto := Go.Lib.hid (show toL t.bytes n = a by unfold toL; rw [if_neg HN.out, getD_of ha])
      have HB3 := chain HB.out k3
      clear ha
      go_wp2
      refine bodyPost_ret (v := .tuple #[.int .i64 ((0 : Nat) : Int), .int .i64 (a : Nat), .int .i64 0]) ?_ rfl ⟨by rw [hfr.out, hto.out], HB3⟩
      simp [results, Try.results27, go_sem]

  · obtain ⟨j, hj⟩ : ∃ j, n = j + 1 := ⟨n - 1, by omega⟩
    have i3 : (0 : Int) < (n : Int) := by omega
    have F1 : (n : Int) - 1 = (j : Int) := by omega
    have hjl : j < lf t.bytes := by omega
    have hw0 : IntKind.i64.wrap (j : Int) = (j : Int) := IntWalk.i64_in _ (by omega)
    have HN0 := Go.Lib.hid h0
    have HJ := Go.Lib.hid hj
    clear h0 hj
    go_wp2_with fail
    refine (nfeed_any t A j _ hf HA.out hjl).mono ?_
    intro e w3 h9
    unfold FeedR at h9
    obtain ⟨a, rfl, ha, k3⟩ := h9
    have hal := posL_lt ha
    have hfr := Go.Lib.hid (show frL t.bytes n = a + 1 by unfold frL; rw [if_neg HN0.out, show n - 1 = j by rw [HJ.out]; rfl, getD_of ha])
    have HB3 := Go.Lib.hid (chain HB.out k3)
    have y0' := (k3.cell (p := ⟨w1.heap.size, 0, none⟩) hNl).trans y0
    have y1' := (k3.cell (p := ⟨w1.heap.size, 1, none⟩) hNl).trans y1
    have d0' := (k3.cell (p := ⟨b, 0, none⟩) hbl2).trans d0
    have HA3 := Go.Lib.hid (NAt.below k3 HA.out)
    clear ha k3 y0 y1 d0 HA HB
    by_cases h3 : n = lf t.bytes
    · have hto := Go.Lib.hid (show toL t.bytes n = t.bytes.length from if_pos h3)
      have i4 : (n : Int) = (lf t.bytes : Int) := by omega
      clear h3
      go_wp2_with fail
      go_region
      all_goals
        go_wp2
        refine bodyPost_ret (v := .tuple #[.int .i64 ((a + 1 : Nat) : Int), .int .i64 (t.bytes.length : Nat), .int .i64 0]) ?_ rfl ⟨by rw [hfr.out, hto.out], HB3.out.drew⟩
        simp [results, Try.results27, go_sem]

    · have i4 : ¬ (n : Int) = (lf t.bytes : Int) := by omega
      have HN := Go.Lib.hid h3
      have hlt : n < lf t.bytes := by omega
      clear h3
      go_wp2_with fail
      refine (nfeed_any t A n _ hf HA3.out hlt).mono ?_
      intro e w4 h9
      unfold FeedR at h9
      obtain ⟨c, rfl, ha, k4⟩ := h9
      have hto := Go.Lib.hid (show toL t.bytes n = c by unfold toL; rw [if_neg HN.out, getD_of ha])
      have HB4 := chain HB3.out k4
      clear ha
      go_wp2
      refine bodyPost_ret (v := .tuple #[.int .i64 ((a + 1 : Nat) : Int), .int .i64 (c : Nat), .int .i64 0]) ?_ rfl ⟨by rw [hfr.out, hto.out], HB4⟩
      simp [results, Try.results27, go_sem]

end Go.Proofs.Ytonplacldckbgaa
