/- Layer 4: node.feedsBefore (42), LineAt (28), Lines (26). -/
import Derived.Test.YtonplacldckbgaaMR
namespace Go.Proofs.Ytonplacldckbgaa
open Go.RowKit Go.Shelf Go.Lib Pt

theorem lf_take_l (l p r : List UInt8) {x : Nat} (h : x ≤ l.length) : lf ((l ++ p ++ r).take x) = lf (l.take x) := by
  rw [List.append_assoc, List.take_append_of_le_length h]
theorem lf_take_p (l p r : List UInt8) {y : Nat} (h : y ≤ p.length) : lf ((l ++ p ++ r).take (l.length + y)) = lf l + lf (p.take y) := by
  rw [List.append_assoc, List.take_append, List.take_of_length_le (by omega), show l.length + y - l.length = y by omega, List.take_append_of_le_length h, lf_append]
theorem lf_take_r (l p r : List UInt8) (z : Nat) : lf ((l ++ p ++ r).take (l.length + p.length + z)) = lf l + lf p + lf (r.take z) := by
  rw [List.take_append, List.take_of_length_le (by rw [List.length_append]; omega), List.length_append, show l.length + p.length + z - (l.length + p.length) = z by omega, lf_append, lf_append]
theorem count_any (l : List UInt8) (w : World) : Calls Try.prog 55 #[.string (bs l), .string { data := #[10] }] w fun e w' => e = .returned (.int .i64 (lf l : Nat)) ∧ w' = w := by
  have := Try.strings_Count_one (bs l) 10 w
  rw [bs_list, countByte_lf] at this
  exact this
/-- A number that a call answers. -/
def NumR (k : Nat) (w : World) (e : Ending) (w' : World) : Prop := e = .returned (.int .i64 (k : Nat)) ∧ Below w.heap.size w w'
set_option maxRecDepth 100000 in
set_option maxHeartbeats 4000000 in
theorem before_nil (x : Int) (w : World) : Calls Try.prog 42 #[.pointer none, .int .i64 x] w (NumR 0 w) := by
  go_enter Try.func42, Try.ntmps42
  go_wp2
  go_ret
  exact ⟨rfl, Below.refl _ _⟩
set_option maxRecDepth 100000 in
set_option maxHeartbeats 16000000 in
theorem before_node {l r : Tr} {p : List UInt8} {A : Option Addr} (x : Nat) (w : World) (hf : Fine (.node l p r)) (h : NAt w (.node l p r) A) (hx : x ≤ 600000)
    (il : ∀ (B : Option Addr) (x' : Nat) (w' : World), NAt w' l B → x' ≤ 600000 → Calls Try.prog 42 #[.pointer B, .int .i64 (x' : Nat)] w' (NumR (lf (l.bytes.take x')) w'))
    (ir : ∀ (B : Option Addr) (x' : Nat) (w' : World), NAt w' r B → x' ≤ 600000 → Calls Try.prog 42 #[.pointer B, .int .i64 (x' : Nat)] w' (NumR (lf (r.bytes.take x')) w')) : Calls Try.prog 42 #[.pointer A, .int .i64 (x : Nat)] w (NumR (lf ((Tr.node l p r).bytes.take x)) w) := by
  obtain ⟨b, L, R, rfl, hb, ⟨c0, c1, c2, c3, _⟩, hl, hr⟩ := h
  have b1 := hf.left.size
  have b2 := hf.left.lf
  have b3 := hf.left.pcs
  have b4 := hf.left.dep
  have b5 := hf.right.size
  have b6 := hf.right.lf
  have b7 := hf.piece
  have b8 : lf p ≤ p.length := List.count_le_length
  have hz := bs_size p
  have IL := Go.Lib.hid il
  have IR := Go.Lib.hid ir
  clear il ir
  have E := Go.Lib.hid (show (Tr.node l p r).bytes = l.bytes ++ p ++ r.bytes from rfl)
  go_enter Try.func42, Try.ntmps42
  go_wp2_with fail
  refine (total_any w hl).mono ?_
  rintro e w1 ⟨rfl, k1⟩
  unfold smV
  have hl1 := NAt.below k1 hl
  have hr1 := NAt.below k1 hr
  have hbl := Nat.lt_of_lt_of_le hb k1.size
  have hne : b ≠ w1.heap.size := by omega
  have oop := ObjAt.new w1 #[.int .i64 (l.bytes.length : Nat), .int .i64 (lf l.bytes : Nat), .int .i64 (l.pcs : Nat), .int .i64 (l.dep : Nat)] 75
  have k2 : Below w1.heap.size w1 (w1.alloc (.cells #[.int .i64 (l.bytes.length : Nat), .int .i64 (lf l.bytes : Nat), .int .i64 (l.pcs : Nat), .int .i64 (l.dep : Nat)] 75)) := (Below.refl _ w1).alloc (Nat.le_refl _) _
  have y0 := oop.get (k := 0) (v := .int .i64 (l.bytes.length : Nat)) rfl
  have y1 := oop.get (k := 1) (v := .int .i64 (lf l.bytes : Nat)) rfl
  have d0 := (k2.cell (p := ⟨b, 0, none⟩) hbl).trans ((k1.cell (p := ⟨b, 0, none⟩) hb).trans c0)
  have d1 := (k2.cell (p := ⟨b, 1, none⟩) hbl).trans ((k1.cell (p := ⟨b, 1, none⟩) hb).trans c1)
  have d2 := (k2.cell (p := ⟨b, 2, none⟩) hbl).trans ((k1.cell (p := ⟨b, 2, none⟩) hb).trans c2)
  have d3 := (k2.cell (p := ⟨b, 3, none⟩) hbl).trans ((k1.cell (p := ⟨b, 3, none⟩) hb).trans c3)
  have hl2 := NAt.below k2 hl1
  have hr2 := NAt.below k2 hr1
  have HB := Go.Lib.hid (chain k1 k2)
  have hNl := oop.lt
  have hbl2 := Nat.lt_of_lt_of_le hbl k2.size
  clear oop k1 k2 hl hr hl1 hr1 c0 c1 c2 c3
  by_cases h1 : x ≤ l.bytes.length
  · have i1 : (x : Int) ≤ (l.bytes.length : Int) := by omega
    have HA := Go.Lib.hid (lf_take_l l.bytes p r.bytes h1)
    go_wp2_with fail
    refine (IL.out L x _ hl2 hx).mono ?_
    intro e w3 h3
    unfold NumR at h3
    obtain ⟨rfl, k3⟩ := h3
    have HB3 := chain HB.out k3
    go_wp2
    go_ret
    exact ⟨by rw [E.out, HA.out]; rfl, HB3⟩
  · obtain ⟨y, hy⟩ : ∃ y, x = l.bytes.length + y := ⟨x - l.bytes.length, by omega⟩
    have i1 : ¬ (x : Int) ≤ (l.bytes.length : Int) := by omega
    have F1 : (x : Int) - (l.bytes.length : Int) = (y : Int) := by omega
    have hy2 : y ≤ 600000 := by omega
    have HY := Go.Lib.hid hy
    by_cases h2 : y < p.length
    · have i2 : (y : Int) < (p.length : Int) := by omega
      have HA := Go.Lib.hid (lf_take_p l.bytes p r.bytes (Nat.le_of_lt h2))
      have b9 : lf (p.take y) ≤ (p.take y).length := List.count_le_length
      have b10 : (p.take y).length ≤ 200000 := by rw [List.length_take]; omega
      have hw : IntKind.i64.wrap ((lf l.bytes : Int) + (lf (p.take y) : Int)) = (lf l.bytes : Int) + (lf (p.take y) : Int) := IntWalk.i64_in _ (by omega)
      have x1 := ext_take p y
      have g1 : y ≤ p.length := Nat.le_of_lt h2
      have cC := fun w' => count_any (p.take y) w'
      clear hy
      go_wp2_with fail
      generalize w1.alloc (.cells #[.int .i64 (l.bytes.length : Nat), .int .i64 (lf l.bytes : Nat), .int .i64 (l.pcs : Nat), .int .i64 (l.dep : Nat)] 75) = W at *
      generalize w1.heap.size = N at *
      go_region_held3 (fun w' => w'.cell? ⟨N, 1, none⟩ = some (.int .i64 (lf l.bytes : Nat)) ∧ w'.cell? ⟨b, 2, none⟩ = some (.string (bs p)))
        (first
          | go_keep
          | exact ⟨y1, d2⟩)
        (first
          | (go_at_call 55; with_reducible refine (cC _).mono ?_; rintro e w3 ⟨rfl, rfl⟩))
      all_goals
        go_wp2
        go_ret
        exact ⟨by rw [E.out, HY.out, HA.out]; simp, HB.out.drew⟩
    · obtain ⟨z, hz0⟩ : ∃ z, y = p.length + z := ⟨y - p.length, by omega⟩
      have i2 : ¬ (y : Int) < (p.length : Int) := by omega
      have F2 : (y : Int) - (p.length : Int) = (z : Int) := by omega
      have hz2 : z ≤ 600000 := by omega
      have HZ := Go.Lib.hid hz0
      have HA := Go.Lib.hid (lf_take_r l.bytes p r.bytes z)
      have b9 : lf (r.bytes.take z) ≤ (r.bytes.take z).length := List.count_le_length
      have b10 : (r.bytes.take z).length ≤ 200000 := by rw [List.length_take]; omega
      have hw1 : IntKind.i64.wrap ((lf l.bytes : Int) + (lf p : Int)) = (lf l.bytes : Int) + (lf p : Int) := IntWalk.i64_in _ (by omega)
      have hw : IntKind.i64.wrap ((lf l.bytes : Int) + (lf p : Int) + (lf (r.bytes.take z) : Int)) = (lf l.bytes : Int) + (lf p : Int) + (lf (r.bytes.take z) : Int) := IntWalk.i64_in _ (by omega)
      have hw0 : IntKind.i64.wrap (z : Int) = (z : Int) := IntWalk.i64_in _ (by omega)
      clear hy hz0
      go_wp2_with fail
      generalize w1.alloc (.cells #[.int .i64 (l.bytes.length : Nat), .int .i64 (lf l.bytes : Nat), .int .i64 (l.pcs : Nat), .int .i64 (l.dep : Nat)] 75) = W at *
      generalize w1.heap.size = N at *
      have hr3 : NAt W.drew r R := NAt.below (Below.refl _ W).drew hr2
      go_region_held3 (fun w' => w'.cell? ⟨N, 1, none⟩ = some (.int .i64 (lf l.bytes : Nat)) ∧ w'.cell? ⟨b, 1, none⟩ = some (.pointer R) ∧ w'.cell? ⟨b, 2, none⟩ = some (.string (bs p)) ∧ w'.cell? ⟨b, 3, none⟩ = some (.int .i64 (lf p : Nat)))
        (first
          | go_keep
          | exact ⟨(k3.cell (p := ⟨N, 1, none⟩) hNl).trans y1, (k3.cell (p := ⟨b, 1, none⟩) hbl2).trans d1, (k3.cell (p := ⟨b, 2, none⟩) hbl2).trans d2, (k3.cell (p := ⟨b, 3, none⟩) hbl2).trans d3⟩)
        (first
          | (go_at_call 42; with_reducible refine (IR.out R z _ hr3 hz2).mono ?_; intro e w3 h3; unfold NumR at h3; obtain ⟨rfl, k3⟩ := h3))
      all_goals
        go_wp2
        go_ret
        exact ⟨by rw [E.out, HY.out, HZ.out, ← Nat.add_assoc, HA.out]; simp, chain HB.out ⟨k3.os, k3.tape, k3.output, k3.size, k3.block⟩⟩
theorem before_any (t : Tr) : ∀ (A : Option Addr) (x : Nat) (w : World), Fine t → NAt w t A → x ≤ 600000 → Calls Try.prog 42 #[.pointer A, .int .i64 (x : Nat)] w (NumR (lf (t.bytes.take x)) w) := by
  induction t with
  | nil =>
    intro A x w _ h _
    obtain rfl : A = none := h
    have := before_nil (x : Int) w
    simpa [Tr.bytes, lf] using this
  | node l p r il ir =>
    intro A x w hf h hx
    exact before_node x w hf h hx (fun B x' w' h1 h2 => il B x' w' hf.left h1 h2) (fun B x' w' h1 h2 => ir B x' w' hf.right h1 h2)
/-- What LineAt answers. -/
def LineAtR (b : List UInt8) (x : Int) (w : World) (e : Ending) (w' : World) : Prop := e = .returned (.tuple #[.int .i64 (if chk x x b.length = 0 then (lf (b.take x.toNat) : Nat) else 0 : Int), .int .i64 (chk x x b.length)]) ∧ Below w.heap.size w w'
set_option maxRecDepth 100000 in
set_option maxHeartbeats 4000000 in
theorem lineAt_any {b : Nat} {t : Tr} (x : Int) (w : World) (h : TAt w b t) (hf : Fine t) : Calls Try.prog 28 #[.pointer (some ⟨b, 0, none⟩), .int .i64 x] w (LineAtR t.bytes x w) := by
  have hC := check_any x x w h
  have hs := hf.size
  unfold LineAtR
  by_cases hc : chk x x t.bytes.length = 0
  · rw [if_pos hc, hc]
    rw [hc] at hC
    have h0 : 0 ≤ x ∧ x ≤ (t.bytes.length : Nat) := by unfold chk at hc; split at hc <;> omega
    obtain ⟨f, rfl⟩ : ∃ f : Nat, x = (f : Int) := ⟨x.toNat, by omega⟩
    obtain ⟨A, c0, c1, c2, hb, hA⟩ := h
    have HT := fun (w1 : World) (k : Below w.heap.size w w1) => before_any t A f w1 hf (NAt.below k hA) (by omega)
    have HH := Go.Lib.hid HT
    clear HT hc
    go_enter Try.func28, Try.ntmps28
    go_wp2_with (go_at_call 35; refine hC.mono ?_; rintro e w1 ⟨rfl, k1⟩; have d0 := (k1.cell (p := ⟨b, 0, none⟩) hb).trans c0)
    refine (HH.out w1 k1).mono ?_
    intro e w2 h2
    unfold NumR at h2
    obtain ⟨rfl, k2⟩ := h2
    go_wp2
    refine bodyPost_ret (results_tmp2 rfl _ _ _) rfl ?_
    exact ⟨rfl, chain k1 k2⟩
  · have hc2 : chk x x t.bytes.length = 2 := by unfold chk at hc ⊢; split at hc <;> simp_all
    rw [if_neg hc, hc2]
    rw [hc2] at hC
    go_enter Try.func28, Try.ntmps28
    go_wp2_with (go_at_call 35; refine hC.mono ?_; rintro e w1 ⟨rfl, k1⟩)
    refine bodyPost_ret (results_tmp2 rfl _ _ _) rfl ?_
    exact ⟨rfl, k1⟩
@[local go_sem] theorem run_feeds (a b c d : Value) (w : World) : (Instr.field 75 (.agg #[a, b, c, d]) 1).run Try.prog w = .ok b w := by
  simp [Instr.field, asAgg, go_sem]
set_option maxRecDepth 100000 in
set_option maxHeartbeats 4000000 in
theorem lines_any {b : Nat} {t : Tr} (w : World) (h : TAt w b t) (hf : Fine t) : Calls Try.prog 26 #[.pointer (some ⟨b, 0, none⟩)] w (NumR (lf t.bytes + 1) w) := by
  have hs := hf.lf
  go_enter Try.func26, Try.ntmps26
  go_wp2_with fail
  refine (sum_any w h).mono ?_
  rintro e w1 ⟨rfl, k1⟩
  unfold smV
  go_wp2
  go_ret
  exact ⟨by simp, k1⟩
end Go.Proofs.Ytonplacldckbgaa
