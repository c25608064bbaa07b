/- Layer 4: node.feed (41), node.feedsBefore (42). -/
import Derived.Test.YtonplacldckbgaaMQ
namespace Go.Proofs.Ytonplacldckbgaa
open Go.RowKit Go.Shelf Go.Lib Pt

theorem posL_lt {b : List UInt8} {k a : Nat} (h : (posL b 0)[k]? = some a) : a < b.length := by
  obtain ⟨h1, h2⟩ := List.getElem?_eq_some_iff.1 h
  rw [← h2]
  exact (posL_get b k h1).1
theorem posL_node (l p r : List UInt8) : posL (l ++ p ++ r) 0 = posL l 0 ++ ((posL p 0).map (· + l.length) ++ (posL r 0).map (· + (l.length + p.length))) := by
  rw [posL_append, posL_append, List.append_assoc, List.length_append, Nat.zero_add, Nat.zero_add, posL_at p, posL_at r]
theorem posL_l (l p r : List UInt8) {k a : Nat} (h : (posL l 0)[k]? = some a) : (posL (l ++ p ++ r) 0)[k]? = some a := by
  rw [posL_node, List.getElem?_append_left (List.getElem?_eq_some_iff.1 h).1, h]
theorem posL_p (l p r : List UInt8) {k a : Nat} (h : (posL p 0)[k]? = some a) : (posL (l ++ p ++ r) 0)[lf l + k]? = some (l.length + a) := by
  have hk := (List.getElem?_eq_some_iff.1 h).1
  rw [posL_node, List.getElem?_append_right (by rw [posL_len]; omega), posL_len, show lf l + k - lf l = k by omega, List.getElem?_append_left (by rw [List.length_map]; exact hk), List.getElem?_map, h, Option.map_some, Nat.add_comm]
theorem posL_r (l p r : List UInt8) {k a : Nat} (h : (posL r 0)[k]? = some a) : (posL (l ++ p ++ r) 0)[lf l + lf p + k]? = some (l.length + p.length + a) := by
  rw [posL_node, List.getElem?_append_right (by rw [posL_len]; omega), posL_len, List.getElem?_append_right (by rw [List.length_map, posL_len]; omega), List.length_map, posL_len, show lf l + lf p + k - lf l - lf p = k by omega, List.getElem?_map, h, Option.map_some, Nat.add_comm]
/-- A line feed's offset. -/
def FeedR (b : List UInt8) (k : Nat) (w : World) (e : Ending) (w' : World) : Prop := ∃ a : Nat, e = .returned (.int .i64 (a : Nat)) ∧ (posL b 0)[k]? = some a ∧ Below w.heap.size w w'
set_option maxRecDepth 100000 in
set_option maxHeartbeats 16000000 in
theorem nfeed_node {l r : Tr} {p : List UInt8} {A : Option Addr} (k : Nat) (w : World) (hf : Fine (.node l p r)) (h : NAt w (.node l p r) A) (hk : k < lf (Tr.node l p r).bytes)
    (il : ∀ (B : Option Addr) (k' : Nat) (w' : World), NAt w' l B → k' < lf l.bytes → Calls Try.prog 41 #[.pointer B, .int .i64 (k' : Nat)] w' (FeedR l.bytes k' w'))
    (ir : ∀ (B : Option Addr) (k' : Nat) (w' : World), NAt w' r B → k' < lf r.bytes → Calls Try.prog 41 #[.pointer B, .int .i64 (k' : Nat)] w' (FeedR r.bytes k' w')) : Calls Try.prog 41 #[.pointer A, .int .i64 (k : Nat)] w (FeedR (Tr.node l p r).bytes k w) := by
  obtain ⟨b, L, R, rfl, hb, ⟨c0, c1, c2, c3, _⟩, hl, hr⟩ := h
  have b1 := hf.left.size
  have b2 := hf.left.lf
  have b3 := hf.left.pcs
  have b4 := hf.left.dep
  have b5 := hf.right.size
  have b6 := hf.right.lf
  have b7 := hf.piece
  have b8 : lf p ≤ p.length := List.count_le_length
  have hz := bs_size p
  have hkk : k < lf l.bytes + lf p + lf r.bytes := by simp only [Tr.bytes, lf_append] at hk; exact hk
  have IL := Go.Lib.hid il
  have IR := Go.Lib.hid ir
  clear hk il ir
  go_enter Try.func41, Try.ntmps41
  go_wp2_with fail
  refine (total_any w hl).mono ?_
  rintro e w1 ⟨rfl, k1⟩
  unfold smV
  have hl1 := NAt.below k1 hl
  have hr1 := NAt.below k1 hr
  have hbl := Nat.lt_of_lt_of_le hb k1.size
  have hne : b ≠ w1.heap.size := by omega
  have oop := ObjAt.new w1 #[.int .i64 (l.bytes.length : Nat), .int .i64 (lf l.bytes : Nat), .int .i64 (l.pcs : Nat), .int .i64 (l.dep : Nat)] 75
  have k2 : Below w1.heap.size w1 (w1.alloc (.cells #[.int .i64 (l.bytes.length : Nat), .int .i64 (lf l.bytes : Nat), .int .i64 (l.pcs : Nat), .int .i64 (l.dep : Nat)] 75)) := (Below.refl _ w1).alloc (Nat.le_refl _) _
  have y0 := oop.get (k := 0) (v := .int .i64 (l.bytes.length : Nat)) rfl
  have y1 := oop.get (k := 1) (v := .int .i64 (lf l.bytes : Nat)) rfl
  have d0 := (k2.cell (p := ⟨b, 0, none⟩) hbl).trans ((k1.cell (p := ⟨b, 0, none⟩) hb).trans c0)
  have d1 := (k2.cell (p := ⟨b, 1, none⟩) hbl).trans ((k1.cell (p := ⟨b, 1, none⟩) hb).trans c1)
  have d2 := (k2.cell (p := ⟨b, 2, none⟩) hbl).trans ((k1.cell (p := ⟨b, 2, none⟩) hb).trans c2)
  have d3 := (k2.cell (p := ⟨b, 3, none⟩) hbl).trans ((k1.cell (p := ⟨b, 3, none⟩) hb).trans c3)
  have hl2 := NAt.below k2 hl1
  have hr2 := NAt.below k2 hr1
  have HB := Go.Lib.hid (chain k1 k2)
  have hNl := oop.lt
  have hbl2 := Nat.lt_of_lt_of_le hbl k2.size
  clear oop k1 k2 hl hr hl1 hr1 c0 c1 c2 c3
  by_cases h1 : k < lf l.bytes
  · have i1 : (k : Int) < (lf l.bytes : Int) := by omega
    go_wp2_with fail
    refine (IL.out L k _ hl2 h1).mono ?_
    intro e w3 h3
    unfold FeedR at h3
    obtain ⟨a, rfl, ha, k3⟩ := h3
    have HA := Go.Lib.hid (posL_l l.bytes p r.bytes ha)
    have HB3 := chain HB.out k3
    clear ha
    go_wp2
    go_ret
    exact ⟨a, rfl, HA.out, HB3⟩
  · obtain ⟨j, hj⟩ : ∃ j, k = lf l.bytes + j := ⟨k - lf l.bytes, by omega⟩
    have i1 : ¬ (k : Int) < (lf l.bytes : Int) := by omega
    have F1 : (k : Int) - (lf l.bytes : Int) = (j : Int) := by omega
    have hk2 : k ≤ 600000 := by omega
    have HJ := Go.Lib.hid hj
    by_cases h2 : j < lf p
    · have i2 : (j : Int) < (lf p : Int) := by omega
      clear hj
      go_wp2_with fail
      generalize w1.alloc (.cells #[.int .i64 (l.bytes.length : Nat), .int .i64 (lf l.bytes : Nat), .int .i64 (l.pcs : Nat), .int .i64 (l.dep : Nat)] 75) = W at *
      generalize w1.heap.size = N at *
      go_region_held3 (fun w' => w'.cell? ⟨N, 0, none⟩ = some (.int .i64 (l.bytes.length : Nat)) ∧ w'.cell? ⟨b, 2, none⟩ = some (.string (bs p)) ∧ w'.cell? ⟨b, 3, none⟩ = some (.int .i64 (lf p : Nat)))
        (first
          | go_keep
          | exact ⟨(k3.cell (p := ⟨N, 0, none⟩) hNl).trans y0, (k3.cell (p := ⟨b, 2, none⟩) hbl2).trans d2, (k3.cell (p := ⟨b, 3, none⟩) hbl2).trans d3⟩)
        (first
          | (go_at_call 54; with_reducible refine (pfeed_any p j _ b7 h2).mono ?_; intro e w3 h3; obtain ⟨a, rfl, ha, k3⟩ := h3; have hal := posL_lt ha; have hw : IntKind.i64.wrap ((l.bytes.length : Int) + (a : Int)) = (l.bytes.length : Int) + (a : Int) := IntWalk.i64_in _ (by omega)))
      all_goals
        have HA := Go.Lib.hid (posL_p l.bytes p r.bytes ha)
        clear ha
        go_wp2
        go_ret
        exact ⟨l.bytes.length + a, by simp, by rw [HJ.out]; exact HA.out, chain HB.out ⟨k3.os, k3.tape, k3.output, k3.size, k3.block⟩⟩
    · obtain ⟨i, hi0⟩ : ∃ i, j = lf p + i := ⟨j - lf p, by omega⟩
      have i2 : ¬ (j : Int) < (lf p : Int) := by omega
      have F2 : (j : Int) - (lf p : Int) = (i : Int) := by omega
      have hi : i < lf r.bytes := by omega
      have hj2 : j ≤ 400000 := by omega
      have hi3 : i ≤ 200000 := by omega
      have hw1 : IntKind.i64.wrap ((l.bytes.length : Int) + (p.length : Int)) = (l.bytes.length : Int) + (p.length : Int) := IntWalk.i64_in _ (by omega)
      have hw0 : IntKind.i64.wrap (i : Int) = (i : Int) := IntWalk.i64_in _ (by omega)
      have HI := Go.Lib.hid hi0
      clear hi0 hj
      go_wp2_with fail
      generalize w1.alloc (.cells #[.int .i64 (l.bytes.length : Nat), .int .i64 (lf l.bytes : Nat), .int .i64 (l.pcs : Nat), .int .i64 (l.dep : Nat)] 75) = W at *
      generalize w1.heap.size = N at *
      have hr3 : NAt W.drew r R := NAt.below (Below.refl _ W).drew hr2
      go_region_held3 (fun w' => w'.cell? ⟨N, 0, none⟩ = some (.int .i64 (l.bytes.length : Nat)) ∧ w'.cell? ⟨b, 1, none⟩ = some (.pointer R) ∧ w'.cell? ⟨b, 2, none⟩ = some (.string (bs p)) ∧ w'.cell? ⟨b, 3, none⟩ = some (.int .i64 (lf p : Nat)))
        (first
          | go_keep
          | exact ⟨(k3.cell (p := ⟨N, 0, none⟩) hNl).trans y0, (k3.cell (p := ⟨b, 1, none⟩) hbl2).trans d1, (k3.cell (p := ⟨b, 2, none⟩) hbl2).trans d2, (k3.cell (p := ⟨b, 3, none⟩) hbl2).trans d3⟩)
        (first
          | (go_at_call 41; with_reducible refine (IR.out R i _ hr3 hi).mono ?_; intro e w3 h3; unfold FeedR at h3; obtain ⟨a, rfl, ha, k3⟩ := h3; have hal := posL_lt ha; have hw : IntKind.i64.wrap ((l.bytes.length : Int) + (p.length : Int) + (a : Int)) = (l.bytes.length : Int) + (p.length : Int) + (a : Int) := IntWalk.i64_in _ (by omega)))
      all_goals
        have HA := Go.Lib.hid (posL_r l.bytes p r.bytes ha)
        clear ha
        go_wp2
        go_ret
        exact ⟨l.bytes.length + p.length + a, by simp, by rw [HJ.out, HI.out, ← Nat.add_assoc]; exact HA.out, chain HB.out ⟨k3.os, k3.tape, k3.output, k3.size, k3.block⟩⟩
theorem nfeed_any (t : Tr) : ∀ (A : Option Addr) (k : Nat) (w : World), Fine t → NAt w t A → k < lf t.bytes → Calls Try.prog 41 #[.pointer A, .int .i64 (k : Nat)] w (FeedR t.bytes k w) := by
  induction t with
  | nil => intro A k w _ _ hk; exact absurd hk (Nat.not_lt_zero _)
  | node l p r il ir =>
    intro A k w hf h hk
    exact nfeed_node k w hf h hk (fun B k' w' h1 h2 => il B k' w' hf.left h1 h2) (fun B k' w' h1 h2 => ir B k' w' hf.right h1 h2)
end Go.Proofs.Ytonplacldckbgaa
