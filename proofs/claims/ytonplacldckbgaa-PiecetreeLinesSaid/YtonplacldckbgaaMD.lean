/- Layer 4: visit (48), under the fence, for any yield. -/
import Derived.Test.YtonplacldckbgaaMC
import Derived.Test.YtonplacldckbgaaG2
import Derived.Test.YtonplacldckbgaaP2
import Derived.BigFrameIn
namespace Go.Proofs.Ytonplacldckbgaa
open Go.RowKit Go.Lib Pt

attribute [local go_sem] Oper.semAt_some
theorem yield_any {m m' : Nat} {P : Program} {l : Nat} {args : Array Value} {W : World} {R : Ending → World → Prop} (h : YieldAt Fence.wide m P l args W R) : YieldAt Fence.wide m' P l args W R := by
  obtain ⟨fn, tmps, assign, body, h1, h2, h3⟩ := h
  exact ⟨fn, tmps, assign, body, h1, h2, fun c cs _ => h3 c cs (room_wide _)⟩
theorem ext_part (p : List UInt8) (f g : Int) (s : Nat) : bs ((p.take (g - s).toNat).drop (f - s).toNat) = (bs p).extract (f.toNat - s) (g.toNat - s) := by
  apply ByteArray.ext
  rw [show (f - (s : Int)).toNat = f.toNat - s by omega, show (g - (s : Int)).toNat = g.toNat - s by omega]
  simp only [bs, ByteArray.data_extract, List.extract_toArray]
  congr 1
  simp [List.drop_take]
/-- What visit leaves behind. -/
def VPost (all now : List (List UInt8)) (J Jx : List (List UInt8) → World → Prop) (e : Ending) (W' : World) : Prop :=
  (e = .returned (.bool true) ∧ J now W') ∨ (e = .returned (.bool false) ∧ ∃ pre, pre <+: all ∧ Jx pre W')
set_option maxRecDepth 100000 in
set_option maxHeartbeats 4000000 in
theorem visit_nil (k0 : Nat) (L : Nat) (x y : Int) (all pre : List (List UInt8)) (J Jx : List (List UInt8) → World → Prop) (W : World) (h0 : J pre W) :
    CallsIn Fence.wide k0 Try.prog 48 #[.pointer none, .int .i64 x, .int .i64 y, .func (.yield L) #[] #[]] W (VPost all pre J Jx) := by
  have J0 := Go.Lib.hid h0
  clear h0
  refine callsIn_of_wp Try.func48 rfl trivial ?_ rfl
  simp only [Try.ntmps48, List.size_toArray, List.length_cons, List.length_nil, Nat.reduceAdd, Nat.reduceSub, Array.replicate_succ, Array.replicate_zero, List.push_toArray, List.append_toArray, List.nil_append, List.cons_append]
  gi_wp2
  go_ret
  exact .inl ⟨rfl, J0.out⟩
set_option maxRecDepth 100000 in
set_option maxHeartbeats 4000000 in
theorem visit_out (k0 : Nat) (L : Nat) {l r : Tr} {p : List UInt8} {A : Option Addr} (x y : Int) (all pre : List (List UInt8)) (J Jx : List (List UInt8) → World → Prop) (W : World) (h : NAt W (.node l p r) A) (hc : y ≤ 0 ∨ ((Tr.node l p r).bytes.length : Int) ≤ x) (h0 : J pre W) :
    CallsIn Fence.wide k0 Try.prog 48 #[.pointer A, .int .i64 x, .int .i64 y, .func (.yield L) #[] #[]] W (VPost all pre J Jx) := by
  have J0 := Go.Lib.hid h0
  obtain ⟨b, L1, R1, rfl, hb, ⟨c0, c1, c2, c3, c4, _⟩, _, _⟩ := h
  clear h0
  by_cases hy : y ≤ 0
  · refine callsIn_of_wp Try.func48 rfl trivial ?_ rfl
    simp only [Try.ntmps48, List.size_toArray, List.length_cons, List.length_nil, Nat.reduceAdd, Nat.reduceSub, Array.replicate_succ, Array.replicate_zero, List.push_toArray, List.append_toArray, List.nil_append, List.cons_append]
    gi_wp2
    go_ret
    exact .inl ⟨rfl, J0.out⟩
  · have hx : ((Tr.node l p r).bytes.length : Int) ≤ x := hc.resolve_left hy
    refine callsIn_of_wp Try.func48 rfl trivial ?_ rfl
    simp only [Try.ntmps48, List.size_toArray, List.length_cons, List.length_nil, Nat.reduceAdd, Nat.reduceSub, Array.replicate_succ, Array.replicate_zero, List.push_toArray, List.append_toArray, List.nil_append, List.cons_append]
    gi_wp2
    go_ret
    exact .inl ⟨rfl, J0.out⟩
set_option maxRecDepth 100000 in
set_option maxHeartbeats 8000000 in
theorem visit_in (k0 : Nat) (L : Nat) {l r : Tr} {p : List UInt8} {A : Option Addr} (x y : Int) (all pre : List (List UInt8)) (J Jx : List (List UInt8) → World → Prop) (w0 W : World) (h : NAt w0 (.node l p r) A) (hf : Fine (.node l p r)) (hy : ¬ y ≤ 0) (hx : ¬ ((Tr.node l p r).bytes.length : Int) ≤ x)
    (hx1 : -1000000 ≤ x) (hy1 : y ≤ 1000000)
    (hG : ∀ pre W', J pre W' → Below w0.heap.size w0 W') (hJ : ∀ pre A C, J pre A → A.grownBy C none → J pre C)
    (hY : ∀ pre c W1, J pre W1 → pre ++ [c] <+: all → YieldAt Fence.wide 0 Try.prog L #[.string (bs c)] W1 fun e W' => (e = .returned (.bool true) ∧ J (pre ++ [c]) W') ∨ (e = .returned (.bool false) ∧ Jx (pre ++ [c]) W'))
    (hall : pre ++ (chunksT l x y ++ Pt.part p l.bytes.length x y ++ chunksT r (x - (l.bytes.length + p.length)) (y - (l.bytes.length + p.length))) <+: all)
    (il : ∀ (A : Option Addr) (W' : World), NAt w0 l A → J pre W' → CallsIn Fence.wide 0 Try.prog 48 #[.pointer A, .int .i64 x, .int .i64 y, .func (.yield L) #[] #[]] W' (VPost all (pre ++ chunksT l x y) J Jx))
    (ir : ∀ (A : Option Addr) (pre' : List (List UInt8)) (W' : World), NAt w0 r A → J pre' W' → pre' ++ chunksT r (x - (l.bytes.length + p.length)) (y - (l.bytes.length + p.length)) <+: all → CallsIn Fence.wide 0 Try.prog 48 #[.pointer A, .int .i64 (x - (l.bytes.length + p.length)), .int .i64 (y - (l.bytes.length + p.length)), .func (.yield L) #[] #[]] W' (VPost all (pre' ++ chunksT r (x - (l.bytes.length + p.length)) (y - (l.bytes.length + p.length))) J Jx))
    (h0 : J pre W) :
    CallsIn Fence.wide k0 Try.prog 48 #[.pointer A, .int .i64 x, .int .i64 y, .func (.yield L) #[] #[]] W (VPost all (pre ++ (chunksT l x y ++ Pt.part p l.bytes.length x y ++ chunksT r (x - (l.bytes.length + p.length)) (y - (l.bytes.length + p.length)))) J Jx) := by
  have J0 := Go.Lib.hid h0
  obtain ⟨now, hnow⟩ : ∃ now, now = pre ++ (chunksT l x y ++ Pt.part p l.bytes.length x y ++ chunksT r (x - (l.bytes.length + p.length)) (y - (l.bytes.length + p.length))) := ⟨_, rfl⟩
  rw [← hnow]
  have HN := Go.Lib.hid hnow
  clear hnow
  have HG := Go.Lib.hid hG
  have HJ := Go.Lib.hid hJ
  have HY := Go.Lib.hid hY
  have IL := Go.Lib.hid il
  have IR := Go.Lib.hid ir
  obtain ⟨b, A1, A2, rfl, hb, ⟨c0, c1, c2, c3, c4, _⟩, hl, hr⟩ := h
  have hz : (bs p).size = p.length := bs_size p
  have b1 := hf.left.size
  have b2 := hf.piece
  have hx3 : x ≤ 200000 := by have := hf.size; omega
  have hy3 : -1000000 ≤ y := by omega
  have HW := hG pre W h0
  have D0 := (HW.cell (p := ⟨b, 0, none⟩) hb).trans c0
  have D2 := (HW.cell (p := ⟨b, 2, none⟩) hb).trans c2
  have D4 := (HW.cell (p := ⟨b, 4, none⟩) hb).trans c4
  have hl1 := NAt.below HW hl
  clear h0 hG hJ hY il ir
  refine callsIn_of_wp Try.func48 rfl trivial ?_ rfl
  simp only [Try.ntmps48, List.size_toArray, List.length_cons, List.length_nil, Nat.reduceAdd, Nat.reduceSub, Array.replicate_succ, Array.replicate_zero, List.push_toArray, List.append_toArray, List.nil_append, List.cons_append]
  gi_wp2_with fail
  refine ⟨trivial, (fun h => by cases h), ?_⟩
  refine (callsIn_wide.2 (total_any W hl1)).mono ?_
  rintro e w1 ⟨rfl, k1⟩
  unfold smV
  have J1 := Go.Lib.hid (HJ.out pre W w1 J0.out (grown_below k1 rfl))
  have D0' := (k1.cell (p := ⟨b, 0, none⟩) (Nat.lt_of_lt_of_le hb HW.size)).trans D0
  have D2' := (k1.cell (p := ⟨b, 2, none⟩) (Nat.lt_of_lt_of_le hb HW.size)).trans D2
  clear D0 D2 D4 k1 J0 hl1 HW
  gi_wp2_with fail
  refine ⟨trivial, (fun h => by cases h), ?_⟩
  refine (callsIn_wide.2 (callsIn_wide.1 (IL.out A1 w1 hl J1.out))).mono ?_
  rintro e w2 (⟨rfl, hJ2⟩ | ⟨rfl, hJx⟩)
  rotate_left
  · have HX := Go.Lib.hid hJx
    clear hJx
    gi_wp2
    go_ret
    exact .inr ⟨rfl, HX.out⟩
  have J2 := Go.Lib.hid hJ2
  have HW := HG.out _ w2 hJ2
  have E1 := (HW.cell (p := ⟨b, 1, none⟩) hb).trans c1
  have E2 := (HW.cell (p := ⟨b, 2, none⟩) hb).trans c2
  have d1 := c1
  clear hJ2 J1 D0' D2' c0 c1 c2 c3 c4 HW
  by_cases hlt : max x (l.bytes.length : Int) < min y ((l.bytes.length : Int) + (p.length : Int))
  · have HP := Go.Lib.hid (show Pt.part p l.bytes.length x y = [(p.take (min y (l.bytes.length + p.length) - l.bytes.length : Int).toNat).drop (max x l.bytes.length - l.bytes.length : Int).toNat] from if_pos hlt)
    have hext := ext_part p (max x (l.bytes.length : Int)) (min y ((l.bytes.length : Int) + (p.length : Int))) l.bytes.length
    have hp1 : (pre ++ chunksT l x y) ++ [(p.take (min y (l.bytes.length + p.length) - l.bytes.length : Int).toNat).drop (max x l.bytes.length - l.bytes.length : Int).toNat] <+: all := by
      refine List.IsPrefix.trans ?_ hall
      rw [HP.out]
      exact ⟨chunksT r (x - (l.bytes.length + p.length)) (y - (l.bytes.length + p.length)), by simp only [List.append_assoc]⟩
    have hall2 : ((pre ++ chunksT l x y) ++ [(p.take (min y (l.bytes.length + p.length) - l.bytes.length : Int).toNat).drop (max x l.bytes.length - l.bytes.length : Int).toNat]) ++ chunksT r (x - (l.bytes.length + p.length)) (y - (l.bytes.length + p.length)) <+: all := by
      rw [HP.out] at hall
      rwa [show pre ++ (chunksT l x y ++ [(p.take (min y (l.bytes.length + p.length) - l.bytes.length : Int).toNat).drop (max x l.bytes.length - l.bytes.length : Int).toNat] ++ chunksT r (x - (l.bytes.length + p.length)) (y - (l.bytes.length + p.length))) = ((pre ++ chunksT l x y) ++ [(p.take (min y (l.bytes.length + p.length) - l.bytes.length : Int).toNat).drop (max x l.bytes.length - l.bytes.length : Int).toNat]) ++ chunksT r (x - (l.bytes.length + p.length)) (y - (l.bytes.length + p.length)) by simp only [List.append_assoc]] at hall
    have HN2 := Go.Lib.hid (show now = ((pre ++ chunksT l x y) ++ [(p.take (min y (l.bytes.length + p.length) - l.bytes.length : Int).toNat).drop (max x l.bytes.length - l.bytes.length : Int).toNat]) ++ chunksT r (x - (l.bytes.length + p.length)) (y - (l.bytes.length + p.length)) by rw [HN.out, HP.out]; simp only [List.append_assoc])
    generalize (p.take (min y (l.bytes.length + p.length) - l.bytes.length : Int).toNat).drop (max x l.bytes.length - l.bytes.length : Int).toNat = c at *
    obtain ⟨fn, tmps, assign, body, hyy, hRd⟩ := yield_any (m' := k0 - 1) (HY.out (pre ++ chunksT l x y) c w2 J2.out hp1)
    have HQ := Go.Lib.hid hp1
    have HA := Go.Lib.hid hall2
    rw [hext] at hyy
    clear HP hext hp1 hall2 hall HN
    gi_wp2
    refine ⟨(fun h => by cases h), ?_⟩
    refine hRd.mono ?_
    rintro e w3 (⟨rfl, hJ3⟩ | ⟨rfl, hJx3⟩)
    · have J3 := Go.Lib.hid hJ3
      have HW := HG.out _ w3 hJ3
      have F1 := (HW.cell (p := ⟨b, 1, none⟩) hb).trans d1
      clear hyy hRd hJ3 E1 E2 J2 HW
      gi_wp2_with fail
      refine ⟨trivial, (fun h => by cases h), ?_⟩
      refine (callsIn_wide.2 (callsIn_wide.1 (IR.out A2 _ w3 hr J3.out HA.out))).mono ?_
      rintro e w4 (⟨rfl, hJ4⟩ | ⟨rfl, hJx4⟩)
      · have J4 := Go.Lib.hid hJ4
        clear hJ4
        gi_wp2
        go_ret
        exact .inl ⟨rfl, by rw [HN2.out]; exact J4.out⟩
      · have J4 := Go.Lib.hid hJx4
        clear hJx4
        gi_wp2
        go_ret
        exact .inr ⟨rfl, J4.out⟩
    · have J3 := Go.Lib.hid hJx3
      clear hyy hRd hJx3
      gi_wp2
      go_ret
      exact .inr ⟨rfl, _, HQ.out, J3.out⟩
  · have HP := Go.Lib.hid (show Pt.part p l.bytes.length x y = [] from if_neg hlt)
    have hall2 : (pre ++ chunksT l x y) ++ chunksT r (x - (l.bytes.length + p.length)) (y - (l.bytes.length + p.length)) <+: all := by
      rw [HP.out, List.append_nil, ← List.append_assoc] at hall
      exact hall
    have HA := Go.Lib.hid hall2
    have HN2 := Go.Lib.hid (show now = (pre ++ chunksT l x y) ++ chunksT r (x - (l.bytes.length + p.length)) (y - (l.bytes.length + p.length)) by rw [HN.out, HP.out, List.append_nil, List.append_assoc])
    clear HP hall2 hall HN
    gi_wp2_with fail
    all_goals
      constructor
      · intro f0 h9
        exact absurd h9 (by simp)
      gi_wp2_with fail
      refine ⟨trivial, (fun h => by cases h), ?_⟩
      refine (callsIn_wide.2 (callsIn_wide.1 (IR.out A2 _ w2 hr J2.out HA.out))).mono ?_
      rintro e w4 (⟨rfl, hJ4⟩ | ⟨rfl, hJx4⟩)
      · have J4 := Go.Lib.hid hJ4
        clear hJ4
        gi_wp2
        go_ret
        exact .inl ⟨rfl, by rw [HN2.out]; exact J4.out⟩
      · have J4 := Go.Lib.hid hJx4
        clear hJx4
        gi_wp2
        go_ret
        exact .inr ⟨rfl, J4.out⟩
end Go.Proofs.Ytonplacldckbgaa
