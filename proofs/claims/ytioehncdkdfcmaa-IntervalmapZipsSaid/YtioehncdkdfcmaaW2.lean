/- Layer 5: the iterator over the parts of runs that lie in a range. -/
import Derived.Test.YtioehncdkdfcmaaW1
import Derived.Test.YtioehncdkdfcmaaC7
import Derived.Test.YtioehncdkdfcmaaG2
import Derived.RangeFuncCalls
import Derived.RangeFuncNested
import Derived.RangeFuncBox
import Derived.RangeFuncLeaves
import Derived.RangeFuncBound
import Derived.BigRegionIn
namespace Go.Proofs.Ytioehncdkdfcmaa
open Go.RowKit Go.Shelf Go.Lib Im

attribute [local go_sem] Oper.semAt_some
def TZ (_ : TypeId) : Bool := false
set_option maxRecDepth 100000 in
theorem within_any (b : Nat) (f t : Int) (w : World) :
    Calls Try.prog 43 #[.pointer (some ⟨b, 0, none⟩), .int .i64 f, .int .i64 t] w fun e w' => e = .returned (.func (.func 51) #[] #[.pointer (some ⟨w.heap.size, 0, none⟩), .pointer (some ⟨w.heap.size + 1, 0, none⟩), .pointer (some ⟨w.heap.size + 2, 0, none⟩)]) ∧
      w' = ((w.alloc (.cells #[.pointer (some ⟨b, 0, none⟩)] 25)).alloc (.cells #[.int .i64 f] 3)).alloc (.cells #[.int .i64 t] 3) := by
  go_enter Try.func43, Try.ntmps43
  go_wp2
  go_ret
  exact ⟨rfl, rfl⟩
theorem at_unique {R : List Rn} {f : Int} {i j : Nat} (h : AtR R f i) (h' : AtR R f j) : i = j := by
  obtain ⟨a1, a2, a3⟩ := h
  obtain ⟨b1, b2, b3⟩ := h'
  rcases Nat.lt_trichotomy i j with h | h | h
  · have := b2 i (by omega) h
    have := a3 i (by omega) (Nat.le_refl _)
    omega
  · exact h
  · have := a2 j (by omega) h
    have := b3 j (by omega) (Nat.le_refl _)
    omega
theorem at_exists {R : List Rn} (f : Int) (hs : SortT R) : ∃ i, AtR R f i := by
  induction R with
  | nil => exact ⟨0, Nat.le_refl _, fun k h => by simp at h, fun k h => by simp at h⟩
  | cons r R ih =>
    by_cases hr : r.2.1 ≤ f
    · obtain ⟨i, h1, h2, h3⟩ := ih (fun i j hi hj hij => by have := hs (i + 1) (j + 1) (by simpa using hi) (by simpa using hj) (by omega); simpa using this)
      refine ⟨i + 1, by simpa using h1, fun k hk hlt => ?_, fun k hk hle => ?_⟩
      · cases k with
        | zero => exact hr
        | succ k => exact h2 k (by simpa using hk) (by omega)
      · cases k with
        | zero => omega
        | succ k => exact h3 k (by simpa using hk) (by omega)
    · refine ⟨0, Nat.zero_le _, fun k _ h => by omega, fun k hk _ => ?_⟩
      have := hs.le 0 k (by simp) hk (Nat.zero_le _)
      have e : (r :: R)[0].2.1 = r.2.1 := rfl
      omega
/-- A region that ends in one frame, in a world of which S holds. -/
def ToP (fr : Act) (S : World → Prop) : Exit → Act → World → Prop
  | .normal, a, w => a = fr ∧ S w
  | _, _, _ => False
theorem wpIn_to {F : Fence} {n : Nat} {P : Program} {Q : Exit → Act → World → Prop} {a : Act} {w : World} {c : Code} (fr : Act) (S : World → Prop) (h : c.wpIn F n P (ToP fr S) a w) (k : ∀ w', S w' → Q .normal fr w') : c.wpIn F n P Q a w := by
  refine wpIn_mono h ?_
  rintro e a' w' hs
  cases e with
  | normal => obtain ⟨rfl, hs⟩ := hs; exact k w' hs
  | _ => exact hs.elim
/-- What the iterator reads. -/
def GW (b B1 B2 B3 : Nat) (A : Option Addr) (n c : Nat) (R : List Rn) (f t : Int) (W : World) : Prop :=
  Boxed W b 84 (.slice A n c) ∧ RnAt W A R ∧ Boxed W B1 25 (.pointer (some ⟨b, 0, none⟩)) ∧ Boxed W B2 3 (.int .i64 f) ∧ Boxed W B3 3 (.int .i64 t)
def WPost (P : List Rn) (J Jx : List Rn → World → Prop) (e : Ending) (W' : World) : Prop :=
  (∃ v, e = .returned v) ∧ ((∃ xs, xs = P ∧ J xs W') ∨ (∃ pre, pre <+: P ∧ Jx pre W'))
set_option maxRecDepth 100000 in
set_option maxHeartbeats 8000000 in
theorem within_gen (k0 : Nat) (hk0 : 1 ≤ k0) (L b B1 B2 B3 : Nat) (A : Option Addr) (n c : Nat) (R : List Rn) (f t : Int) (hR : R.length = n) (hnc : n ≤ c) (hcm : c ≤ maxLen) (hA : (A = none ∧ n = 0 ∧ c = 0) ∨ ∃ g, A = some ⟨g, 0, none⟩) (hs : SortT R) (hl : n ≤ 2000000) (J Jx : List Rn → World → Prop) (W : World)
    (hJ : AbT TZ W.heap.size J) (hG : ∀ pre W', J pre W' → GW b B1 B2 B3 A n c R f t W')
    (hY : ∀ pre x W1, J pre W1 → pre.length < (partsW f t R).length → pre ++ [x] <+: partsW f t R → YieldAt Fence.wide (k0 - 1) Try.prog L #[rnV x] W1 fun e W' =>
      (e = .returned (.bool true) ∧ J (pre ++ [x]) W' ∧ Kpt TZ B1 W1 W') ∨ (e = .returned (.bool false) ∧ Jx (pre ++ [x]) W')) (h0 : J [] W) :
    CallsIn Fence.wide k0 Try.prog 51 #[.func (.yield L) #[] #[], .pointer (some ⟨B1, 0, none⟩), .pointer (some ⟨B2, 0, none⟩), .pointer (some ⟨B3, 0, none⟩)] W (WPost (partsW f t R) J Jx) := by
  have JJ := Go.Lib.hid hJ
  have YY := Go.Lib.hid hY
  have GG := Go.Lib.hid hG
  have J0 := Go.Lib.hid h0
  have HR := Go.Lib.hid hR
  obtain ⟨g1, g2, g3, g4, g5⟩ := hG [] W h0
  have cA0 := runAt_any b R f W.drew ⟨A, n, c, g1, hR, hnc, hcm, g2⟩ hs (by omega)
  obtain ⟨i, hi⟩ := at_exists f hs
  have cA : Calls Try.prog 40 #[.pointer (some ⟨b, 0, none⟩), .int .i64 f] W.drew (fun e w' => e = .returned (.int .i64 i) ∧ Below W.heap.size W w') := cA0.mono (by
    rintro e w' ⟨j, hj, rfl, hb⟩
    have := at_unique hj hi
    subst this
    exact ⟨rfl, ((Below.refl W.heap.size W).trans (bdrew1 (Below.refl W.heap.size W))).trans hb⟩)
  have HD := Go.Lib.hid (drop_while hi)
  have hin : i ≤ n := by rw [← hR]; exact hi.1
  clear cA0 hi
  have hc1 := g3.cell
  have hc2 := g4.cell
  have hc3 := g1.cell
  have HL1 := Go.Lib.hid g1.lt
  have HL2 := Go.Lib.hid g3.lt
  unfold maxLen at hcm
  clear hJ hY hG h0 g1 g2 g3 g4 g5 hR
  refine callsIn_of_wp Try.func51 rfl trivial ?_ rfl
  simp only [Try.ntmps51, List.size_toArray, List.length_cons, List.length_nil, Nat.reduceAdd, Nat.reduceSub, Array.replicate_succ, Array.replicate_zero, List.push_toArray, List.append_toArray, List.nil_append, List.cons_append]
  rcases hA with ⟨rfl, rfl, rfl⟩ | ⟨g, rfl⟩
  · obtain rfl : i = 0 := by omega
    have HP0 : Hid (partsW f t R = []) := Go.Lib.hid (by unfold partsW; rw [← HD.out, List.eq_nil_of_length_eq_zero HR.out]; rfl)
    gi_wp2
    refine wpIn_to { tmps := #[.func (Fn.yield L) #[] #[], .pointer (some ⟨B1, 0, none⟩), .pointer (some ⟨B2, 0, none⟩), .pointer (some ⟨B3, 0, none⟩), undef, undef, undef, undef, .pointer (some ⟨b, 0, none⟩), .pointer (some ⟨b, 0, none⟩), .pointer (some ⟨b, 0, none⟩), .slice none 0 0, .pointer (some ⟨b, 0, none⟩), .int .i64 f, .int .i64 0, .slice none 0 0, .int .i64 0, .int .i64 0, undef, undef, undef, undef, undef, undef, undef, undef, undef, undef, undef, undef, undef, undef, undef, undef, undef, undef, undef, undef, undef, undef, undef, undef, undef, undef], defers := [] } (fun w' => Below W.heap.size W w') ?h0 ?k0
    case h0 =>
      gi_region_with (refine ⟨trivial, ?_⟩; gi_at_call 40; (with_reducible refine (callsIn_wide.2 cA).mono ?_); rintro e w1 ⟨rfl, hb1⟩; have hc31 := (hb1.cell (p := ⟨b, 0, none⟩) HL1.out).trans hc3; have hc11 := (hb1.cell (p := ⟨B1, 0, none⟩) HL2.out).trans hc1)
      all_goals exact ⟨rfl, hb1⟩
    intro w1 hb1
    have HJ1 : Hid (J [] w1) := Go.Lib.hid (JJ.out [] W w1 none J0.out (grown_below hb1 rfl) (fun _ e => by cases e))
    clear hb1 cA J0 hc1 hc2 hc3
    simp only [Exit.then]
    gi_wp2
    gi_loopw [17] (fun q wr => q = .int .i64 0 ∧ Hid (J [] wr)) (fun _ _ => 0)
    case atStart => exact ⟨rfl, HJ1⟩
    case round =>
      obtain ⟨rfl, HJ2⟩ := hrel
      gi_wp2
      go_end0
      exact ⟨⟨_, rfl⟩, .inl ⟨[], HP0.out.symm, HJ2.out⟩⟩
  · by_cases hci : c = i
    · obtain rfl : n = i := by omega
      subst hci
      have HP0 : Hid (partsW f t R = []) := Go.Lib.hid (by unfold partsW; rw [← HD.out, List.drop_eq_nil_of_le (by rw [HR.out]; exact Nat.le_refl _)]; rfl)
      gi_wp2
      refine wpIn_to { tmps := #[.func (Fn.yield L) #[] #[], .pointer (some ⟨B1, 0, none⟩), .pointer (some ⟨B2, 0, none⟩), .pointer (some ⟨B3, 0, none⟩), undef, undef, undef, undef, .pointer (some ⟨b, 0, none⟩), .pointer (some ⟨b, 0, none⟩), .pointer (some ⟨b, 0, none⟩), .slice (some ⟨g, 0, none⟩) c c, .pointer (some ⟨b, 0, none⟩), .int .i64 f, .int .i64 c, .slice (some ⟨g, 0, none⟩) 0 0, .int .i64 0, .int .i64 0, undef, undef, undef, undef, undef, undef, undef, undef, undef, undef, undef, undef, undef, undef, undef, undef, undef, undef, undef, undef, undef, undef, undef, undef, undef, undef], defers := [] } (fun w' => Below W.heap.size W w') ?h1 ?k1
      case h1 =>
        gi_region_with (refine ⟨trivial, ?_⟩; gi_at_call 40; (with_reducible refine (callsIn_wide.2 cA).mono ?_); rintro e w1 ⟨rfl, hb1⟩; have hc31 := (hb1.cell (p := ⟨b, 0, none⟩) HL1.out).trans hc3; have hc11 := (hb1.cell (p := ⟨B1, 0, none⟩) HL2.out).trans hc1)
        all_goals exact ⟨rfl, hb1⟩
      intro w1 hb1
      have HJ1 : Hid (J [] w1) := Go.Lib.hid (JJ.out [] W w1 none J0.out (grown_below hb1 rfl) (fun _ e => by cases e))
      clear hb1 cA J0 hc1 hc2 hc3
      simp only [Exit.then]
      gi_wp2
      gi_loopw [17] (fun q wr => q = .int .i64 0 ∧ Hid (J [] wr)) (fun _ _ => 0)
      case atStart => exact ⟨rfl, HJ1⟩
      case round =>
        obtain ⟨rfl, HJ2⟩ := hrel
        gi_wp2
        go_end0
        exact ⟨⟨_, rfl⟩, .inl ⟨[], HP0.out.symm, HJ2.out⟩⟩
    · have hic : i ≤ c := by omega
      gi_wp2
      refine wpIn_to { tmps := #[.func (Fn.yield L) #[] #[], .pointer (some ⟨B1, 0, none⟩), .pointer (some ⟨B2, 0, none⟩), .pointer (some ⟨B3, 0, none⟩), undef, undef, undef, undef, .pointer (some ⟨b, 0, none⟩), .pointer (some ⟨b, 0, none⟩), .pointer (some ⟨b, 0, none⟩), .slice (some ⟨g, 0, none⟩) n c, .pointer (some ⟨b, 0, none⟩), .int .i64 f, .int .i64 i, .slice (some ⟨g, i * 3, none⟩) (n - i) (c - i), .int .i64 ((n - i : Nat) : Int), .int .i64 0, undef, undef, undef, undef, undef, undef, undef, undef, undef, undef, undef, undef, undef, undef, undef, undef, undef, undef, undef, undef, undef, undef, undef, undef, undef, undef], defers := [] } (fun w' => Below W.heap.size W w') ?h2 ?k2
      case h2 =>
        gi_region_with (refine ⟨trivial, ?_⟩; gi_at_call 40; (with_reducible refine (callsIn_wide.2 cA).mono ?_); rintro e w1 ⟨rfl, hb1⟩; have hc31 := (hb1.cell (p := ⟨b, 0, none⟩) HL1.out).trans hc3; have hc11 := (hb1.cell (p := ⟨B1, 0, none⟩) HL2.out).trans hc1)
        all_goals exact ⟨rfl, hb1⟩
      intro w1 hb1
      have HJ1 : Hid (J [] w1) := Go.Lib.hid (JJ.out [] W w1 none J0.out (grown_below hb1 rfl) (fun _ e => by cases e))
      clear hb1 cA J0 hc1 hc2 hc3
      obtain ⟨m, hm⟩ : ∃ m, n - i = m := ⟨_, rfl⟩
      simp only [Exit.then]
      gi_wp2
      rw [hm]
      gi_loopw [17] (fun q wr => ∃ (k : Nat) (pre : List Rn), k ≤ m ∧ q = .int .i64 k ∧ Hid (partsW f t R = pre ++ parts f t (R.drop (i + k))) ∧ Hid (J pre wr)) (fun q _ => m - (RowKit.intOf q).toNat)
      case atStart => exact ⟨0, [], Nat.zero_le _, rfl, Go.Lib.hid (by unfold partsW; rw [← HD.out, Nat.add_zero]; rfl), HJ1⟩
      case round =>
        obtain ⟨k, pre, hk, rfl, HX, HJ⟩ := hrel
        by_cases hlt : k < m
        · have hik : i + k < R.length := by rw [HR.out]; omega
          obtain ⟨G1, G2, G3, G4, G5⟩ := GG.out pre wr HJ.out
          rcases G2 with hA0 | ⟨gg, oo, hAA, hg, hcl⟩
          · rw [hA0] at hik; exact absurd hik (Nat.not_lt_zero _)
          simp only [Option.some.injEq, Addr.mk.injEq, and_true] at hAA
          obtain ⟨rfl, rfl⟩ := hAA
          obtain ⟨c0, c1, c2⟩ := hcl (i + k) hik
          rw [Nat.zero_add, show (i + k) * 3 = i * 3 + k * 3 by omega] at c0 c1 c2
          have HX2 := HX.out
          rw [List.drop_eq_getElem_cons hik] at HX2
          have HX3 := Go.Lib.hid HX2
          clear HX2 hcl
          generalize R[i + k] = y at c0 c1 c2 HX3
          obtain ⟨ya, yb, yv⟩ := y
          dsimp only at c0 c1 c2
          have oa := ObjAt.new wr #[.int .i64 ya, .int .i64 yb, .int .i64 yv] 34
          have e0 := oa.b0
          have e1 := oa.b1
          have e2 := oa.b2
          have hc2 := Lib.cell?_alloc_some (.cells #[.int .i64 ya, .int .i64 yb, .int .i64 yv] 34) G4.cell
          have hc3 := Lib.cell?_alloc_some (.cells #[.int .i64 ya, .int .i64 yb, .int .i64 yv] 34) G5.cell
          have ob := ObjAt.new (wr.alloc (.cells #[.int .i64 ya, .int .i64 yb, .int .i64 yv] 34)) #[.int .i64 (max ya f), .int .i64 (min yb t), .int .i64 yv] 34
          rw [World.size_alloc] at ob
          have k0' := ob.b0
          have k1' := ob.b1
          have k2' := ob.b2
          have HJb : Hid (J pre ((wr.alloc (.cells #[.int .i64 ya, .int .i64 yb, .int .i64 yv] 34)).alloc (.cells #[.int .i64 (max ya f), .int .i64 (min yb t), .int .i64 yv] 34))) := Go.Lib.hid (JJ.out pre wr _ none HJ.out (grown_below (((Below.refl _ wr).alloc (Nat.le_refl _) _).alloc (by simp) _) rfl) (fun _ e => by cases e))
          clear oa ob G1 G3 G4 G5 hg HX
          by_cases hst : min yb t ≤ max ya f
          · rw [parts_stop (show (prt f t (ya, yb, yv)).2.1 ≤ (prt f t (ya, yb, yv)).1 from hst), List.append_nil] at HX3
            gi_wp2
            refine ⟨(fun _ h => by cases h), ?_⟩
            gi_wp2
            go_end0
            exact ⟨⟨_, rfl⟩, .inl ⟨pre, HX3.out.symm, HJb.out⟩⟩
          · rw [parts_go (show ¬ (prt f t (ya, yb, yv)).2.1 ≤ (prt f t (ya, yb, yv)).1 from hst)] at HX3
            have HLt : Hid (pre.length < (partsW f t R).length) := Go.Lib.hid (by rw [HX3.out, List.length_append, List.length_cons]; omega)
            have HPx : Hid (pre ++ [(max ya f, min yb t, yv)] <+: partsW f t R) := Go.Lib.hid ⟨parts f t (R.drop (i + k + 1)), by rw [HX3.out, List.append_assoc]; rfl⟩
            have HN : Hid (partsW f t R = (pre ++ [(max ya f, min yb t, yv)]) ++ parts f t (R.drop (i + (k + 1)))) := Go.Lib.hid (by rw [HX3.out, List.append_assoc]; rfl)
            obtain ⟨fn, tmps, assign, body, hy, hRd⟩ := YY.out pre (max ya f, min yb t, yv) _ HJb.out HLt.out HPx.out
            unfold rnV at hy
            dsimp only at hy
            clear HX3 hik
            gi_wp2
            refine hRd.mono ?_
            rintro e w8 (⟨rfl, hJ8, hk8⟩ | ⟨rfl, hJx8⟩)
            · have HJ8 := Go.Lib.hid hJ8
              clear hy hJ8 hk8 hRd
              gi_wp2
              go_roundw
              case rel => exact ⟨k + 1, pre ++ [(max ya f, min yb t, yv)], by omega, by go_num, HN, HJ8⟩
              case measure => simp [RowKit.intOf]; omega
            · gi_wp2
              go_end0
              exact ⟨⟨_, rfl⟩, .inr ⟨_, HPx.out, hJx8⟩⟩
        · obtain rfl : m = k := by omega
          have HX2 := HX.out
          rw [List.drop_eq_nil_of_le (by rw [HR.out]; omega), parts, List.append_nil] at HX2
          have HX3 := Go.Lib.hid HX2
          clear HX2
          gi_wp2
          go_end0
          exact ⟨⟨_, rfl⟩, .inl ⟨pre, HX3.out.symm, HJ.out⟩⟩
end Go.Proofs.Ytioehncdkdfcmaa
