/- Layer 5: the law Runs. -/
import Derived.Test.YtioehncdkdfcmaaR2
import Derived.Test.YtioehncdkdfcmaaI3
import Derived.Test.YtioehncdkdfcmaaC7
import Derived.Deep.AppendLies
import Derived.Deep.RegionHeld3
import Derived.Deep.Slices
import Derived.ChangeArms
namespace Go.Proofs.Ytioehncdkdfcmaa
open Go.RowKit Go.Lib Im Go.ChangeShapes Go.WideShapes

set_option maxRecDepth 100000 in
set_option maxHeartbeats 4000000 in
theorem len_q (b : Nat) (R : List Rn) (w : World) (h : MpAt w b R) : Calls Try.prog 17 #[.pointer (some ⟨b, 0, none⟩)] w fun e w' => e = .returned (.int .i64 (lenR R)) ∧ ∃ m, w' = w.drewN m := by
  obtain ⟨A, n, c, h1, h2, h3, h4, h5⟩ := h
  have hbc := h1.cell
  unfold maxLen at h4
  cases n with
  | zero =>
    have : R = [] := List.eq_nil_of_length_eq_zero h2
    subst this
    rw [lenR_nil]
    clear h1 h2 h5
    go_enter Try.func17, Try.ntmps17
    go_wp2
    go_ret
    exact ⟨by simp, 0, rfl⟩
  | succ k =>
    rcases h5 with h0 | ⟨g, o, rfl, hg, hcl⟩
    · rw [h0] at h2; cases h2
    obtain ⟨d0, d1, d2⟩ := hcl k (by omega)
    rw [← lenR_at h2] at d1
    generalize lenR R = x at d1
    have q0 : (0 : Int) ≤ (k : Int) := by omega
    have q1 : (k : Int) < (k : Int) + 1 := by omega
    have q2 : ((k : Int) + 1 == 0) = false := by simp; omega
    have q3 : IntKind.i64.wrap (k : Int) = k := IntWalk.i64_in _ (by omega)
    clear d0 d2 h1 h2 hcl
    go_enter Try.func17, Try.ntmps17
    go_wp2
    go_quiet (fail)
    go_wp2
    go_ret
    exact ⟨by simp, nq, rfl⟩
theorem RnAt.take {w : World} {A : Option Addr} {l : List Rn} (h : RnAt w A l) (n : Nat) : RnAt w A (l.take n) := by
  rcases h with h | ⟨g, o, hA, hg, hc⟩
  · subst h; exact .inl (by simp)
  · refine .inr ⟨g, o, hA, hg, fun k hk => ?_⟩
    have hk' : k < l.length := by simp at hk; omega
    simp only [List.getElem_take]
    exact hc k hk'
theorem own_rnatE {w : World} {base n c : Nat} {e : TypeId} {A : Option Addr} {R : List Rn} (hown : w.ownsRow base e 3 (.slice A n c) n (rowR R)) (hR : R.length = n) : RnAt w A R := by
  cases n with
  | zero => exact .inl (List.eq_nil_of_length_eq_zero hR)
  | succ k =>
    obtain ⟨g, cap, hv⟩ := ownsRow_succ hown
    injection hv with h1 _ _
    subst h1
    have hcl := hown.cells (g := g) rfl
    have hlt := (hown.lt g rfl).2
    refine .inr ⟨g, 0, rfl, hlt, fun q hq => ?_⟩
    obtain ⟨r0, r1, r2⟩ := rowR_get R q hq
    have c0 := hcl _ _ r0
    have c1 := hcl _ _ r1
    have c2 := hcl _ _ r2
    rw [Addr.add_lit] at c0 c1 c2
    simp only [← Nat.add_assoc] at c0 c1 c2
    exact ⟨c0, c1, c2⟩
theorem rowR_take1 (l : List Rn) {k : Nat} (h : k < l.length) : rowR (l.take (k + 1)) = rowR (l.take k) ++ [.int .i64 l[k].1, .int .i64 l[k].2.1, .int .i64 l[k].2.2] := by
  rw [List.take_succ_eq_append_getElem h, rowR_snoc]
/-- Runs that came in. -/
def RunsIn (w : World) (A : Option Addr) (len cap : Nat) (l : List Rn) : Prop := l.length = len ∧ len ≤ cap ∧ cap ≤ maxLen ∧ RnAt w A l
set_option maxRecDepth 100000 in
theorem open_runs {H : Type} {enc : TypeId × Value → H} {w : World} {fuel len cap : Nat} {A : Option Addr} {x : DataW H × List MemPlace}
    (h : DataW.trod enc Try.prog w 0 (fun _ => true) true fuel 31 [.slice A len cap] = some x) : ∃ l, RunsIn w A len cap l := by
  rcases Go.Deep.open_slice Try.underlying31 h with ⟨hcs, _⟩ | ⟨a, len', cap', m, n, D, Pl, hcs, _, hl, hm, hmm, _, hat⟩
  · simp only [List.cons.injEq, Value.slice.injEq, and_true] at hcs
    obtain ⟨rfl, rfl, rfl⟩ := hcs
    exact ⟨[], rfl, Nat.le_refl _, by decide, .inl rfl⟩
  · simp only [List.cons.injEq, Value.slice.injEq, and_true] at hcs
    obtain ⟨rfl, rfl, rfl⟩ := hcs
    simp only [if_true] at hmm
    subst hmm
    have ce : Try.prog.cellsOf 34 = 3 := by kernel_rfl
    have c3 : Try.prog.cellsOf 3 = 1 := by kernel_rfl
    have each : ∀ i, i < len → ∃ q : Rn, w.cell? (a.add (i * 3)) = some (.int .i64 q.1) ∧ w.cell? (a.add (i * 3 + 1)) = some (.int .i64 q.2.1) ∧ w.cell? (a.add (i * 3 + 2)) = some (.int .i64 q.2.2) := by
      intro i hi
      obtain ⟨cs', h1, h2⟩ := hat i (by omega)
      rw [ce] at h1
      obtain ⟨_, hlen, hcell⟩ := World.cells?_some h1
      obtain ⟨xs, k, _, _, _, hxl, hf⟩ := DataW.trod_struct Try.underlying34 h2
      match xs, hxl, cs', hlen with
      | [y0, y1, y2], _, [v0, v1, v2], _ =>
        have g0 := hf 0 _ rfl
        have g1 := hf 1 _ rfl
        have g2 := hf 2 _ rfl
        simp [c3] at g0 g1 g2
        have e0 := hcell 0 (by omega)
        have e1 := hcell 1 (by omega)
        have e2 := hcell 2 (by omega)
        rw [Go.Deep.add_add] at e0 e1 e2
        obtain ⟨z0, p0, _, _⟩ := DataW.trod_int Try.underlying3 g0
        obtain ⟨z1, p1, _, _⟩ := DataW.trod_int Try.underlying3 g1
        obtain ⟨z2, p2, _, _⟩ := DataW.trod_int Try.underlying3 g2
        simp only [List.cons.injEq, and_true] at p0 p1 p2
        subst p0 p1 p2
        exact ⟨(z0, z1, z2), by simpa using e0, by simpa using e1, by simpa using e2⟩
    obtain ⟨q, hq⟩ := Go.Deep.choose_lt each
    refine ⟨(List.range len).map q, by simp, hl, hm, ?_⟩
    by_cases h0 : len = 0
    · subst h0; exact .inl rfl
    obtain ⟨b, off, spot⟩ := a
    have hc := (hq 0 (by omega)).1
    have hspot : spot = none := by simpa [Addr.add] using World.cell?_spot hc
    subst hspot
    have hadd : ∀ i, ((⟨b, off, none⟩ : Addr).add i) = ⟨b, off + i, none⟩ := by intro i; unfold Addr.add; split <;> simp_all
    have hg : b < w.heap.size := World.block_lt_of_cell? w ⟨b, off + 0 * 3, none⟩ (by rw [hadd] at hc; exact hc)
    refine .inr ⟨b, off, rfl, hg, fun k hk => ?_⟩
    have hk' : k < len := by simpa using hk
    obtain ⟨d0, d1, d2⟩ := hq k hk'
    rw [hadd] at d0 d1 d2
    simp only [List.getElem_map, List.getElem_range]
    exact ⟨d0, by rw [← Nat.add_assoc] at d1; exact d1, by rw [← Nat.add_assoc] at d2; exact d2⟩
set_option maxRecDepth 100000 in
set_option maxHeartbeats 32000000 in
theorem law_runs (A : Option Addr) (n0 c : Nat) (l0 : List Rn) (w : World) (h : RunsIn w A n0 c l0) : Calls Try.prog 4 #[.slice A n0 c] w (BoolB true w) := by
  obtain ⟨i0, hi, hz0, hz1, hz2⟩ := info_parts info35
  obtain ⟨hl0, hnc, hcm, hA0⟩ := h
  obtain ⟨n, hn⟩ : ∃ n, min n0 60 = n := ⟨_, rfl⟩
  have hmin : min (n0 : Int) 60 = (n : Int) := by omega
  have hn60 : n ≤ 60 := by omega
  have hnc2 : n ≤ c := by omega
  have hnI : (n : Int) ≤ (c : Int) := by omega
  obtain ⟨l, hl⟩ : ∃ l, l = l0.take n := ⟨_, rfl⟩
  have HL := Go.Lib.hid (show l.length = n by rw [hl, List.length_take]; omega)
  have HA := Go.Lib.hid (show RnAt w A l by rw [hl]; exact hA0.take n)
  have HCM := Go.Lib.hid hcm
  unfold maxLen at hcm
  clear hl hA0 hl0 hn hnc
  go_enter Try.func4, Try.ntmps4
  go_wp2
  go_loopw [3, 4] (fun v i wr => ∃ (k : Nat) (B : Option Addr) (cb : Nat), k ≤ n ∧ i = .int .i64 k ∧ v = .slice B k cb ∧ Hid (wr.ownsRow w.heap.size 35 3 (.slice B k cb) k (rowR (l.take k))) ∧ Hid (Below w.heap.size w wr)) (fun _ i _ => n - (RowKit.intOf i).toNat)
  case atStart => exact ⟨0, none, 0, Nat.zero_le _, rfl, rfl, Go.Lib.hid (World.ownsRow_nil _ _ _ _), Go.Lib.hid (Below.refl _ _)⟩
  case round =>
    obtain ⟨k, B, cb, hk, rfl, rfl, HO, HB⟩ := hrel
    have hb := HB.out.size
    by_cases hlt : k < n
    · have hkl : k < l.length := by rw [HL.out]; exact hlt
      rcases HA.out with hA0 | ⟨g, o, rfl, hg, hcl⟩
      · rw [hA0] at hkl; exact absurd hkl (Nat.not_lt_zero _)
      obtain ⟨h0, h1, h2⟩ := hcl k hkl
      have c0 := (HB.out.cell (p := ⟨g, o + k * 3, none⟩) hg).trans h0
      have c1 := (HB.out.cell (p := ⟨g, o + k * 3 + 1, none⟩) hg).trans h1
      have c2 := (HB.out.cell (p := ⟨g, o + k * 3 + 2, none⟩) hg).trans h2
      have HRT := Go.Lib.hid (rowR_take1 l hkl)
      clear h0 h1 h2 hcl
      generalize l[k] = y at c0 c1 c2 HRT
      obtain ⟨ya, yb, yc⟩ := y
      dsimp only at c0 c1 c2 HRT
      have hown := HO.out
      have hgw : g < wr.heap.size := by omega
      have ag : (Value.slice B k cb).ownBlock ≠ some g := fun h => by have := (hown.lt g h).1; omega
      have q0 : (0 : Int) ≤ (k : Int) := by omega
      have q1 : (k : Int) < (n : Int) := by omega
      go_wp2_with fail
      go_region_held3 (fun w' => w'.cell? ⟨g, o + k * 3, none⟩ = some (.int .i64 ya) ∧ w'.cell? ⟨g, o + k * 3 + 1, none⟩ = some (.int .i64 yb) ∧ w'.cell? ⟨g, o + k * 3 + 2, none⟩ = some (.int .i64 yc))
        (first
          | go_keep
          | (go_split_ands
             refine ⟨?_, ?_, ?_⟩
             · (rw [hgrow.cell_far _ (by simp; omega) (Ne.symm ag)]; assumption)
             · (rw [hgrow.cell_far _ (by simp; omega) (Ne.symm ag)]; assumption)
             · (rw [hgrow.cell_far _ (by simp; omega) (Ne.symm ag)]; assumption)))
        ((refine step_append_lies _ (by rfl) _ _ _ (by rfl) w.heap.size 35 i0 _ 3 24 Try.underlying32 hi hz0 hz1 hz2 rfl (by omega) _ k (rowR (l.take k)) (by rfl) ((hown.alloc _).drew)
            ⟨wr.heap.size, 0, none⟩ 1 1 [.int .i64 ya, .int .i64 yb, .int .i64 yc] (by rfl) (by rfl) (World.news_of_block (cs := #[.int .i64 ya, .int .i64 yb, .int .i64 yc]) (t := 35) (fr := (0, 0)) (heap_alloc_new wr _)) (by simp [Value.oneCell'])
            (by omega) (by unfold maxLen; omega) (by omega) (by simp; omega) (wr.heap.size + 1) (by simp) ?_; intro gg cap' w1 hown1 hgrow hat hlt'))
      have own0 := hown
      have hown2 := Go.Lib.hid hown1
      have hgrow2 := Go.Lib.hid hgrow
      clear hown1 hgrow c0 c1 c2
      go_wp2
      go_roundw
      case rel => exact ⟨k + 1, _, _, by omega, by go_num, rfl, Go.Lib.hid (by rw [HRT.out]; exact hown2.out), Go.Lib.hid ((bdrew1 (HB.out.alloc (by omega) _)).grown hgrow2.out (by simp; omega) (fun j e => (own0.lt j e).1))⟩
      case measure => simp [RowKit.intOf]; omega
    · obtain rfl : n = k := by omega
      have HRW := HO.out
      rw [List.take_of_length_le (by rw [HL.out]; exact Nat.le_refl _)] at HRW
      have HW1 := Go.Lib.hid (own_rnatE HRW HL.out)
      clear HRW HO
      have cF := fromRuns_any A n c l HL.out ⟨hnc2, HCM.out⟩ (by omega) wr (HA.out.below HB.out)
      unfold FrR at cF
      have cK := fun w' hw => rcheck_any B n cb l HL.out (by omega) w' hw
      by_cases hk0 : chkA l = 0
      · have cF2 : Calls Try.prog 14 #[.slice A n c] wr (fun e w' => ∃ b g, e = .returned (.tuple #[.pointer (some ⟨b, 0, none⟩), .int .i64 0]) ∧ MpG w' b g l ∧ Below wr.heap.size wr w') := cF.mono (by
          rintro e w' (⟨_, h⟩ | ⟨h, _⟩)
          · exact h
          · exact absurd hk0 h)
        rw [hk0] at cK
        clear cF hk0
        go_wp2_with fail
        (with_reducible refine cF2.mono ?_)
        rintro e w2 ⟨b, g, rfl, hM, hb2⟩
        have HB2 : Hid (Below w.heap.size w w2) := Go.Lib.hid (HB.out.trans (hb2.mono HB.out.size))
        have HW2 := Go.Lib.hid (HW1.out.below hb2)
        have HM2 := Go.Lib.hid hM
        clear cF2 hM hb2 HW1
        go_wp2_with fail
        (with_reducible refine (known_any _).mono ?_)
        rintro e w3 ⟨rfl, hb3⟩
        have HB3 : Hid (Below w.heap.size w w3) := Go.Lib.hid (HB2.out.trans (hb3.mono HB2.out.size))
        have HM3 := Go.Lib.hid (mpG_below HM2.out hb3)
        have cK3 := cK w3 (HW2.out.below hb3)
        clear hb3 cK HB2 HM2
        go_wp2_with fail
        (with_reducible refine cK3.mono ?_)
        rintro e w4 ⟨rfl, hb4⟩
        have HB4 : Hid (Below w.heap.size w w4) := Go.Lib.hid (HB3.out.trans (hb4.mono HB3.out.size))
        have HM4 := Go.Lib.hid (mpG_below HM3.out hb4)
        clear hb4 cK3 HB3 HM3 HW2
        have cR := runs_any b l w4 (mpG_at HM4.out) (by rw [HL.out]; omega)
        unfold OwnRet at cR
        rw [HL.out] at cR
        go_wp2_with fail
        (with_reducible refine cR.mono ?_)
        rintro e w5 ⟨B5, c5, rfl, ho5, hb5⟩
        have HB5 : Hid (Below w.heap.size w w5) := Go.Lib.hid (HB4.out.trans (hb5.mono HB4.out.size))
        have HM5 := Go.Lib.hid (mpG_below HM4.out hb5)
        have HO5 := Go.Lib.hid ho5
        clear ho5 hb5 cR HB4 HM4
        have cq := fun q => len_q b l (w5.drewN q) (mpG_at HM5.out)
        cases n with
        | zero =>
          have hl0 : lenR l = 0 := by rw [List.eq_nil_of_length_eq_zero HL.out]; rfl
          rw [hl0] at cq
          clear hl0
          go_wp2
          go_quiet ((go_at_call 17; exact Calls.quiet_of (cq _)))
          have HB6 : Hid (Below w.heap.size w (w5.drewN nq)) := Go.Lib.hid (bdrew HB5.out nq)
          clear cq
          go_wp2
          go_loopw [8] (fun i wr => i = .int .i64 0 ∧ Hid (Below w.heap.size w wr)) (fun _ _ => 0)
          case atStart => exact ⟨rfl, HB6⟩
          case round =>
            obtain ⟨rfl, HB7⟩ := hrel
            go_wp2
            go_ret
            exact ⟨rfl, HB7.out⟩
        | succ j =>
          have hjl : j < l.length := by rw [HL.out]; omega
          have hl0 : lenR l = l[j].2.1 := lenR_at HL.out
          rw [hl0] at cq
          rcases HA.out with hA0 | ⟨g', o, rfl, hg, hcl⟩
          · rw [hA0] at hjl; exact absurd hjl (Nat.not_lt_zero _)
          have d1 := (HB5.out.cell (p := ⟨g', o + j * 3 + 1, none⟩) hg).trans (hcl j hjl).2.1
          clear hl0
          generalize l[j].2.1 = y at d1 cq
          have q0 : (0 : Int) ≤ (j : Int) := by omega
          have q1 : (j : Int) < (j : Int) + 1 := by omega
          have q2 : (0 : Int) < (j : Int) + 1 := by omega
          have q3 : IntKind.i64.wrap (j : Int) = j := IntWalk.i64_in _ (by omega)
          have q4 : ((j : Int) + 1 == 0) = false := by simp; omega
          go_wp2
          go_quiet ((go_at_call 17; exact Calls.quiet_of (cq _)))
          have HB6 : Hid (Below w.heap.size w (w5.drewN nq)) := Go.Lib.hid (bdrew HB5.out nq)
          have HO6 : Hid ((w5.drewN nq).ownsRow w4.heap.size 34 3 (.slice B5 (j + 1) c5) (j + 1) (rowR l)) := HO5
          have HCL := Go.Lib.hid hcl
          clear cq d1 hcl q0 q1 q2 q3 q4
          generalize w5.drewN nq = w6 at HB6 HO6 ⊢
          go_wp2
          go_loopw [8] (fun i wr => ∃ k : Nat, k ≤ j + 1 ∧ i = .int .i64 k ∧ Hid (Below w6.heap.size w6 wr)) (fun i _ => (j + 1) - (RowKit.intOf i).toNat)
          case atStart => exact ⟨0, Nat.zero_le _, rfl, Go.Lib.hid (Below.refl _ _)⟩
          case round =>
            obtain ⟨k, hk, rfl, HB7⟩ := hrel
            by_cases hlt2 : k < j + 1
            · obtain ⟨ga, rfl, hga, a0, a1, a2⟩ := own_cells3 HO6.out HL.out hlt2
              have a0 := (HB7.out.cell (p := ⟨ga, k * 3, none⟩) hga).trans a0
              have a1 := (HB7.out.cell (p := ⟨ga, k * 3 + 1, none⟩) hga).trans a1
              have a2 := (HB7.out.cell (p := ⟨ga, k * 3 + 2, none⟩) hga).trans a2
              obtain ⟨u0, u1, u2⟩ := HCL.out k (by rw [HL.out]; exact hlt2)
              have hbb := HB6.out.trans (HB7.out.mono HB6.out.size)
              have b0 := (hbb.cell (p := ⟨g', o + k * 3, none⟩) hg).trans u0
              have b1 := (hbb.cell (p := ⟨g', o + k * 3 + 1, none⟩) hg).trans u1
              have b2 := (hbb.cell (p := ⟨g', o + k * 3 + 2, none⟩) hg).trans u2
              clear u0 u1 u2 hbb
              generalize l[k]'(by rw [HL.out]; exact hlt2) = z at a0 a1 a2 b0 b1 b2
              obtain ⟨z0, z1, z2⟩ := z
              dsimp only at a0 a1 a2 b0 b1 b2
              have q5 : (0 : Int) ≤ (k : Int) := by omega
              have q6 : (k : Int) < (j : Int) + 1 := by omega
              clear hga
              go_wp2
              go_quiet (fail)
              have HBq : Hid (Below w6.heap.size w6 (wr.drewN nq)) := Go.Lib.hid (bdrew HB7.out nq)
              clear HB7 a0 a1 a2 b0 b1 b2 q5 q6
              go_wp2
              go_roundw
              case rel => exact ⟨k + 1, by omega, by go_num, HBq⟩
              case measure => simp [RowKit.intOf]; omega
            · obtain rfl : k = j + 1 := by omega
              go_wp2
              go_ret
              exact ⟨rfl, HB6.out.trans (HB7.out.mono HB6.out.size)⟩
      · have cF2 : Calls Try.prog 14 #[.slice A n c] wr (fun e w' => e = .returned (.tuple #[.pointer none, .int .i64 (chkA l)]) ∧ Below wr.heap.size wr w') := cF.mono (by
          rintro e w' (⟨h, _⟩ | ⟨_, h⟩)
          · exact absurd h hk0
          · exact h)
        clear cF
        generalize chkA l = ck at cF2 cK hk0
        have hck1 : (ck == 0) = false := by simpa using hk0
        have hck2 : (ck != 0) = true := by simpa using hk0
        go_wp2_with fail
        (with_reducible refine cF2.mono ?_)
        rintro e w2 ⟨rfl, hb2⟩
        have HB2 : Hid (Below w.heap.size w w2) := Go.Lib.hid (HB.out.trans (hb2.mono HB.out.size))
        have HW2 := Go.Lib.hid (HW1.out.below hb2)
        clear cF2 hb2 HW1
        go_wp2_with fail
        (with_reducible refine (known_any _).mono ?_)
        rintro e w3 ⟨rfl, hb3⟩
        have HB3 : Hid (Below w.heap.size w w3) := Go.Lib.hid (HB2.out.trans (hb3.mono HB2.out.size))
        have cK3 := cK w3 (HW2.out.below hb3)
        clear hb3 cK HB2
        go_wp2_with fail
        (with_reducible refine cK3.mono ?_)
        rintro e w4 ⟨rfl, hb4⟩
        have HB4 : Hid (Below w.heap.size w w4) := Go.Lib.hid (HB3.out.trans (hb4.mono HB3.out.size))
        clear hb4 cK3 HB3 HW2
        go_wp2
        go_ret
        exact ⟨by simp, HB4.out⟩
end Go.Proofs.Ytioehncdkdfcmaa
