/- Layer 23: valid. -/
import Derived.Test.YtjhppkjngifibaaFA
import Derived.Test.YtjhppkjngifibaaEY
import Derived.Test.YtjhppkjngifibaaEZ
import Derived.Deep.CutBlock
namespace Go.Proofs.Ytjhppkjngifibaa
open Go.RowKit Go.Lib
set_option linter.unusedVariables false

/-! ## What 'valid' holds in memory -/
structure VS (w : World) (b B2 : Nat) (dv ov : Array Value) (va : Value) (na : Nat) (xa : List Value) (vr : Value) (nr : Nat) (xr : List Value) (W : World) : Prop where
  hb : w.heap.size = b
  bel : Below b w W
  o1 : ObjAt W b dv 31
  o2 : ObjAt W (b + 1) #[.slice none 0 0, .slice none 0 0] 31
  o3 : ObjAt W (b + 1 + 1) ov 31
  ra : W.ownsRow (b + 3) 3 1 va na xa
  lo : ∀ j, va.ownBlock = some j → j < B2
  rr : W.ownsRow B2 3 1 vr nr xr
  hB : b + 3 ≤ B2
  hB2 : B2 ≤ W.heap.size
section
variable {w : World} {b B2 : Nat} {dv ov : Array Value} {va : Value} {na : Nat} {xa : List Value} {vr : Value} {nr : Nat} {xr : List Value} {W W' : World}
theorem VS.kept (x : VS w b B2 dv ov va na xa vr nr xr W) (k : ∀ (j : Nat) (c : Array Value) (t : TypeId) (z : Nat × Nat), W.heap[j]? = some (Obj.cells c t z) → W'.heap[j]? = some (Obj.cells c t z)) (hb : Below b w W') (hs : W.heap.size ≤ W'.heap.size) : VS w b B2 dv ov va na xa vr nr xr W' :=
  ⟨x.hb, hb, k _ _ _ _ x.o1, k _ _ _ _ x.o2, k _ _ _ _ x.o3, own_keptC x.ra fun j c t z _ => k j c t z, x.lo, own_keptC x.rr fun j c t z _ => k j c t z, x.hB, Nat.le_trans x.hB2 hs⟩
theorem VS.below (x : VS w b B2 dv ov va na xa vr nr xr W) (h : Below W.heap.size W W') : VS w b B2 dv ov va na xa vr nr xr W' :=
  x.kept (fun j c t z hj => (h.block j (Array.getElem?_eq_some_iff.1 hj).1).trans hj) (x.bel.trans (h.mono (by have := x.hB; have := x.hB2; omega))) h.size
theorem VS.alloc (x : VS w b B2 dv ov va na xa vr nr xr W) (o : Obj) : VS w b B2 dv ov va na xa vr nr xr (W.alloc o) := x.below ((Below.refl _ W).alloc (Nat.le_refl _) o)
theorem VS.drew (x : VS w b B2 dv ov va na xa vr nr xr W) : VS w b B2 dv ov va na xa vr nr xr W.drew := x.below (Below.refl _ W).drew
theorem VS.out (x : VS w b B2 dv ov va na xa vr nr xr W) (i : Nat) (u : Value) : VS w b B2 dv (ov.modify i (fun _ => u)) va na xa vr nr xr (W.setCell ⟨b + 1 + 1, i, none⟩ u) :=
  ⟨x.hb, x.bel.setCell (p := ⟨b + 1 + 1, i, none⟩) (Nat.le_add_right b 2) u, x.o1.other (by omega) i u, x.o2.other (by omega) i u, x.o3.set i u, row_setO x.ra (by omega) i u, x.lo, row_setO x.rr (by have := x.hB; omega) i u, x.hB, Nat.le_trans x.hB2 (grown_setC W (b + 1 + 1) i u).size⟩
theorem VS.appR (x : VS w b B2 dv ov va na xa vr nr xr W) {vr' : Value} {nr' : Nat} {xr' : List Value} (h : W'.ownsRow B2 3 1 vr' nr' xr') (hg : W.grownBy W' vr.ownBlock) : VS w b B2 dv ov va na xa vr' nr' xr' W' := by
  have hk : ∀ (k : Nat) (c : Array Value) (t : TypeId), ObjAt W k c t → t ≠ 3 → ObjAt W' k c t := fun k c t ho hne => (hg.block k ho.lt (fun e => obj_far x.rr ho hne e.symm)).trans ho
  refine ⟨x.hb, x.bel.grown hg (by have := x.hB; have := x.hB2; omega) (fun j e => by have := (x.rr.lt j e).1; have := x.hB; omega), hk _ _ _ x.o1 (by decide), hk _ _ _ x.o2 (by decide), hk _ _ _ x.o3 (by decide), ?_, x.lo, h, x.hB, Nat.le_trans x.hB2 hg.size⟩
  exact own_keptC x.ra fun j c t z hj hc => (hg.block j (Array.getElem?_eq_some_iff.1 hc).1 (fun e => by have := (x.rr.lt j e.symm).1; have := x.lo j hj; omega)).trans hc
theorem VS.newA (x : VS w b B2 dv ov va na xa vr nr xr W) {v' : Value} {n' : Nat} {x' : List Value} {B : Nat} (hB : b + 3 ≤ B) (h : W.ownsRow B 3 1 v' n' x') : VS w b W.heap.size dv ov v' n' x' (.slice none 0 0) 0 [] W :=
  ⟨x.hb, x.bel, x.o1, x.o2, x.o3, own_lower h hB, fun j e => (h.lt j e).2, World.ownsRow_nil _ _ _ _, by have := x.hB; have := x.hB2; omega, Nat.le_refl _⟩
end
/-- What valid hands back: some valid decision of few revisions. -/
def VRet (w : World) (e : Ending) (w' : World) : Prop := ∃ SA SR P c P' c', ckD SA SR = 0 ∧ SA.length ≤ 40 ∧ SR.length ≤ 40 ∧ e = .returned (.agg #[.slice P SA.length c, .slice P' SR.length c']) ∧ w'.ownsRow w.heap.size 3 1 (.slice P SA.length c) SA.length (SA.map encZ) ∧ w'.ownsRow w.heap.size 3 1 (.slice P' SR.length c') SR.length (SR.map encZ) ∧ Below w.heap.size w w'
theorem revl_srt {l : List Int} (h : ∀ v ∈ l, 1 ≤ v ∧ v ≤ 1073741824) : RevL (srtU l) := ⟨fun v hv => h v ((srtU_mem l v).1 hv), srtU_srt l⟩
theorem mem_snoc {P : Int → Prop} {l : List Int} {x : Int} (h : ∀ v ∈ l, P v) (hx : P x) : ∀ v ∈ l ++ [x], P v := fun v hv => (List.mem_append.1 hv).elim (h v) (fun hv => by rw [List.mem_singleton] at hv; subst hv; exact hx)
attribute [local irreducible] wpQuiet in
set_option maxRecDepth 100000 in
set_option maxHeartbeats 16000000 in
theorem valid_any (la lr : List Int) (A B : Option Addr) (na nb ca cb : Nat) (w : World) (hA : NsAt w A la) (hB : NsAt w B lr) (hna : la.length = na) (hnb : lr.length = nb) (hca : na ≤ ca ∧ ca ≤ maxLen) (hcb : nb ≤ cb ∧ cb ≤ maxLen) :
    Calls Try.prog 14 #[.agg #[.slice A na ca, .slice B nb cb]] w (VRet w) := by
  have HA := Lib.hid hA
  have HB := Lib.hid hB
  have HN1 := Lib.hid hna
  have HN2 := Lib.hid hnb
  unfold maxLen at hca hcb
  obtain ⟨hca1, hca2⟩ := hca
  obtain ⟨hcb1, hcb2⟩ := hcb
  clear hA hB hna hnb
  have b0 := (((Below.refl w.heap.size w).alloc (Nat.le_refl _) (.cells #[.slice A na ca, .slice B nb cb] 31)).alloc (by simp) (.cells #[.slice none 0 0, .slice none 0 0] 31)).alloc (by simp; omega) (.cells #[.slice none 0 0, .slice none 0 0] 31)
  have O1 := ((ObjAt.new w #[.slice A na ca, .slice B nb cb] 31).alloc (.cells #[.slice none 0 0, .slice none 0 0] 31)).alloc (.cells #[.slice none 0 0, .slice none 0 0] 31)
  have O2 := (ObjAt.new (w.alloc (.cells #[.slice A na ca, .slice B nb cb] 31)) #[.slice none 0 0, .slice none 0 0] 31).alloc (.cells #[.slice none 0 0, .slice none 0 0] 31)
  have O3 := ObjAt.new ((w.alloc (.cells #[.slice A na ca, .slice B nb cb] 31)).alloc (.cells #[.slice none 0 0, .slice none 0 0] 31)) #[.slice none 0 0, .slice none 0 0] 31
  rw [World.size_alloc] at O2 O3
  rw [World.size_alloc] at O3
  obtain ⟨i0, hi0, hz0, hz1, hz2⟩ := info_parts info3
  obtain ⟨b, hbb⟩ : ∃ b, w.heap.size = b := ⟨_, rfl⟩
  rw [hbb] at b0 O1 O2 O3
  have HBB := Lib.hid hbb
  have D1 := Lib.hid (show VS w b (b + 3) #[.slice A na ca, .slice B nb cb] #[.slice none 0 0, .slice none 0 0] (.slice none 0 0) 0 [] (.slice none 0 0) 0 [] _ from ⟨hbb, b0, O1, O2, O3, World.ownsRow_nil _ _ _ _, fun j e => (by cases e), World.ownsRow_nil _ _ _ _, Nat.le_refl _, by simp; omega⟩)
  clear b0 O1 O2 O3
  go_enter Try.func14, Try.ntmps14
  go_upto_region 2 with fail
  clear hbb
  generalize ((w.alloc (.cells #[.slice A na ca, .slice B nb cb] 31)).alloc (.cells #[.slice none 0 0, .slice none 0 0] 31)).alloc (.cells #[.slice none 0 0, .slice none 0 0] 31) = W1 at D1 ⊢
  go_upto_block 0 with fail
  go_cut [4] from 6 to 40 (fun _ wc => ∃ (n1 c1 : Nat) (L1 : List Int) (P1 : Option Addr), n1 ≤ 40 ∧ Hid (L1.length = n1) ∧ Hid (∀ v ∈ L1, 1 ≤ v ∧ v ≤ 1073741824) ∧ Hid (VS w b (b + 3) #[.slice A na ca, .slice B nb cb] #[.slice P1 n1 c1, .slice none 0 0] (.slice none 0 0) 0 [] (.slice P1 n1 c1) n1 (L1.map encZ) wc))
  case first =>
    go_wp2_with fail
    go_loopw [4] (fun s4 wr => ∃ (i n1 c1 : Nat) (L1 : List Int) (P1 : Option Addr), s4 = .int .i64 (i : Nat) ∧ i ≤ na ∧ n1 ≤ 40 ∧ n1 ≤ i ∧ Hid (L1.length = n1) ∧ Hid (∀ v ∈ L1, 1 ≤ v ∧ v ≤ 1073741824) ∧ Hid (VS w b (b + 3) #[.slice A na ca, .slice B nb cb] #[.slice P1 n1 c1, .slice none 0 0] (.slice none 0 0) 0 [] (.slice P1 n1 c1) n1 (L1.map encZ) wr)) (fun s4 _ => na - (RowKit.intOf s4).toNat)
    case atStart => exact ⟨0, 0, 0, [], none, rfl, Nat.zero_le _, by omega, Nat.le_refl _, Lib.hid rfl, Lib.hid (fun v hv => by cases hv), D1⟩
    case round =>
      clear D1
      obtain ⟨i, n1, c1, L1, P1, rfl, hin, hn40, hn1, HPL, HIN, DR⟩ := hrel
      have a0 := DR.out.o1.get (k := 0) (v := .slice A na ca) rfl
      have p0 := DR.out.o3.get (k := 0) (v := .slice P1 n1 c1) rfl
      by_cases hlt : i < na
      · have e1 : (i : Int) < (na : Int) := by omega
        have e1b : decide ((i : Int) < (na : Int)) = true := decide_eq_true e1
        by_cases h40 : i < 40
        · have e2 : (i : Int) < 40 := by omega
          have e2b : decide ((i : Int) < 40) = true := decide_eq_true e2
          obtain ⟨g, o, rfl, hg, hcl⟩ := HA.out.pos (by rw [HN1.out]; omega)
          have hil : i < la.length := by rw [HN1.out]; exact hlt
          have z0 := (DR.out.bel.cell (p := ⟨g, o + i, none⟩) (show g < b by have := HBB.out; omega)).trans (hcl i hil)
          have f0 : (0 : Int) ≤ (i : Int) := by omega
          clear hcl
          generalize la[i] = x at z0
          by_cases h1 : 1 ≤ x
          · have b1 : decide (1 ≤ x) = true := decide_eq_true h1
            by_cases h2 : x ≤ 1073741824
            · have b2 : decide (x ≤ 1073741824) = true := decide_eq_true h2
              have HX := Lib.hid (And.intro h1 h2)
              go_upto_region 6 with fail
              have DV := Lib.hid DR.out
              generalize wr = V at *
              clear p0
              have r0 := DV.out.o1.get (k := 0) (v := .slice (some ⟨g, o, none⟩) na ca) rfl
              have r1 := DV.out.o3.get (k := 0) (v := .slice P1 n1 c1) rfl
              have VA := Lib.hid (DV.out.alloc (.cells #[.int .i64 x] 3))
              have r2 := VA.out.o3.get (k := 0) (v := .slice P1 n1 c1) rfl
              have sV := DV.out.hB2
              go_region_law (first
                | (refine step_append_lies _ (by rfl) _ _ _ (by rfl) (b + 3) 3 i0 (.int .i64 0) 1 8 Try.underlying29 hi0 hz0 hz1 hz2 rfl (by decide) _ n1 (L1.map encZ) (by rfl) (by first | exact VA.out.drew.rr | exact VA.out.rr) ⟨V.heap.size, 0, none⟩ 1 1 [.int .i64 x] (by rfl) (by rfl) (by exact World.news_of_block (cs := #[.int .i64 x]) (t := 3) (fr := (0, 0)) (heap_alloc_new V _)) (by simp [Value.oneCell']) (by omega) (by unfold maxLen; omega) (by omega) (by have := VA.out.hB2; exact this) (V.heap.size + 1) (by simp) ?_; intro gg cap' w12 hown12 hgrow12 hat12 hlt12; have D12 := Lib.hid (VA.out.drew.appR hown12 hgrow12); have pp0 := D12.out.o3.get (k := 0) (v := .slice P1 n1 c1) rfl; have pf0 := D12.out.o3.frozen 0; clear hown12 hgrow12 hat12)
                | fail)
              all_goals
                go_wp2
                go_roundw
                case rel => exact ⟨i + 1, n1 + 1, cap', L1 ++ [x], some ⟨gg, 0, none⟩, by go_num, by omega, by omega, by omega, Lib.hid (by rw [List.length_append, HPL.out]; rfl), Lib.hid (mem_snoc HIN.out HX.out), Lib.hid (by rw [List.map_append]; exact D12.out.out 0 (.slice (some ⟨gg, 0, none⟩) (n1 + 1) cap'))⟩
                case measure => simp [RowKit.intOf]; omega

            · have b2 : decide (x ≤ 1073741824) = false := decide_eq_false h2
              go_wp2_with fail
              go_roundw
              case rel => exact ⟨i + 1, n1, c1, L1, P1, by go_num, by omega, by omega, by omega, HPL, HIN, DR⟩
              case measure => simp [RowKit.intOf]; omega

          · have b1 : decide (1 ≤ x) = false := decide_eq_false h1
            go_wp2_with fail
            go_roundw
            case rel => exact ⟨i + 1, n1, c1, L1, P1, by go_num, by omega, by omega, by omega, HPL, HIN, DR⟩
            case measure => simp [RowKit.intOf]; omega


        · have e2 : ¬ (i : Int) < 40 := by omega
          have e2b : decide ((i : Int) < 40) = false := decide_eq_false e2
          go_wp2_with fail
          go_meet
          case rel => exact ⟨n1, c1, L1, P1, by omega, HPL, HIN, DR⟩
      · have e1 : ¬ (i : Int) < (na : Int) := by omega
        have e1b : decide ((i : Int) < (na : Int)) = false := decide_eq_false e1
        go_wp2_with fail
        go_meet
        case rel => exact ⟨n1, c1, L1, P1, by omega, HPL, HIN, DR⟩
  case rest =>
    clear D1
    obtain ⟨n1, c1, L1, P1, hn1, HPL1, HIN1, E1⟩ := hcut
    have p0 := E1.out.o3.get (k := 0) (v := .slice P1 n1 c1) rfl
    have pf := E1.out.o3.frozen 0
    obtain ⟨A9, c9, e9, _, _, hns⟩ := row_ns E1.out.rr HPL1.out
    cases e9
    have cc := sorted_any L1 n1 HPL1.out (by omega) P1 c1 wc hns
    have HSA := Lib.hid (revl_srt HIN1.out)
    have hSA : (srtU L1).length ≤ 40 := Nat.le_trans (srtU_len _) (by rw [HPL1.out]; exact hn1)
    generalize srtU L1 = SA at cc HSA hSA
    clear hns
    go_wp2_with fail
    (with_reducible refine cc.mono ?_)
    rintro e W2 ⟨PA, cA, rfl, hown, kk⟩
    have hwc := E1.out.hB2
    have EX := Lib.hid ((E1.out.below kk).newA (by omega) hown)
    have p1 := EX.out.o3.get (k := 0) (v := .slice P1 n1 c1) rfl
    have pf1 := EX.out.o3.frozen 0
    have D2 := Lib.hid (EX.out.out 0 (.slice PA SA.length cA))
    obtain ⟨B2, hB2⟩ : ∃ x, W2.heap.size = x := ⟨_, rfl⟩
    rw [hB2] at D2
    clear EX E1 cc hown kk p0 pf hB2
    go_upto_region 8 with fail
    replace D2 := Lib.hid (show VS w b B2 #[.slice A na ca, .slice B nb cb] #[.slice PA SA.length cA, .slice none 0 0] (.slice PA SA.length cA) SA.length (SA.map encZ) (.slice none 0 0) 0 [] (W2.setCell ⟨b + 1 + 1, 0, none⟩ (.slice PA SA.length cA)) from D2.out)
    generalize W2.setCell ⟨b + 1 + 1, 0, none⟩ (.slice PA SA.length cA) = W3 at D2 ⊢
    clear p1 pf1
    go_upto_block 2 with fail
    go_cut [5] from 45 to 90 (fun _ wc => ∃ (n2 c2 : Nat) (L2 : List Int) (P2 : Option Addr), n2 ≤ 40 ∧ Hid (L2.length = n2) ∧ Hid (∀ v ∈ L2, (1 ≤ v ∧ v ≤ 1073741824) ∧ v ∉ SA) ∧ Hid (VS w b B2 #[.slice A na ca, .slice B nb cb] #[.slice PA SA.length cA, .slice P2 n2 c2] (.slice PA SA.length cA) SA.length (SA.map encZ) (.slice P2 n2 c2) n2 (L2.map encZ) wc))
    case first =>
      go_wp2_with fail
      go_loopw [5] (fun s4 wr => ∃ (i n2 c2 : Nat) (L2 : List Int) (P2 : Option Addr), s4 = .int .i64 (i : Nat) ∧ i ≤ nb ∧ n2 ≤ 40 ∧ n2 ≤ i ∧ Hid (L2.length = n2) ∧ Hid (∀ v ∈ L2, (1 ≤ v ∧ v ≤ 1073741824) ∧ v ∉ SA) ∧ Hid (VS w b B2 #[.slice A na ca, .slice B nb cb] #[.slice PA SA.length cA, .slice P2 n2 c2] (.slice PA SA.length cA) SA.length (SA.map encZ) (.slice P2 n2 c2) n2 (L2.map encZ) wr)) (fun s4 _ => nb - (RowKit.intOf s4).toNat)
      case atStart => exact ⟨0, 0, 0, [], none, rfl, Nat.zero_le _, by omega, Nat.le_refl _, Lib.hid rfl, Lib.hid (fun v hv => by cases hv), D2⟩
      case round =>
        clear D2
        obtain ⟨i, n2, c2, L2, P2, rfl, hin, hn40, hn1, HPL, HIN, DR⟩ := hrel
        have a0 := DR.out.o1.get (k := 1) (v := .slice B nb cb) rfl
        have p0 := DR.out.o3.get (k := 1) (v := .slice P2 n2 c2) rfl
        by_cases hlt : i < nb
        · have e1 : (i : Int) < (nb : Int) := by omega
          have e1b : decide ((i : Int) < (nb : Int)) = true := decide_eq_true e1
          by_cases h40 : i < 40
          · have e2 : (i : Int) < 40 := by omega
            have e2b : decide ((i : Int) < 40) = true := decide_eq_true e2
            obtain ⟨g, o, rfl, hg, hcl⟩ := HB.out.pos (by rw [HN2.out]; omega)
            have hil : i < lr.length := by rw [HN2.out]; exact hlt
            have z0 := (DR.out.bel.cell (p := ⟨g, o + i, none⟩) (show g < b by have := HBB.out; omega)).trans (hcl i hil)
            have f0 : (0 : Int) ≤ (i : Int) := by omega
            clear hcl
            generalize lr[i] = x at z0
            have a2 := DR.out.o3.get (k := 0) (v := .slice PA SA.length cA) rfl
            have q1 := fun p : Bw wr => (DR.out.o1.below p.h).get (k := 1) (v := .slice (some ⟨g, o, none⟩) nb cb) rfl
            have q2 := fun p : Bw wr => (DR.out.o3.below p.h).get (k := 0) (v := .slice PA SA.length cA) rfl
            have q3 := fun p : Bw wr => (p.h.cell (p := ⟨g, o + i, none⟩) (World.block_lt_of_cell? wr ⟨g, o + i, none⟩ z0)).trans z0
            by_cases h1 : 1 ≤ x
            · have b1 : decide (1 ≤ x) = true := decide_eq_true h1
              by_cases h2 : x ≤ 1073741824
              · have b2 : decide (x ≤ 1073741824) = true := decide_eq_true h2
                obtain ⟨A9, c9, e9, _, _, hns⟩ := row_ns DR.out.ra rfl
                cases e9
                have cH := bw_of (W := wr) (f := 22) (args := #[.slice PA SA.length cA, .int .i64 x]) (v := .bool (decide (x ∈ SA))) (fun p => has_any SA SA.length rfl (by omega) PA cA x p.w (hns.below p.h (Nat.le_refl _)))
                clear hns
                by_cases h3 : x ∈ SA
                · rw [decide_eq_true h3] at cH
                  clear h3
                  go_upto_region 11 with fail
                  refine wp_region_bw (W := wr) (by kernel_rfl) (by kernel_rfl) (Below.refl _ _) ?_
                  repeat (quiet_step (first
                    | (go_at_call 22; exact cH _)
                    | fail))
                  refine wpQuiet_nil ?_
                  intro V hw'
                  have kk : Below wr.heap.size wr V := by obtain ⟨p2, rfl⟩ := hw'; exact p2.h
                  have DV := Lib.hid (DR.out.below kk)
                  have zv := (kk.cell (p := ⟨g, o + i, none⟩) (World.block_lt_of_cell? wr ⟨g, o + i, none⟩ z0)).trans z0
                  clear hw' kk z0 q1 q2 q3 a0 p0 a2
                  go_wp2_with fail
                  go_roundw
                  case rel => exact ⟨i + 1, n2, c2, L2, P2, by go_num, by omega, by omega, by omega, HPL, HIN, DV⟩
                  case measure => simp [RowKit.intOf]; omega

                · rw [decide_eq_false h3] at cH
                  have HX := Lib.hid (And.intro (And.intro h1 h2) h3)
                  clear h3
                  go_upto_region 11 with fail
                  refine wp_region_bw (W := wr) (by kernel_rfl) (by kernel_rfl) (Below.refl _ _) ?_
                  repeat (quiet_step (first
                    | (go_at_call 22; exact cH _)
                    | fail))
                  refine wpQuiet_nil ?_
                  intro V hw'
                  have kk : Below wr.heap.size wr V := by obtain ⟨p2, rfl⟩ := hw'; exact p2.h
                  have DV := Lib.hid (DR.out.below kk)
                  have zv := (kk.cell (p := ⟨g, o + i, none⟩) (World.block_lt_of_cell? wr ⟨g, o + i, none⟩ z0)).trans z0
                  clear hw' kk z0 q1 q2 q3 a0 p0 a2
                  clear cH
                  go_upto_region 12 with fail
                  have r0 := DV.out.o1.get (k := 1) (v := .slice (some ⟨g, o, none⟩) nb cb) rfl
                  have r1 := DV.out.o3.get (k := 1) (v := .slice P2 n2 c2) rfl
                  have VA := Lib.hid (DV.out.alloc (.cells #[.int .i64 x] 3))
                  have r2 := VA.out.o3.get (k := 1) (v := .slice P2 n2 c2) rfl
                  have sV := DV.out.hB2
                  go_region_law (first
                    | (refine step_append_lies _ (by rfl) _ _ _ (by rfl) B2 3 i0 (.int .i64 0) 1 8 Try.underlying29 hi0 hz0 hz1 hz2 rfl (by decide) _ n2 (L2.map encZ) (by rfl) (by first | exact VA.out.drew.rr | exact VA.out.rr) ⟨V.heap.size, 0, none⟩ 1 1 [.int .i64 x] (by rfl) (by rfl) (by exact World.news_of_block (cs := #[.int .i64 x]) (t := 3) (fr := (0, 0)) (heap_alloc_new V _)) (by simp [Value.oneCell']) (by omega) (by unfold maxLen; omega) (by omega) (by have := VA.out.hB2; exact this) (V.heap.size + 1) (by simp) ?_; intro gg cap' w12 hown12 hgrow12 hat12 hlt12; have D12 := Lib.hid (VA.out.drew.appR hown12 hgrow12); have pp0 := D12.out.o3.get (k := 1) (v := .slice P2 n2 c2) rfl; have pf0 := D12.out.o3.frozen 1; clear hown12 hgrow12 hat12)
                    | fail)
                  all_goals
                    go_wp2
                    go_roundw
                    case rel => exact ⟨i + 1, n2 + 1, cap', L2 ++ [x], some ⟨gg, 0, none⟩, by go_num, by omega, by omega, by omega, Lib.hid (by rw [List.length_append, HPL.out]; rfl), Lib.hid (mem_snoc HIN.out HX.out), Lib.hid (by rw [List.map_append]; exact D12.out.out 1 (.slice (some ⟨gg, 0, none⟩) (n2 + 1) cap'))⟩
                    case measure => simp [RowKit.intOf]; omega

              · have b2 : decide (x ≤ 1073741824) = false := decide_eq_false h2
                go_upto_region 11 with fail
                refine wp_region_bw (W := wr) (by kernel_rfl) (by kernel_rfl) (Below.refl _ _) ?_
                repeat (quiet_step (first
                  | (go_at_call 22; exact cH _)
                  | fail))
                refine wpQuiet_nil ?_
                intro V hw'
                have kk : Below wr.heap.size wr V := by obtain ⟨p2, rfl⟩ := hw'; exact p2.h
                have DV := Lib.hid (DR.out.below kk)
                have zv := (kk.cell (p := ⟨g, o + i, none⟩) (World.block_lt_of_cell? wr ⟨g, o + i, none⟩ z0)).trans z0
                clear hw' kk z0 q1 q2 q3 a0 p0 a2
                go_wp2_with fail
                go_roundw
                case rel => exact ⟨i + 1, n2, c2, L2, P2, by go_num, by omega, by omega, by omega, HPL, HIN, DV⟩
                case measure => simp [RowKit.intOf]; omega

            · have b1 : decide (1 ≤ x) = false := decide_eq_false h1
              go_upto_region 11 with fail
              refine wp_region_bw (W := wr) (by kernel_rfl) (by kernel_rfl) (Below.refl _ _) ?_
              repeat (quiet_step (first
                | (go_at_call 22; exact cH _)
                | fail))
              refine wpQuiet_nil ?_
              intro V hw'
              have kk : Below wr.heap.size wr V := by obtain ⟨p2, rfl⟩ := hw'; exact p2.h
              have DV := Lib.hid (DR.out.below kk)
              have zv := (kk.cell (p := ⟨g, o + i, none⟩) (World.block_lt_of_cell? wr ⟨g, o + i, none⟩ z0)).trans z0
              clear hw' kk z0 q1 q2 q3 a0 p0 a2
              go_wp2_with fail
              go_roundw
              case rel => exact ⟨i + 1, n2, c2, L2, P2, by go_num, by omega, by omega, by omega, HPL, HIN, DV⟩
              case measure => simp [RowKit.intOf]; omega


          · have e2 : ¬ (i : Int) < 40 := by omega
            have e2b : decide ((i : Int) < 40) = false := decide_eq_false e2
            go_wp2_with fail
            go_meet
            case rel => exact ⟨n2, c2, L2, P2, by omega, HPL, HIN, DR⟩
        · have e1 : ¬ (i : Int) < (nb : Int) := by omega
          have e1b : decide ((i : Int) < (nb : Int)) = false := decide_eq_false e1
          go_wp2_with fail
          go_meet
          case rel => exact ⟨n2, c2, L2, P2, by omega, HPL, HIN, DR⟩
    case rest =>
      clear D2
      obtain ⟨n2, c2, L2, P2, hn2, HPL2, HIN2, E2⟩ := hcut
      have p0 := E2.out.o3.get (k := 1) (v := .slice P2 n2 c2) rfl
      obtain ⟨A9, c9, e9, _, _, hns⟩ := row_ns E2.out.rr HPL2.out
      cases e9
      have cc := sorted_any L2 n2 HPL2.out (by omega) P2 c2 wc hns
      have HSR := Lib.hid (show RevL (srtU L2) ∧ ∀ v ∈ srtU L2, v ∉ SA from ⟨revl_srt fun v hv => (HIN2.out v hv).1, fun v hv => (HIN2.out v ((srtU_mem L2 v).1 hv)).2⟩)
      have hSR : (srtU L2).length ≤ 40 := Nat.le_trans (srtU_len _) (by rw [HPL2.out]; exact hn2)
      generalize srtU L2 = SR at cc HSR hSR
      clear hns
      go_wp2_with fail
      (with_reducible refine cc.mono ?_)
      rintro e W4 ⟨PB, cB, rfl, hown, kk⟩
      have hwc := E2.out.hB2
      have hB3 := E2.out.hB
      have EX := E2.out.below kk
      have p1 := EX.o3.get (k := 1) (v := .slice P2 n2 c2) rfl
      have pf1 := EX.o3.frozen 1
      have F := EX.out 1 (.slice PB SR.length cB)
      have G1 : ObjAt _ (b + 1 + 1) #[.slice PA SA.length cA, .slice PB SR.length cB] 31 := F.o3
      have R1 := F.ra
      have R2 := row_setO (own_lower (b' := b + 3) hown (by omega)) (show b + 1 + 1 < b + 3 by omega) 1 (.slice PB SR.length cB)
      have K := F.bel
      have Z := F.o2
      clear E2 cc hown kk p0 EX F
      go_upto_region 14 with fail
      generalize W4.setCell ⟨b + 1 + 1, 1, none⟩ (.slice PB SR.length cB) = W5 at G1 R1 R2 K Z ⊢
      clear p1 pf1
      have y0 := G1.get (k := 0) (v := .slice PA SA.length cA) rfl
      have y1 := G1.get (k := 1) (v := .slice PB SR.length cB) rfl
      have z0 := Z.get (k := 0) (v := .slice none 0 0) rfl
      have z1 := Z.get (k := 1) (v := .slice none 0 0) rfl
      have g0 := Z.frozen 0
      have g1 := Z.frozen 1
      have RF := Lib.hid (own_lower (b' := b) (row_obj2 R1 Z (by decide) (.slice PA SA.length cA) (.slice PB SR.length cB)) (by omega))
      have RG := Lib.hid (own_lower (b' := b) (row_obj2 R2 Z (by decide) (.slice PA SA.length cA) (.slice PB SR.length cB)) (by omega))
      have XF := (Z.set 0 (.slice PA SA.length cA)).set 1 (.slice PB SR.length cB)
      have KF := Lib.hid ((K.setCell (p := ⟨b + 1, 0, none⟩) (by simp) (.slice PA SA.length cA)).setCell (p := ⟨b + 1, 1, none⟩) (by simp) (.slice PB SR.length cB))
      have q0 := XF.get (k := 0) (v := .slice PA SA.length cA) (by simp)
      have q1 := XF.get (k := 1) (v := .slice PB SR.length cB) (by simp)
      have HD := Lib.hid ((ckD_iff SA SR).2 ⟨HSA.out, HSR.out.1, fun x hx hr => HSR.out.2 x hr hx⟩)
      clear XF G1 R1 R2 K Z
      go_wp2
      exact bodyPost_ret (v := .agg #[.slice PA SA.length cA, .slice PB SR.length cB]) (by simp [results, Try.results14, go_sem, q0, q1]) rfl ⟨SA, SR, PA, cA, PB, cB, HD.out, hSA, hSR, rfl, by rw [HBB.out]; exact RF.out, by rw [HBB.out]; exact RG.out, by rw [HBB.out]; exact KF.out⟩
end Go.Proofs.Ytjhppkjngifibaa
