/- Layer 23: ordered. -/
import Derived.Test.YtjhppkjngifibaaEU1
import Derived.Test.YtjhppkjngifibaaEI
import Derived.Deep.CutBlock
namespace Go.Proofs.Ytjhppkjngifibaa
open Go.RowKit Go.Lib
set_option linter.unusedVariables false

/-- What ordered hands back: some head in order, of few parts. -/
def ORet (w : World) (e : Ending) (w' : World) : Prop := ∃ o : Hd, Ord o ∧ o.props.length ≤ 20 ∧ o.dels.length ≤ 20 ∧ o.lays.length ≤ 80 ∧ HRet w.heap.size o w e w'
theorem hout {w : World} {base b : Nat} {A B C : Option Addr} {cp cd cl : Nat} {h : Hd} (x : HOwn w base A B C cp cd cl h) (hb : b < base) (i : Nat) (u : Value) : HOwn (w.setCell ⟨b, i, none⟩ u) base A B C cp cd cl h := ⟨row_setO x.p hb i u, row_setO x.d hb i u, row_setO x.l hb i u⟩
theorem hlow {w : World} {base b : Nat} {A B C : Option Addr} {cp cd cl : Nat} {h : Hd} (x : HOwn w base A B C cp cd cl h) (hb : b ≤ base) : HOwn w b A B C cp cd cl h := ⟨own_lower x.p hb, own_lower x.d hb, own_lower x.l hb⟩
theorem srt_snoc {P : List Pr} (hP : Srt P) (x : Pr) (h : ∀ y ∈ P, y.1 < x.1) : Srt (P ++ [x]) := List.pairwise_append.2 ⟨hP, List.pairwise_singleton _ _, fun a ha b hb => by rw [List.mem_singleton] at hb; subst hb; exact h a ha⟩
theorem srt_last {P : List Pr} (hP : Srt P) {n : Nat} (hn : P.length = n + 1) (y : Pr) (hy : y ∈ P) : y.1 ≤ (P[n]'(by omega)).1 := by
  obtain ⟨j, hj, rfl⟩ := List.mem_iff_getElem.1 hy
  rcases Nat.lt_or_ge j n with h | h
  · exact Int.le_of_lt (List.pairwise_iff_getElem.1 hP j n hj (by omega) h)
  · have : j = n := by omega
    subst this; exact Int.le_refl _
abbrev SrtD (l : List Dl) : Prop := l.Pairwise (fun x y => x.rev < y.rev)
theorem srtD_snoc {P : List Dl} (hP : SrtD P) (x : Dl) (h : ∀ y ∈ P, y.rev < x.rev) : SrtD (P ++ [x]) := List.pairwise_append.2 ⟨hP, List.pairwise_singleton _ _, fun a ha b hb => by rw [List.mem_singleton] at hb; subst hb; exact h a ha⟩
theorem srtD_last {P : List Dl} (hP : SrtD P) {n : Nat} (hn : P.length = n + 1) (y : Dl) (hy : y ∈ P) : y.rev ≤ (P[n]'(by omega)).rev := by
  obtain ⟨j, hj, rfl⟩ := List.mem_iff_getElem.1 hy
  rcases Nat.lt_or_ge j n with h | h
  · exact Int.le_of_lt (List.pairwise_iff_getElem.1 hP j n hj (by omega) h)
  · have : j = n := by omega
    subst this; exact Int.le_refl _
theorem srtL_snoc {P : List Ly} (hP : KSrt P) (x : Ly) (h : ∀ y ∈ P, y.key ≤ x.key) : KSrt (P ++ [x]) := List.pairwise_append.2 ⟨hP, List.pairwise_singleton _ _, fun a ha b hb => by rw [List.mem_singleton] at hb; subst hb; exact h a ha⟩
theorem srtL_last {P : List Ly} (hP : KSrt P) {n : Nat} (hn : P.length = n + 1) (y : Ly) (hy : y ∈ P) : y.key ≤ (P[n]'(by omega)).key := by
  obtain ⟨j, hj, rfl⟩ := List.mem_iff_getElem.1 hy
  rcases Nat.lt_or_ge j n with h | h
  · exact List.pairwise_iff_getElem.1 hP j n hj (by omega) h
  · have : j = n := by omega
    subst this; exact Int.le_refl _
set_option maxRecDepth 100000 in
set_option maxHeartbeats 8000000 in
theorem ordered_any (ph : List Pr) (dh : List Dl) (lh : List Ly) (A B C : Option Addr) (np cp nd cd nl cl : Nat) (hi hmv : Int) (w : World) (hp : AtP w A ph) (hd : AtD w B dh) (hl : AtL w C lh) (hnp : ph.length = np) (hnd : dh.length = nd) (hnl : lh.length = nl) (hcp : np ≤ cp ∧ cp ≤ maxLen) (hcd : nd ≤ cd ∧ cd ≤ maxLen) (hcl : nl ≤ cl ∧ cl ≤ maxLen) :
    Calls Try.prog 13 #[hdV A B C np cp nd cd nl cl hi hmv] w (ORet w) := by
  have HP := Lib.hid hp
  have HD := Lib.hid hd
  have HL := Lib.hid hl
  have HNP := Lib.hid hnp
  have HND := Lib.hid hnd
  have HNL := Lib.hid hnl
  unfold maxLen at hcp hcd hcl
  obtain ⟨hcp1, hcp2⟩ := hcp
  obtain ⟨hcd1, hcd2⟩ := hcd
  obtain ⟨hcl1, hcl2⟩ := hcl
  clear hp hd hl hnp hnd hnl
  unfold hdV
  have b0 := (((Below.refl w.heap.size w).alloc (Nat.le_refl _) (.cells #[.slice A np cp, .int .i64 hi, .int .i64 hmv, .slice B nd cd, .slice C nl cl] 28)).alloc (by simp) (.cells #[.slice none 0 0, .int .i64 0, .int .i64 0, .slice none 0 0, .slice none 0 0] 28)).alloc (by simp; omega) (.cells #[.slice none 0 0, .int .i64 hi, .int .i64 hmv, .slice none 0 0, .slice none 0 0] 28)
  have O1 := ((ObjAt.new w #[.slice A np cp, .int .i64 hi, .int .i64 hmv, .slice B nd cd, .slice C nl cl] 28).alloc (.cells #[.slice none 0 0, .int .i64 0, .int .i64 0, .slice none 0 0, .slice none 0 0] 28)).alloc (.cells #[.slice none 0 0, .int .i64 hi, .int .i64 hmv, .slice none 0 0, .slice none 0 0] 28)
  have O2 := (ObjAt.new (w.alloc (.cells #[.slice A np cp, .int .i64 hi, .int .i64 hmv, .slice B nd cd, .slice C nl cl] 28)) #[.slice none 0 0, .int .i64 0, .int .i64 0, .slice none 0 0, .slice none 0 0] 28).alloc (.cells #[.slice none 0 0, .int .i64 hi, .int .i64 hmv, .slice none 0 0, .slice none 0 0] 28)
  have O3 := ObjAt.new ((w.alloc (.cells #[.slice A np cp, .int .i64 hi, .int .i64 hmv, .slice B nd cd, .slice C nl cl] 28)).alloc (.cells #[.slice none 0 0, .int .i64 0, .int .i64 0, .slice none 0 0, .slice none 0 0] 28)) #[.slice none 0 0, .int .i64 hi, .int .i64 hmv, .slice none 0 0, .slice none 0 0] 28
  rw [World.size_alloc] at O2 O3
  rw [World.size_alloc] at O3
  obtain ⟨b, hbb⟩ : ∃ b, w.heap.size = b := ⟨_, rfl⟩
  rw [hbb] at b0 O1 O2 O3
  have HBB := Lib.hid hbb
  have D1 := Lib.hid (show OS w b #[.slice A np cp, .int .i64 hi, .int .i64 hmv, .slice B nd cd, .slice C nl cl] #[.slice none 0 0, .int .i64 hi, .int .i64 hmv, .slice none 0 0, .slice none 0 0] (.slice none 0 0) 0 [] (.slice none 0 0) 0 [] (.slice none 0 0) 0 [] _ from ⟨hbb, b0, O1, O2, O3, World.ownsRow_nil _ _ _ _, World.ownsRow_nil _ _ _ _, World.ownsRow_nil _ _ _ _⟩)
  clear b0 O1 O2 O3
  go_enter Try.func13, Try.ntmps13
  go_upto_region 2 with fail
  clear hbb
  generalize ((w.alloc (.cells #[.slice A np cp, .int .i64 hi, .int .i64 hmv, .slice B nd cd, .slice C nl cl] 28)).alloc (.cells #[.slice none 0 0, .int .i64 0, .int .i64 0, .slice none 0 0, .slice none 0 0] 28)).alloc (.cells #[.slice none 0 0, .int .i64 hi, .int .i64 hmv, .slice none 0 0, .slice none 0 0] 28) = W1 at D1 ⊢
  have z1 := D1.out.o3.get (k := 1) (v := .int .i64 hi) rfl
  go_upto_if 22 with fail
  go_cut [] from 23 (fun wc => ∃ mv : Int, Hid (hi = 0 → mv = 0) ∧ Hid (OS w b #[.slice A np cp, .int .i64 hi, .int .i64 hmv, .slice B nd cd, .slice C nl cl] #[.slice none 0 0, .int .i64 hi, .int .i64 mv, .slice none 0 0, .slice none 0 0] (.slice none 0 0) 0 [] (.slice none 0 0) 0 [] (.slice none 0 0) 0 [] wc))
  case first =>
    have z2 := D1.out.o3.get (k := 2) (v := .int .i64 hmv) rfl
    have f2 := D1.out.o3.frozen 2
    by_cases h0 : hi = 0
    · have e0 : (hi == 0) = true := by simpa using h0
      clear h0
      go_wp2_with fail
      go_meet
      case rel => exact ⟨0, Lib.hid (fun _ => rfl), Lib.hid (D1.out.out 2 (.int .i64 0))⟩
    · have e0 : (hi == 0) = false := neB h0
      have HH0 := Lib.hid h0
      clear h0
      go_wp2_with fail
      go_meet
      case rel => exact ⟨hmv, Lib.hid (fun e => absurd e HH0.out), D1⟩
  case rest =>
    clear D1 z1
    obtain ⟨mv, HMV, Dn1⟩ := hcut
    go_upto_block 0 with fail
    go_cut [4, 5] from 25 to 68 (fun _ _ wc => ∃ (n1 : Nat) (L1 : List Pr) (A1 : Option Addr) (c1 : Nat), n1 ≤ 20 ∧ Hid (L1.length = n1) ∧ Hid (Srt L1) ∧ Hid (OS w b #[.slice A np cp, .int .i64 hi, .int .i64 hmv, .slice B nd cd, .slice C nl cl] #[.slice A1 n1 c1, .int .i64 hi, .int .i64 mv, .slice none 0 0, .slice none 0 0] (.slice A1 n1 c1) n1 (rowP L1) (.slice none 0 0) 0 [] (.slice none 0 0) 0 [] wc))
    case first =>
      go_wp2_with fail
      go_loopw [4, 5] (fun s4 _ wr => ∃ (i n1 : Nat) (L1 : List Pr) (A1 : Option Addr) (c1 : Nat), s4 = .int .i64 (i : Nat) ∧ i ≤ np ∧ n1 ≤ 20 ∧ Hid (L1.length = n1) ∧ Hid (Srt L1) ∧ Hid (OS w b #[.slice A np cp, .int .i64 hi, .int .i64 hmv, .slice B nd cd, .slice C nl cl] #[.slice A1 n1 c1, .int .i64 hi, .int .i64 mv, .slice none 0 0, .slice none 0 0] (.slice A1 n1 c1) n1 (rowP L1) (.slice none 0 0) 0 [] (.slice none 0 0) 0 [] wr)) (fun s4 _ _ => np - (RowKit.intOf s4).toNat)
      case atStart => exact ⟨0, 0, [], none, 0, rfl, Nat.zero_le _, by omega, Lib.hid rfl, Lib.hid List.Pairwise.nil, Dn1⟩
      case round =>
        clear Dn1
        obtain ⟨i, n1, L1, A1, c1, rfl, hin, hn1, HPL, HSR, DR⟩ := hrel
        have a0 := DR.out.o1.get (k := 0) (v := .slice A np cp) rfl
        have p0 := DR.out.o3.get (k := 0) (v := .slice A1 n1 c1) rfl
        by_cases hlt : i < np
        · have e1 : (i : Int) < (np : Int) := by omega
          have e1b : decide ((i : Int) < (np : Int)) = true := decide_eq_true e1
          by_cases h20 : n1 < 20
          · have e2 : (n1 : Int) < 20 := by omega
            have e2b : decide ((n1 : Int) < 20) = true := decide_eq_true e2
            go_wp2_with fail
            obtain ⟨g, o, rfl, hg, hcl⟩ := HP.out.pos (by rw [HNP.out]; omega)
            have hil : i < ph.length := by rw [HNP.out]; exact hlt
            have hxw := hcl i hil
            have z0 := (DR.out.bel.cell (p := ⟨g, o + i * 2, none⟩) (show g < b by have := HBB.out; omega)).trans hxw.1
            have z1 := (DR.out.bel.cell (p := ⟨g, o + i * 2 + 1, none⟩) (show g < b by have := HBB.out; omega)).trans hxw.2
            have f0 : (0 : Int) ≤ (i : Int) := by omega
            clear hcl hxw
            generalize ph[i] = x at z0 z1
            obtain ⟨xa, xb⟩ := x
            dsimp only at z0 z1
            rcases Nat.eq_zero_or_pos n1 with h0 | h0
            · subst h0
              go_quiet (fail)
              go_wp2_with fail
              have HLT := Lib.hid (show ∀ y ∈ L1, y.1 < ((xa, xb) : Pr).1 from fun y hy => by have e : L1 = [] := List.eq_nil_of_length_eq_zero HPL.out; subst e; cases hy)
              have bq := Lib.hid (bdrew (Below.refl wr.heap.size wr) nq)
              generalize wr.drewN nq = V at bq ⊢
              have DV := Lib.hid (DR.out.below bq.out)
              have q0 := (bq.out.cell (p := ⟨g, o + i * 2, none⟩) (World.block_lt_of_cell? wr ⟨g, o + i * 2, none⟩ z0)).trans z0
              have q1 := (bq.out.cell (p := ⟨g, o + i * 2 + 1, none⟩) (World.block_lt_of_cell? wr ⟨g, o + i * 2 + 1, none⟩ z1)).trans z1
              have r0 := DV.out.o1.get (k := 0) (v := .slice (some ⟨g, o, none⟩) np cp) rfl
              have r1 := DV.out.o3.get (k := 0) (v := .slice A1 0 c1) rfl
              have VA := Lib.hid (DV.out.alloc (.cells #[.int .i64 xa, .int .i64 xb] 61))
              have r2 := VA.out.o3.get (k := 0) (v := .slice A1 0 c1) rfl
              have sV := DV.out.sz
              obtain ⟨i0, hi0, hz0, hz1, hz2⟩ := info_parts info61
              clear z0 z1 a0 p0

              go_region_law (first
                | (refine step_append_lies _ (by rfl) _ _ _ (by rfl) (b + 3) 61 i0 (.agg #[.int .i64 0, .int .i64 0]) 2 16 Try.underlying22 hi0 hz0 hz1 hz2 rfl (by decide) _ 0 (rowP L1) (by rfl) (by first | exact VA.out.drew.rp | exact VA.out.rp) ⟨V.heap.size, 0, none⟩ 1 1 [.int .i64 xa, .int .i64 xb] (by rfl) (by rfl) (by exact World.news_of_block (cs := #[.int .i64 xa, .int .i64 xb]) (t := 61) (fr := (0, 0)) (heap_alloc_new V _)) (by simp [Value.oneCell']) (by omega) (by unfold maxLen; omega) (by omega) (by have := VA.out.sz; exact this) (V.heap.size + 1) (by simp) ?_; intro gg cap' w12 hown12 hgrow12 hat12 hlt12; have D12 := Lib.hid (VA.out.drew.appP hown12 hgrow12); have pp0 := D12.out.o3.get (k := 0) (v := .slice A1 0 c1) rfl; have pf0 := D12.out.o3.frozen 0; clear hown12 hgrow12 hat12)
                | fail)
              all_goals
                go_wp2
                go_roundw
                case rel => exact ⟨i + 1, (0 + 1), L1 ++ [(xa, xb)], some ⟨gg, 0, none⟩, cap', by go_num, by omega, by omega, Lib.hid (by rw [List.length_append, HPL.out]; rfl), Lib.hid (srt_snoc HSR.out _ HLT.out), Lib.hid (by rw [rowP_append]; exact D12.out.out 0 (.slice (some ⟨gg, 0, none⟩) (0 + 1) cap'))⟩
                case measure => simp [RowKit.intOf]; omega

            · obtain ⟨k, rfl⟩ : ∃ k, n1 = k + 1 := ⟨n1 - 1, by omega⟩
              have hkl : k < L1.length := by rw [HPL.out]; omega
              have hat := own_atP DR.out.rp HPL.out
              obtain ⟨ga, oo, rfl, hga, hcl⟩ := hat.pos (by omega)
              have yk := (hcl k hkl).1
              have HLS := Lib.hid (srt_last HSR.out HPL.out)
              have f2 : (0 : Int) ≤ (k : Int) := by omega
              have f3 : (k : Int) < (k : Int) + 1 := by omega
              have f4 : ((k : Int) + 1 == 0) = false := neB (by omega)
              have f5 : (k : Int) + 1 - 1 = (k : Int) := by omega
              have f6 : IntKind.i64.wrap ((k : Int) + 1 - 1) = (k : Int) := by rw [IntKind.wrap_i64]; omega
              have f7 : IntKind.i64.wrap (k : Int) = (k : Int) := by rw [IntKind.wrap_i64]; omega
              clear hat hcl hga
              generalize L1[k].1 = y at yk HLS

              by_cases hgt : y < xa
              · have gb : decide (y < xa) = true := decide_eq_true hgt
                have HLT := Lib.hid (show ∀ z ∈ L1, z.1 < ((xa, xb) : Pr).1 from fun z hz => Int.lt_of_le_of_lt (HLS.out z hz) hgt)
                clear hgt HLS
                go_quiet (fail)
                go_wp2_with fail
                have bq := Lib.hid (bdrew (Below.refl wr.heap.size wr) nq)
                generalize wr.drewN nq = V at bq ⊢
                have DV := Lib.hid (DR.out.below bq.out)
                have q0 := (bq.out.cell (p := ⟨g, o + i * 2, none⟩) (World.block_lt_of_cell? wr ⟨g, o + i * 2, none⟩ z0)).trans z0
                have q1 := (bq.out.cell (p := ⟨g, o + i * 2 + 1, none⟩) (World.block_lt_of_cell? wr ⟨g, o + i * 2 + 1, none⟩ z1)).trans z1
                have r0 := DV.out.o1.get (k := 0) (v := .slice (some ⟨g, o, none⟩) np cp) rfl
                have r1 := DV.out.o3.get (k := 0) (v := .slice (some ⟨ga, oo, none⟩) (k + 1) c1) rfl
                have VA := Lib.hid (DV.out.alloc (.cells #[.int .i64 xa, .int .i64 xb] 61))
                have r2 := VA.out.o3.get (k := 0) (v := .slice (some ⟨ga, oo, none⟩) (k + 1) c1) rfl
                have sV := DV.out.sz
                obtain ⟨i0, hi0, hz0, hz1, hz2⟩ := info_parts info61
                clear z0 z1 a0 p0

                go_region_law (first
                  | (refine step_append_lies _ (by rfl) _ _ _ (by rfl) (b + 3) 61 i0 (.agg #[.int .i64 0, .int .i64 0]) 2 16 Try.underlying22 hi0 hz0 hz1 hz2 rfl (by decide) _ (k + 1) (rowP L1) (by rfl) (by first | exact VA.out.drew.rp | exact VA.out.rp) ⟨V.heap.size, 0, none⟩ 1 1 [.int .i64 xa, .int .i64 xb] (by rfl) (by rfl) (by exact World.news_of_block (cs := #[.int .i64 xa, .int .i64 xb]) (t := 61) (fr := (0, 0)) (heap_alloc_new V _)) (by simp [Value.oneCell']) (by omega) (by unfold maxLen; omega) (by omega) (by have := VA.out.sz; exact this) (V.heap.size + 1) (by simp) ?_; intro gg cap' w12 hown12 hgrow12 hat12 hlt12; have D12 := Lib.hid (VA.out.drew.appP hown12 hgrow12); have pp0 := D12.out.o3.get (k := 0) (v := .slice (some ⟨ga, oo, none⟩) (k + 1) c1) rfl; have pf0 := D12.out.o3.frozen 0; clear hown12 hgrow12 hat12)
                  | fail)
                all_goals
                  go_wp2
                  go_roundw
                  case rel => exact ⟨i + 1, ((k + 1) + 1), L1 ++ [(xa, xb)], some ⟨gg, 0, none⟩, cap', by go_num, by omega, by omega, Lib.hid (by rw [List.length_append, HPL.out]; rfl), Lib.hid (srt_snoc HSR.out _ HLT.out), Lib.hid (by rw [rowP_append]; exact D12.out.out 0 (.slice (some ⟨gg, 0, none⟩) ((k + 1) + 1) cap'))⟩
                  case measure => simp [RowKit.intOf]; omega

              · have gb : decide (y < xa) = false := decide_eq_false hgt
                clear hgt HLS
                go_quiet (fail)
                have bq := Lib.hid (bdrew (Below.refl wr.heap.size wr) nq)
                generalize wr.drewN nq = V at bq ⊢
                have DV := Lib.hid (DR.out.below bq.out)
                clear yk z0 z1 a0 p0
                go_wp2_with fail
                go_roundw
                case rel => exact ⟨i + 1, k + 1, L1, some ⟨ga, oo, none⟩, c1, by go_num, by omega, by omega, HPL, HSR, DV⟩
                case measure => simp [RowKit.intOf]; omega

          · have e2 : ¬ (n1 : Int) < 20 := by omega
            have e2b : decide ((n1 : Int) < 20) = false := decide_eq_false e2
            go_wp2_with fail
            go_meet
            case rel => exact ⟨n1, L1, A1, c1, hn1, HPL, HSR, DR⟩
        · have e1 : ¬ (i : Int) < (np : Int) := by omega
          have e1b : decide ((i : Int) < (np : Int)) = false := decide_eq_false e1
          go_wp2_with fail
          go_meet
          case rel => exact ⟨n1, L1, A1, c1, hn1, HPL, HSR, DR⟩
    case rest =>
      clear Dn1
      obtain ⟨n1, L1, A1, c1, hn1, HL1, HS1, Dn2⟩ := hcut
      go_upto_block 2 with fail
      go_cut [6, 7] from 69 to 120 (fun _ _ wc => ∃ (n2 : Nat) (L2 : List Dl) (A2 : Option Addr) (c2 : Nat), n2 ≤ 20 ∧ Hid (L2.length = n2) ∧ Hid (SrtD L2) ∧ Hid (OS w b #[.slice A np cp, .int .i64 hi, .int .i64 hmv, .slice B nd cd, .slice C nl cl] #[.slice A1 n1 c1, .int .i64 hi, .int .i64 mv, .slice A2 n2 c2, .slice none 0 0] (.slice A1 n1 c1) n1 (rowP L1) (.slice A2 n2 c2) n2 (rowD L2) (.slice none 0 0) 0 [] wc))
      case first =>
        go_wp2_with fail
        go_loopw [6, 7] (fun s4 _ wr => ∃ (i n2 : Nat) (L2 : List Dl) (A2 : Option Addr) (c2 : Nat), s4 = .int .i64 (i : Nat) ∧ i ≤ nd ∧ n2 ≤ 20 ∧ Hid (L2.length = n2) ∧ Hid (SrtD L2) ∧ Hid (OS w b #[.slice A np cp, .int .i64 hi, .int .i64 hmv, .slice B nd cd, .slice C nl cl] #[.slice A1 n1 c1, .int .i64 hi, .int .i64 mv, .slice A2 n2 c2, .slice none 0 0] (.slice A1 n1 c1) n1 (rowP L1) (.slice A2 n2 c2) n2 (rowD L2) (.slice none 0 0) 0 [] wr)) (fun s4 _ _ => nd - (RowKit.intOf s4).toNat)
        case atStart => exact ⟨0, 0, [], none, 0, rfl, Nat.zero_le _, by omega, Lib.hid rfl, Lib.hid List.Pairwise.nil, Dn2⟩
        case round =>
          clear Dn2
          obtain ⟨i, n2, L2, A2, c2, rfl, hin, hn1, HPL, HSR, DR⟩ := hrel
          have a0 := DR.out.o1.get (k := 3) (v := .slice B nd cd) rfl
          have p0 := DR.out.o3.get (k := 3) (v := .slice A2 n2 c2) rfl
          by_cases hlt : i < nd
          · have e1 : (i : Int) < (nd : Int) := by omega
            have e1b : decide ((i : Int) < (nd : Int)) = true := decide_eq_true e1
            by_cases h20 : n2 < 20
            · have e2 : (n2 : Int) < 20 := by omega
              have e2b : decide ((n2 : Int) < 20) = true := decide_eq_true e2
              go_wp2_with fail
              obtain ⟨g, o, rfl, hg, hcl⟩ := HD.out.pos (by rw [HND.out]; omega)
              have hil : i < dh.length := by rw [HND.out]; exact hlt
              have hxw := hcl i hil
              have z0 := (DR.out.bel.cell (p := ⟨g, o + i * 2, none⟩) (show g < b by have := HBB.out; omega)).trans hxw.1
              have z1 := (DR.out.bel.cell (p := ⟨g, o + i * 2 + 1, none⟩) (show g < b by have := HBB.out; omega)).trans hxw.2
              have f0 : (0 : Int) ≤ (i : Int) := by omega
              clear hcl hxw
              generalize dh[i] = x at z0 z1
              obtain ⟨xa, xb⟩ := x
              dsimp only at z0 z1
              rcases Nat.eq_zero_or_pos n2 with h0 | h0
              · subst h0
                go_quiet (fail)
                go_wp2_with fail
                have HLT := Lib.hid (show ∀ y ∈ L2, y.rev < (⟨xa, xb⟩ : Dl).rev from fun y hy => by have e : L2 = [] := List.eq_nil_of_length_eq_zero HPL.out; subst e; cases hy)
                have bq := Lib.hid (bdrew (Below.refl wr.heap.size wr) nq)
                generalize wr.drewN nq = V at bq ⊢
                have DV := Lib.hid (DR.out.below bq.out)
                have q0 := (bq.out.cell (p := ⟨g, o + i * 2, none⟩) (World.block_lt_of_cell? wr ⟨g, o + i * 2, none⟩ z0)).trans z0
                have q1 := (bq.out.cell (p := ⟨g, o + i * 2 + 1, none⟩) (World.block_lt_of_cell? wr ⟨g, o + i * 2 + 1, none⟩ z1)).trans z1
                have r0 := DV.out.o1.get (k := 3) (v := .slice (some ⟨g, o, none⟩) nd cd) rfl
                have r1 := DV.out.o3.get (k := 3) (v := .slice A2 0 c2) rfl
                have VA := Lib.hid (DV.out.alloc (.cells #[.int .i64 xa, .int .i64 xb] 59))
                have r2 := VA.out.o3.get (k := 3) (v := .slice A2 0 c2) rfl
                have sV := DV.out.sz
                obtain ⟨i0, hi0, hz0, hz1, hz2⟩ := info_parts info59
                clear z0 z1 a0 p0

                go_region_law (first
                  | (refine step_append_lies _ (by rfl) _ _ _ (by rfl) (b + 3) 59 i0 (.agg #[.int .i64 0, .int .i64 0]) 2 16 Try.underlying23 hi0 hz0 hz1 hz2 rfl (by decide) _ 0 (rowD L2) (by rfl) (by first | exact VA.out.drew.rd | exact VA.out.rd) ⟨V.heap.size, 0, none⟩ 1 1 [.int .i64 xa, .int .i64 xb] (by rfl) (by rfl) (by exact World.news_of_block (cs := #[.int .i64 xa, .int .i64 xb]) (t := 59) (fr := (0, 0)) (heap_alloc_new V _)) (by simp [Value.oneCell']) (by omega) (by unfold maxLen; omega) (by omega) (by have := VA.out.sz; exact this) (V.heap.size + 1) (by simp) ?_; intro gg cap' w12 hown12 hgrow12 hat12 hlt12; have D12 := Lib.hid (VA.out.drew.appD hown12 hgrow12); have pp0 := D12.out.o3.get (k := 3) (v := .slice A2 0 c2) rfl; have pf0 := D12.out.o3.frozen 3; clear hown12 hgrow12 hat12)
                  | fail)
                all_goals
                  go_wp2
                  go_roundw
                  case rel => exact ⟨i + 1, (0 + 1), L2 ++ [⟨xa, xb⟩], some ⟨gg, 0, none⟩, cap', by go_num, by omega, by omega, Lib.hid (by rw [List.length_append, HPL.out]; rfl), Lib.hid (srtD_snoc HSR.out _ HLT.out), Lib.hid (by rw [rowD_append]; exact D12.out.out 3 (.slice (some ⟨gg, 0, none⟩) (0 + 1) cap'))⟩
                  case measure => simp [RowKit.intOf]; omega

              · obtain ⟨k, rfl⟩ : ∃ k, n2 = k + 1 := ⟨n2 - 1, by omega⟩
                have hkl : k < L2.length := by rw [HPL.out]; omega
                have hat := own_atD DR.out.rd HPL.out
                obtain ⟨ga, oo, rfl, hga, hcl⟩ := hat.pos (by omega)
                have yk := (hcl k hkl).1
                have HLS := Lib.hid (srtD_last HSR.out HPL.out)
                have f2 : (0 : Int) ≤ (k : Int) := by omega
                have f3 : (k : Int) < (k : Int) + 1 := by omega
                have f4 : ((k : Int) + 1 == 0) = false := neB (by omega)
                have f5 : (k : Int) + 1 - 1 = (k : Int) := by omega
                have f6 : IntKind.i64.wrap ((k : Int) + 1 - 1) = (k : Int) := by rw [IntKind.wrap_i64]; omega
                have f7 : IntKind.i64.wrap (k : Int) = (k : Int) := by rw [IntKind.wrap_i64]; omega
                clear hat hcl hga
                generalize L2[k].rev = y at yk HLS

                by_cases hgt : y < xa
                · have gb : decide (y < xa) = true := decide_eq_true hgt
                  have HLT := Lib.hid (show ∀ z ∈ L2, z.rev < (⟨xa, xb⟩ : Dl).rev from fun z hz => Int.lt_of_le_of_lt (HLS.out z hz) hgt)
                  clear hgt HLS
                  go_quiet (fail)
                  go_wp2_with fail
                  have bq := Lib.hid (bdrew (Below.refl wr.heap.size wr) nq)
                  generalize wr.drewN nq = V at bq ⊢
                  have DV := Lib.hid (DR.out.below bq.out)
                  have q0 := (bq.out.cell (p := ⟨g, o + i * 2, none⟩) (World.block_lt_of_cell? wr ⟨g, o + i * 2, none⟩ z0)).trans z0
                  have q1 := (bq.out.cell (p := ⟨g, o + i * 2 + 1, none⟩) (World.block_lt_of_cell? wr ⟨g, o + i * 2 + 1, none⟩ z1)).trans z1
                  have r0 := DV.out.o1.get (k := 3) (v := .slice (some ⟨g, o, none⟩) nd cd) rfl
                  have r1 := DV.out.o3.get (k := 3) (v := .slice (some ⟨ga, oo, none⟩) (k + 1) c2) rfl
                  have VA := Lib.hid (DV.out.alloc (.cells #[.int .i64 xa, .int .i64 xb] 59))
                  have r2 := VA.out.o3.get (k := 3) (v := .slice (some ⟨ga, oo, none⟩) (k + 1) c2) rfl
                  have sV := DV.out.sz
                  obtain ⟨i0, hi0, hz0, hz1, hz2⟩ := info_parts info59
                  clear z0 z1 a0 p0

                  go_region_law (first
                    | (refine step_append_lies _ (by rfl) _ _ _ (by rfl) (b + 3) 59 i0 (.agg #[.int .i64 0, .int .i64 0]) 2 16 Try.underlying23 hi0 hz0 hz1 hz2 rfl (by decide) _ (k + 1) (rowD L2) (by rfl) (by first | exact VA.out.drew.rd | exact VA.out.rd) ⟨V.heap.size, 0, none⟩ 1 1 [.int .i64 xa, .int .i64 xb] (by rfl) (by rfl) (by exact World.news_of_block (cs := #[.int .i64 xa, .int .i64 xb]) (t := 59) (fr := (0, 0)) (heap_alloc_new V _)) (by simp [Value.oneCell']) (by omega) (by unfold maxLen; omega) (by omega) (by have := VA.out.sz; exact this) (V.heap.size + 1) (by simp) ?_; intro gg cap' w12 hown12 hgrow12 hat12 hlt12; have D12 := Lib.hid (VA.out.drew.appD hown12 hgrow12); have pp0 := D12.out.o3.get (k := 3) (v := .slice (some ⟨ga, oo, none⟩) (k + 1) c2) rfl; have pf0 := D12.out.o3.frozen 3; clear hown12 hgrow12 hat12)
                    | fail)
                  all_goals
                    go_wp2
                    go_roundw
                    case rel => exact ⟨i + 1, ((k + 1) + 1), L2 ++ [⟨xa, xb⟩], some ⟨gg, 0, none⟩, cap', by go_num, by omega, by omega, Lib.hid (by rw [List.length_append, HPL.out]; rfl), Lib.hid (srtD_snoc HSR.out _ HLT.out), Lib.hid (by rw [rowD_append]; exact D12.out.out 3 (.slice (some ⟨gg, 0, none⟩) ((k + 1) + 1) cap'))⟩
                    case measure => simp [RowKit.intOf]; omega

                · have gb : decide (y < xa) = false := decide_eq_false hgt
                  clear hgt HLS
                  go_quiet (fail)
                  have bq := Lib.hid (bdrew (Below.refl wr.heap.size wr) nq)
                  generalize wr.drewN nq = V at bq ⊢
                  have DV := Lib.hid (DR.out.below bq.out)
                  clear yk z0 z1 a0 p0
                  go_wp2_with fail
                  go_roundw
                  case rel => exact ⟨i + 1, k + 1, L2, some ⟨ga, oo, none⟩, c2, by go_num, by omega, by omega, HPL, HSR, DV⟩
                  case measure => simp [RowKit.intOf]; omega

            · have e2 : ¬ (n2 : Int) < 20 := by omega
              have e2b : decide ((n2 : Int) < 20) = false := decide_eq_false e2
              go_wp2_with fail
              go_meet
              case rel => exact ⟨n2, L2, A2, c2, hn1, HPL, HSR, DR⟩
          · have e1 : ¬ (i : Int) < (nd : Int) := by omega
            have e1b : decide ((i : Int) < (nd : Int)) = false := decide_eq_false e1
            go_wp2_with fail
            go_meet
            case rel => exact ⟨n2, L2, A2, c2, hn1, HPL, HSR, DR⟩
      case rest =>
        clear Dn2
        obtain ⟨n2, L2, A2, c2, hn2, HL2, HS2, Dn3⟩ := hcut
        go_upto_block 4 with fail
        go_cut [8, 10, 9] from 121 to 172 (fun _ _ _ wc => ∃ (n3 : Nat) (L3 : List Ly) (A3 : Option Addr) (c3 : Nat), n3 ≤ 80 ∧ Hid (L3.length = n3) ∧ Hid (KSrt L3) ∧ Hid (∀ x ∈ L3, Nst (stOf x)) ∧ Hid (OS w b #[.slice A np cp, .int .i64 hi, .int .i64 hmv, .slice B nd cd, .slice C nl cl] #[.slice A1 n1 c1, .int .i64 hi, .int .i64 mv, .slice A2 n2 c2, .slice A3 n3 c3] (.slice A1 n1 c1) n1 (rowP L1) (.slice A2 n2 c2) n2 (rowD L2) (.slice A3 n3 c3) n3 (rowL L3) wc))
        case first =>
          go_wp2_with fail
          go_loopw [8, 10, 9] (fun s4 _ _ wr => ∃ (i n3 : Nat) (L3 : List Ly) (A3 : Option Addr) (c3 : Nat), s4 = .int .i64 (i : Nat) ∧ i ≤ nl ∧ n3 ≤ 80 ∧ Hid (L3.length = n3) ∧ Hid (KSrt L3) ∧ Hid (∀ x ∈ L3, Nst (stOf x)) ∧ Hid (OS w b #[.slice A np cp, .int .i64 hi, .int .i64 hmv, .slice B nd cd, .slice C nl cl] #[.slice A1 n1 c1, .int .i64 hi, .int .i64 mv, .slice A2 n2 c2, .slice A3 n3 c3] (.slice A1 n1 c1) n1 (rowP L1) (.slice A2 n2 c2) n2 (rowD L2) (.slice A3 n3 c3) n3 (rowL L3) wr)) (fun s4 _ _ _ => nl - (RowKit.intOf s4).toNat)
          case atStart => exact ⟨0, 0, [], none, 0, rfl, Nat.zero_le _, by omega, Lib.hid rfl, Lib.hid List.Pairwise.nil, Lib.hid (fun x hx => by cases hx), Dn3⟩
          case round =>
            clear Dn3
            obtain ⟨i, n3, L3, A3, c3, rfl, hin, hn1, HPL, HSR, HNS, DR⟩ := hrel
            have a0 := DR.out.o1.get (k := 4) (v := .slice C nl cl) rfl
            have p0 := DR.out.o3.get (k := 4) (v := .slice A3 n3 c3) rfl
            by_cases hlt : i < nl
            · have e1 : (i : Int) < (nl : Int) := by omega
              have e1b : decide ((i : Int) < (nl : Int)) = true := decide_eq_true e1
              by_cases h20 : n3 < 80
              · have e2 : (n3 : Int) < 80 := by omega
                have e2b : decide ((n3 : Int) < 80) = true := decide_eq_true e2
                go_upto_region 19 with fail
                obtain ⟨g, o, rfl, hg, hcl⟩ := HL.out.pos (by rw [HNL.out]; omega)
                have hil : i < lh.length := by rw [HNL.out]; exact hlt
                have hxw := hcl i hil
                have z0 := (DR.out.bel.cell (p := ⟨g, o + i * 4, none⟩) (show g < b by have := HBB.out; omega)).trans hxw.1
                have z1 := (DR.out.bel.cell (p := ⟨g, o + i * 4 + 1, none⟩) (show g < b by have := HBB.out; omega)).trans hxw.2.1
                have z2 := (DR.out.bel.cell (p := ⟨g, o + i * 4 + 2, none⟩) (show g < b by have := HBB.out; omega)).trans hxw.2.2.1
                have z3 := (DR.out.bel.cell (p := ⟨g, o + i * 4 + 3, none⟩) (show g < b by have := HBB.out; omega)).trans hxw.2.2.2
                have f0 : (0 : Int) ≤ (i : Int) := by omega
                clear hcl hxw
                generalize lh[i] = x at z0 z1 z2 z3
                obtain ⟨xa, xb, xc, xd⟩ := x
                dsimp only at z0 z1 z2 z3
                cases xd
                · go_upto_region 22 with fail
                  have HXN := Lib.hid (show Nst (stOf (⟨xa, xb, 0, false⟩ : Ly)) from fun _ => rfl)
                  have OV := Lib.hid (ObjAt.new wr #[.int .i64 xa, .int .i64 xb, .int .i64 0, .bool false] 74)
                  have DV := Lib.hid (DR.out.alloc (.cells #[.int .i64 xa, .int .i64 xb, .int .i64 0, .bool false] 74))
                  obtain ⟨W0, hW0⟩ : ∃ W0, wr.alloc (.cells #[.int .i64 xa, .int .i64 xb, .int .i64 0, .bool false] 74) = W0 := ⟨_, rfl⟩
                  rw [hW0] at OV DV ⊢
                  have sW : wr.heap.size < W0.heap.size := by rw [← hW0]; simp
                  clear hW0 z0 z1 z2 z3 a0 p0
                  obtain ⟨xd, hxd⟩ : ∃ xd, xd = false := ⟨_, rfl⟩
                  obtain ⟨xc, hxc⟩ : ∃ xc : Int, xc = 0 := ⟨_, rfl⟩
                  rw [← hxc] at OV HXN
                  rw [← hxd] at OV HXN
                  clear hxd hxc

                  have p0 := DV.out.o3.get (k := 4) (v := .slice A3 n3 c3) rfl
                  have k0 := OV.out.get (k := 1) (v := .int .i64 xb) rfl
                  rcases Nat.eq_zero_or_pos n3 with h0 | h0
                  · subst h0
                    go_wp2_with fail
                    go_quiet (fail)
                    go_upto_region 24 with fail
                    have HLT := Lib.hid (show ∀ y ∈ L3, y.key ≤ (⟨xa, xb, xc, xd⟩ : Ly).key from fun y hy => by have e : L3 = [] := List.eq_nil_of_length_eq_zero HPL.out; subst e; cases hy)
                    have bq := Lib.hid (bdrew (Below.refl W0.heap.size W0) nq)
                    generalize W0.drewN nq = V at bq ⊢
                    have DX := Lib.hid (DV.out.below bq.out)
                    have OX := Lib.hid (OV.out.below bq.out)
                    have q0 := OX.out.get (k := 0) (v := .int .i64 xa) rfl
                    have q1 := OX.out.get (k := 1) (v := .int .i64 xb) rfl
                    have q2 := OX.out.get (k := 2) (v := .int .i64 xc) rfl
                    have q3 := OX.out.get (k := 3) (v := .bool xd) rfl
                    have r1 := DX.out.o3.get (k := 4) (v := .slice A3 0 c3) rfl
                    have VA := Lib.hid (DX.out.alloc (.cells #[.int .i64 xa, .int .i64 xb, .int .i64 xc, .bool xd] 74))
                    have r2 := VA.out.o3.get (k := 4) (v := .slice A3 0 c3) rfl
                    have sV := DX.out.sz
                    obtain ⟨i0, hi0, hz0, hz1, hz2⟩ := info_parts info74
                    clear p0 k0

                    go_wp2_with (at_builtin; refine wpList_append_own _ rfl _ _ 24 rfl (b + 3) 74 i0 (.agg #[.int .i64 0, .int .i64 0, .int .i64 0, .bool false]) 4 32 Try.underlying24 hi0 hz0 hz1 hz2 rfl (by decide) _ 0 (rowL L3) rfl VA.out.rl ⟨V.heap.size, 0, none⟩ 1 1 [.int .i64 xa, .int .i64 xb, .int .i64 xc, .bool xd] rfl rfl (by exact World.news_of_block (cs := #[.int .i64 xa, .int .i64 xb, .int .i64 xc, .bool xd]) (t := 74) (fr := (0, 0)) (heap_alloc_new V _)) (by simp [Value.oneCell']) (by unfold maxLen; omega) (by omega) (by have := VA.out.sz; exact this) ?_; intro v1 w12 hown12 hgrow12 _; obtain ⟨gg, cap', rfl⟩ := ownsRow_succ hown12; have D12 := Lib.hid (VA.out.appL hown12 hgrow12); have pp0 := D12.out.o3.get (k := 4) (v := .slice A3 0 c3) rfl; have pf0 := D12.out.o3.frozen 4; clear hown12 hgrow12)
                    all_goals
                      go_wp2
                      go_roundw
                      case rel => exact ⟨i + 1, (0 + 1), L3 ++ [⟨xa, xb, xc, xd⟩], some ⟨gg, 0, none⟩, cap', by go_num, by omega, by omega, Lib.hid (by rw [List.length_append, HPL.out]; rfl), Lib.hid (srtL_snoc HSR.out _ HLT.out), Lib.hid (fun z hz => (List.mem_append.1 hz).elim (HNS.out z) (fun hz => by rw [List.mem_singleton] at hz; subst hz; exact HXN.out)), Lib.hid (by rw [rowL_append]; exact D12.out.out 4 (.slice (some ⟨gg, 0, none⟩) (0 + 1) cap'))⟩
                      case measure => simp [RowKit.intOf]; omega

                  · obtain ⟨k, rfl⟩ : ∃ k, n3 = k + 1 := ⟨n3 - 1, by omega⟩
                    have hkl : k < L3.length := by rw [HPL.out]; omega
                    have hat := own_atL DV.out.rl HPL.out
                    obtain ⟨ga, oo, rfl, hga, hcl⟩ := hat.pos (by omega)
                    have yk := (hcl k hkl).2.1
                    have HLS := Lib.hid (srtL_last HSR.out HPL.out)
                    have f2 : (0 : Int) ≤ (k : Int) := by omega
                    have f3 : (k : Int) < (k : Int) + 1 := by omega
                    have f4 : ((k : Int) + 1 == 0) = false := neB (by omega)
                    have f5 : (k : Int) + 1 - 1 = (k : Int) := by omega
                    have f6 : IntKind.i64.wrap ((k : Int) + 1 - 1) = (k : Int) := by rw [IntKind.wrap_i64]; omega
                    have f7 : IntKind.i64.wrap (k : Int) = (k : Int) := by rw [IntKind.wrap_i64]; omega
                    clear hat hcl hga
                    generalize L3[k].key = y at yk HLS

                    by_cases hgt : y ≤ xb
                    · have gb : decide (y ≤ xb) = true := decide_eq_true hgt
                      have HLT := Lib.hid (show ∀ z ∈ L3, z.key ≤ (⟨xa, xb, xc, xd⟩ : Ly).key from fun z hz => Int.le_trans (HLS.out z hz) hgt)
                      clear hgt HLS
                      go_wp2_with fail
                      go_quiet (fail)
                      go_upto_region 24 with fail
                      have bq := Lib.hid (bdrew (Below.refl W0.heap.size W0) nq)
                      generalize W0.drewN nq = V at bq ⊢
                      have DX := Lib.hid (DV.out.below bq.out)
                      have OX := Lib.hid (OV.out.below bq.out)
                      have q0 := OX.out.get (k := 0) (v := .int .i64 xa) rfl
                      have q1 := OX.out.get (k := 1) (v := .int .i64 xb) rfl
                      have q2 := OX.out.get (k := 2) (v := .int .i64 xc) rfl
                      have q3 := OX.out.get (k := 3) (v := .bool xd) rfl
                      have r1 := DX.out.o3.get (k := 4) (v := .slice (some ⟨ga, oo, none⟩) (k + 1) c3) rfl
                      have VA := Lib.hid (DX.out.alloc (.cells #[.int .i64 xa, .int .i64 xb, .int .i64 xc, .bool xd] 74))
                      have r2 := VA.out.o3.get (k := 4) (v := .slice (some ⟨ga, oo, none⟩) (k + 1) c3) rfl
                      have sV := DX.out.sz
                      obtain ⟨i0, hi0, hz0, hz1, hz2⟩ := info_parts info74
                      clear p0 k0

                      go_wp2_with (at_builtin; refine wpList_append_own _ rfl _ _ 24 rfl (b + 3) 74 i0 (.agg #[.int .i64 0, .int .i64 0, .int .i64 0, .bool false]) 4 32 Try.underlying24 hi0 hz0 hz1 hz2 rfl (by decide) _ (k + 1) (rowL L3) rfl VA.out.rl ⟨V.heap.size, 0, none⟩ 1 1 [.int .i64 xa, .int .i64 xb, .int .i64 xc, .bool xd] rfl rfl (by exact World.news_of_block (cs := #[.int .i64 xa, .int .i64 xb, .int .i64 xc, .bool xd]) (t := 74) (fr := (0, 0)) (heap_alloc_new V _)) (by simp [Value.oneCell']) (by unfold maxLen; omega) (by omega) (by have := VA.out.sz; exact this) ?_; intro v1 w12 hown12 hgrow12 _; obtain ⟨gg, cap', rfl⟩ := ownsRow_succ hown12; have D12 := Lib.hid (VA.out.appL hown12 hgrow12); have pp0 := D12.out.o3.get (k := 4) (v := .slice (some ⟨ga, oo, none⟩) (k + 1) c3) rfl; have pf0 := D12.out.o3.frozen 4; clear hown12 hgrow12)
                      all_goals
                        go_wp2
                        go_roundw
                        case rel => exact ⟨i + 1, ((k + 1) + 1), L3 ++ [⟨xa, xb, xc, xd⟩], some ⟨gg, 0, none⟩, cap', by go_num, by omega, by omega, Lib.hid (by rw [List.length_append, HPL.out]; rfl), Lib.hid (srtL_snoc HSR.out _ HLT.out), Lib.hid (fun z hz => (List.mem_append.1 hz).elim (HNS.out z) (fun hz => by rw [List.mem_singleton] at hz; subst hz; exact HXN.out)), Lib.hid (by rw [rowL_append]; exact D12.out.out 4 (.slice (some ⟨gg, 0, none⟩) ((k + 1) + 1) cap'))⟩
                        case measure => simp [RowKit.intOf]; omega

                    · have gb : decide (y ≤ xb) = false := decide_eq_false hgt
                      clear hgt HLS
                      go_wp2_with fail
                      go_quiet (fail)
                      have bq := Lib.hid (bdrew (Below.refl W0.heap.size W0) nq)
                      generalize W0.drewN nq = V at bq ⊢
                      have DX := Lib.hid (DV.out.below bq.out)
                      clear yk p0 k0
                      go_wp2_with fail
                      go_roundw
                      case rel => exact ⟨i + 1, k + 1, L3, some ⟨ga, oo, none⟩, c3, by go_num, by omega, by omega, HPL, HSR, HNS, DX⟩
                      case measure => simp [RowKit.intOf]; omega

                · go_upto_region 22 with fail
                  have HXN := Lib.hid (show Nst (stOf (⟨xa, xb, xc, true⟩ : Ly)) from fun e => by cases e)
                  have OV := Lib.hid (ObjAt.new wr #[.int .i64 xa, .int .i64 xb, .int .i64 xc, .bool true] 74)
                  have DV := Lib.hid (DR.out.alloc (.cells #[.int .i64 xa, .int .i64 xb, .int .i64 xc, .bool true] 74))
                  obtain ⟨W0, hW0⟩ : ∃ W0, wr.alloc (.cells #[.int .i64 xa, .int .i64 xb, .int .i64 xc, .bool true] 74) = W0 := ⟨_, rfl⟩
                  rw [hW0] at OV DV ⊢
                  have sW : wr.heap.size < W0.heap.size := by rw [← hW0]; simp
                  clear hW0 z0 z1 z2 z3 a0 p0
                  obtain ⟨xd, hxd⟩ : ∃ xd, xd = true := ⟨_, rfl⟩
                  rw [← hxd] at OV HXN
                  clear hxd

                  have p0 := DV.out.o3.get (k := 4) (v := .slice A3 n3 c3) rfl
                  have k0 := OV.out.get (k := 1) (v := .int .i64 xb) rfl
                  rcases Nat.eq_zero_or_pos n3 with h0 | h0
                  · subst h0
                    go_wp2_with fail
                    go_quiet (fail)
                    go_upto_region 24 with fail
                    have HLT := Lib.hid (show ∀ y ∈ L3, y.key ≤ (⟨xa, xb, xc, xd⟩ : Ly).key from fun y hy => by have e : L3 = [] := List.eq_nil_of_length_eq_zero HPL.out; subst e; cases hy)
                    have bq := Lib.hid (bdrew (Below.refl W0.heap.size W0) nq)
                    generalize W0.drewN nq = V at bq ⊢
                    have DX := Lib.hid (DV.out.below bq.out)
                    have OX := Lib.hid (OV.out.below bq.out)
                    have q0 := OX.out.get (k := 0) (v := .int .i64 xa) rfl
                    have q1 := OX.out.get (k := 1) (v := .int .i64 xb) rfl
                    have q2 := OX.out.get (k := 2) (v := .int .i64 xc) rfl
                    have q3 := OX.out.get (k := 3) (v := .bool xd) rfl
                    have r1 := DX.out.o3.get (k := 4) (v := .slice A3 0 c3) rfl
                    have VA := Lib.hid (DX.out.alloc (.cells #[.int .i64 xa, .int .i64 xb, .int .i64 xc, .bool xd] 74))
                    have r2 := VA.out.o3.get (k := 4) (v := .slice A3 0 c3) rfl
                    have sV := DX.out.sz
                    obtain ⟨i0, hi0, hz0, hz1, hz2⟩ := info_parts info74
                    clear p0 k0

                    go_wp2_with (at_builtin; refine wpList_append_own _ rfl _ _ 24 rfl (b + 3) 74 i0 (.agg #[.int .i64 0, .int .i64 0, .int .i64 0, .bool false]) 4 32 Try.underlying24 hi0 hz0 hz1 hz2 rfl (by decide) _ 0 (rowL L3) rfl VA.out.rl ⟨V.heap.size, 0, none⟩ 1 1 [.int .i64 xa, .int .i64 xb, .int .i64 xc, .bool xd] rfl rfl (by exact World.news_of_block (cs := #[.int .i64 xa, .int .i64 xb, .int .i64 xc, .bool xd]) (t := 74) (fr := (0, 0)) (heap_alloc_new V _)) (by simp [Value.oneCell']) (by unfold maxLen; omega) (by omega) (by have := VA.out.sz; exact this) ?_; intro v1 w12 hown12 hgrow12 _; obtain ⟨gg, cap', rfl⟩ := ownsRow_succ hown12; have D12 := Lib.hid (VA.out.appL hown12 hgrow12); have pp0 := D12.out.o3.get (k := 4) (v := .slice A3 0 c3) rfl; have pf0 := D12.out.o3.frozen 4; clear hown12 hgrow12)
                    all_goals
                      go_wp2
                      go_roundw
                      case rel => exact ⟨i + 1, (0 + 1), L3 ++ [⟨xa, xb, xc, xd⟩], some ⟨gg, 0, none⟩, cap', by go_num, by omega, by omega, Lib.hid (by rw [List.length_append, HPL.out]; rfl), Lib.hid (srtL_snoc HSR.out _ HLT.out), Lib.hid (fun z hz => (List.mem_append.1 hz).elim (HNS.out z) (fun hz => by rw [List.mem_singleton] at hz; subst hz; exact HXN.out)), Lib.hid (by rw [rowL_append]; exact D12.out.out 4 (.slice (some ⟨gg, 0, none⟩) (0 + 1) cap'))⟩
                      case measure => simp [RowKit.intOf]; omega

                  · obtain ⟨k, rfl⟩ : ∃ k, n3 = k + 1 := ⟨n3 - 1, by omega⟩
                    have hkl : k < L3.length := by rw [HPL.out]; omega
                    have hat := own_atL DV.out.rl HPL.out
                    obtain ⟨ga, oo, rfl, hga, hcl⟩ := hat.pos (by omega)
                    have yk := (hcl k hkl).2.1
                    have HLS := Lib.hid (srtL_last HSR.out HPL.out)
                    have f2 : (0 : Int) ≤ (k : Int) := by omega
                    have f3 : (k : Int) < (k : Int) + 1 := by omega
                    have f4 : ((k : Int) + 1 == 0) = false := neB (by omega)
                    have f5 : (k : Int) + 1 - 1 = (k : Int) := by omega
                    have f6 : IntKind.i64.wrap ((k : Int) + 1 - 1) = (k : Int) := by rw [IntKind.wrap_i64]; omega
                    have f7 : IntKind.i64.wrap (k : Int) = (k : Int) := by rw [IntKind.wrap_i64]; omega
                    clear hat hcl hga
                    generalize L3[k].key = y at yk HLS

                    by_cases hgt : y ≤ xb
                    · have gb : decide (y ≤ xb) = true := decide_eq_true hgt
                      have HLT := Lib.hid (show ∀ z ∈ L3, z.key ≤ (⟨xa, xb, xc, xd⟩ : Ly).key from fun z hz => Int.le_trans (HLS.out z hz) hgt)
                      clear hgt HLS
                      go_wp2_with fail
                      go_quiet (fail)
                      go_upto_region 24 with fail
                      have bq := Lib.hid (bdrew (Below.refl W0.heap.size W0) nq)
                      generalize W0.drewN nq = V at bq ⊢
                      have DX := Lib.hid (DV.out.below bq.out)
                      have OX := Lib.hid (OV.out.below bq.out)
                      have q0 := OX.out.get (k := 0) (v := .int .i64 xa) rfl
                      have q1 := OX.out.get (k := 1) (v := .int .i64 xb) rfl
                      have q2 := OX.out.get (k := 2) (v := .int .i64 xc) rfl
                      have q3 := OX.out.get (k := 3) (v := .bool xd) rfl
                      have r1 := DX.out.o3.get (k := 4) (v := .slice (some ⟨ga, oo, none⟩) (k + 1) c3) rfl
                      have VA := Lib.hid (DX.out.alloc (.cells #[.int .i64 xa, .int .i64 xb, .int .i64 xc, .bool xd] 74))
                      have r2 := VA.out.o3.get (k := 4) (v := .slice (some ⟨ga, oo, none⟩) (k + 1) c3) rfl
                      have sV := DX.out.sz
                      obtain ⟨i0, hi0, hz0, hz1, hz2⟩ := info_parts info74
                      clear p0 k0

                      go_wp2_with (at_builtin; refine wpList_append_own _ rfl _ _ 24 rfl (b + 3) 74 i0 (.agg #[.int .i64 0, .int .i64 0, .int .i64 0, .bool false]) 4 32 Try.underlying24 hi0 hz0 hz1 hz2 rfl (by decide) _ (k + 1) (rowL L3) rfl VA.out.rl ⟨V.heap.size, 0, none⟩ 1 1 [.int .i64 xa, .int .i64 xb, .int .i64 xc, .bool xd] rfl rfl (by exact World.news_of_block (cs := #[.int .i64 xa, .int .i64 xb, .int .i64 xc, .bool xd]) (t := 74) (fr := (0, 0)) (heap_alloc_new V _)) (by simp [Value.oneCell']) (by unfold maxLen; omega) (by omega) (by have := VA.out.sz; exact this) ?_; intro v1 w12 hown12 hgrow12 _; obtain ⟨gg, cap', rfl⟩ := ownsRow_succ hown12; have D12 := Lib.hid (VA.out.appL hown12 hgrow12); have pp0 := D12.out.o3.get (k := 4) (v := .slice (some ⟨ga, oo, none⟩) (k + 1) c3) rfl; have pf0 := D12.out.o3.frozen 4; clear hown12 hgrow12)
                      all_goals
                        go_wp2
                        go_roundw
                        case rel => exact ⟨i + 1, ((k + 1) + 1), L3 ++ [⟨xa, xb, xc, xd⟩], some ⟨gg, 0, none⟩, cap', by go_num, by omega, by omega, Lib.hid (by rw [List.length_append, HPL.out]; rfl), Lib.hid (srtL_snoc HSR.out _ HLT.out), Lib.hid (fun z hz => (List.mem_append.1 hz).elim (HNS.out z) (fun hz => by rw [List.mem_singleton] at hz; subst hz; exact HXN.out)), Lib.hid (by rw [rowL_append]; exact D12.out.out 4 (.slice (some ⟨gg, 0, none⟩) ((k + 1) + 1) cap'))⟩
                        case measure => simp [RowKit.intOf]; omega

                    · have gb : decide (y ≤ xb) = false := decide_eq_false hgt
                      clear hgt HLS
                      go_wp2_with fail
                      go_quiet (fail)
                      have bq := Lib.hid (bdrew (Below.refl W0.heap.size W0) nq)
                      generalize W0.drewN nq = V at bq ⊢
                      have DX := Lib.hid (DV.out.below bq.out)
                      clear yk p0 k0
                      go_wp2_with fail
                      go_roundw
                      case rel => exact ⟨i + 1, k + 1, L3, some ⟨ga, oo, none⟩, c3, by go_num, by omega, by omega, HPL, HSR, HNS, DX⟩
                      case measure => simp [RowKit.intOf]; omega


              · have e2 : ¬ (n3 : Int) < 80 := by omega
                have e2b : decide ((n3 : Int) < 80) = false := decide_eq_false e2
                go_wp2_with fail
                go_meet
                case rel => exact ⟨n3, L3, A3, c3, hn1, HPL, HSR, HNS, DR⟩
            · have e1 : ¬ (i : Int) < (nl : Int) := by omega
              have e1b : decide ((i : Int) < (nl : Int)) = false := decide_eq_false e1
              go_wp2_with fail
              go_meet
              case rel => exact ⟨n3, L3, A3, c3, hn1, HPL, HSR, HNS, DR⟩
        case rest =>
          clear Dn3
          obtain ⟨n3, L3, A3, c3, hn3, HL3, HS3, HNS, Dn4⟩ := hcut
          obtain rfl := HL1.out
          obtain rfl := HL2.out
          obtain rfl := HL3.out
          have m0 := Dn4.out.o3.get (k := 0) (v := .slice A1 L1.length c1) rfl
          have m1 := Dn4.out.o3.get (k := 1) (v := .int .i64 hi) rfl
          have m2 := Dn4.out.o3.get (k := 2) (v := .int .i64 mv) rfl
          have m3 := Dn4.out.o3.get (k := 3) (v := .slice A2 L2.length c2) rfl
          have m4 := Dn4.out.o3.get (k := 4) (v := .slice A3 L3.length c3) rfl
          have x0 := Dn4.out.o2.get (k := 0) (v := .slice none 0 0) rfl
          have x1 := Dn4.out.o2.get (k := 1) (v := .int .i64 0) rfl
          have x2 := Dn4.out.o2.get (k := 2) (v := .int .i64 0) rfl
          have x3 := Dn4.out.o2.get (k := 3) (v := .slice none 0 0) rfl
          have x4 := Dn4.out.o2.get (k := 4) (v := .slice none 0 0) rfl
          have u0 := Dn4.out.o2.frozen 0
          have u1 := Dn4.out.o2.frozen 1
          have u2 := Dn4.out.o2.frozen 2
          have u3 := Dn4.out.o2.frozen 3
          have u4 := Dn4.out.o2.frozen 4
          have HO := Lib.hid (show HOwn wc (b + 3) A1 A2 A3 c1 c2 c3 ⟨L1, hi, mv, L2, L3⟩ from ⟨Dn4.out.rp, Dn4.out.rd, Dn4.out.rl⟩)
          have HK := Lib.hid Dn4.out.bel
          have XF := (((((Dn4.out.o2.set 0 (.slice A1 L1.length c1)).set 1 (.int .i64 hi)).set 2 (.int .i64 mv)).set 3 (.slice A2 L2.length c2)).set 4 (.slice A3 L3.length c3))
          have YF := Lib.hid (hout (hout (hout (hout (hout HO.out (b := b + 1) (by omega) 0 (.slice A1 L1.length c1)) (b := b + 1) (by omega) 1 (.int .i64 hi)) (b := b + 1) (by omega) 2 (.int .i64 mv)) (b := b + 1) (by omega) 3 (.slice A2 L2.length c2)) (b := b + 1) (by omega) 4 (.slice A3 L3.length c3))
          have KF := Lib.hid (((((HK.out.setCell (p := ⟨b + 1, 0, none⟩) (by simp) (.slice A1 L1.length c1)).setCell (p := ⟨b + 1, 1, none⟩) (by simp) (.int .i64 hi)).setCell (p := ⟨b + 1, 2, none⟩) (by simp) (.int .i64 mv)).setCell (p := ⟨b + 1, 3, none⟩) (by simp) (.slice A2 L2.length c2)).setCell (p := ⟨b + 1, 4, none⟩) (by simp) (.slice A3 L3.length c3))
          have q0 := XF.get (k := 0) (v := .slice A1 L1.length c1) (by simp)
          have q1 := XF.get (k := 1) (v := .int .i64 hi) (by simp)
          have q2 := XF.get (k := 2) (v := .int .i64 mv) (by simp)
          have q3 := XF.get (k := 3) (v := .slice A2 L2.length c2) (by simp)
          have q4 := XF.get (k := 4) (v := .slice A3 L3.length c3) (by simp)
          clear XF HO HK
          go_wp2
          exact bodyPost_ret (v := .agg #[.slice A1 L1.length c1, .int .i64 hi, .int .i64 mv, .slice A2 L2.length c2, .slice A3 L3.length c3]) (by simp [results, Try.results13, go_sem, q0, q1, q2, q3, q4]) rfl ⟨⟨L1, hi, mv, L2, L3⟩, ⟨HS1.out, HS2.out, HS3.out, HNS.out, HMV.out⟩, hn1, hn2, hn3, A1, A2, A3, c1, c2, c3, rfl, hlow YF.out (by have := HBB.out; omega), by rw [HBB.out]; exact KF.out⟩
end Go.Proofs.Ytjhppkjngifibaa
