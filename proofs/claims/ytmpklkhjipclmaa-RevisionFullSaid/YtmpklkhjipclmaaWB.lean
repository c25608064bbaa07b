/- Layer 22: the law of the full table (7). -/
import Derived.Test.YtmpklkhjipclmaaWA
import Derived.Deep.AppendLies
import Derived.Deep.RegionHeld3
namespace Go.Proofs.Ytmpklkhjipclmaa
open Go.RowKit Go.Lib
set_option linter.unusedVariables false

theorem belowA {W U : World} {o : Obj} (h : Below W.heap.size W U) : Below W.heap.size W (U.alloc o) := h.alloc h.size o
theorem step_app {ops : Array Oper} {o : Oper} {a : Act} {K : Act → World → Prop} {Q : Exit → Act → World → Prop} {E : Prop} {W U : World} (hU : Below W.heap.size W U) (hw : Region.wanted o (yielded ops a.tmps) = true) (s x : Operand)
    (ho : o.op = .call { callee := .builtin .append, args := #[s, x], argTypes := #[24, 24] }) (B cap0 n : Nat) (L : List Rv) (hs : a.eval s = .slice (some ⟨B, 0, none⟩) n cap0) (hown : U.ownsRow W.heap.size 23 3 (.slice (some ⟨B, 0, none⟩) n cap0) n (rowR L))
    (ad : Addr) (m c : Nat) (M : List Rv) (hM : M.length = m) (hx : a.eval x = .slice (some ad) m c) (hnews : ∀ j u, (rowR M)[j]? = some u → U.cell? (ad.add j) = some u) (hm : 0 < m) (hb : n + m ≤ 1000) (p : Nat) (hp : n + m = p)
    (h : ∀ g cap U', U'.ownsRow W.heap.size 23 3 (.slice (some ⟨g, 0, none⟩) p cap) p (rowR (L ++ M)) → Below W.heap.size W U' → U.grownBy U' (some B) → K (a.put o.dst (.slice (some ⟨g, 0, none⟩) p cap)) U') :
    if Region.wanted o (yielded ops a.tmps) = true then Oper.wp Try.prog o a U K Q else E := by
  obtain ⟨i0, hi, hz0, hz1, hz2⟩ := info_parts info23
  subst hp
  rw [if_pos hw]
  refine wp_append_lies U s x 24 ho W.heap.size 23 i0 (.agg #[.int .i64 0, .string ByteArray.empty, .int .i64 0]) 3 32 Try.underlying24 hi hz0 hz1 hz2 rfl (by decide) _ n (rowR L) hs hown ad m c (rowR M) hx (by rw [rowR_len, hM]) hnews (rowR_one _) hm (by unfold maxLen; omega) (by omega) hU.size _ rfl ?_
  intro g cap U' h1 h2 h3 h4
  exact h g cap U' (by rw [rowR_append]; exact h1) (hU.grown h2 hU.size (fun k e => (hown.lt k e).1)) h2
theorem made_row {W U : World} (hU : Below W.heap.size W U) : (U.alloc (.cells #[] 23)).ownsRow W.heap.size 23 3 (.slice (some ⟨U.heap.size, 0, none⟩) 0 0) 0 (rowR []) :=
  World.ownsRow_made U #[] 0 hU.size (Nat.zero_le _) (by simp)
theorem row_own {w : World} {base n g c : Nat} {l : List Rv} (h : w.ownsRow base 23 3 (.slice (some ⟨g, 0, none⟩) n c) n (rowR l)) (hl : l.length = n) : RsAt w (some ⟨g, 0, none⟩) l := by
  obtain ⟨A2, c2, e2, _, _, h3⟩ := row_rs h hl
  injection e2 with q1 q2 q3
  subst q1
  exact h3
theorem row_kp {w : World} {base n g c : Nat} {xs : List Value} (h : w.ownsRow base 23 3 (.slice (some ⟨g, 0, none⟩) n c) n xs) (o : Obj) : (w.alloc o).ownsRow base 23 3 (.slice (some ⟨g, 0, none⟩) n c) n xs := h.kept (World.grownBy_alloc w o none) (by cases (Value.slice (some ⟨g, 0, none⟩) n c).ownBlock <;> simp)
set_option maxRecDepth 100000 in
set_option maxHeartbeats 16000000 in
theorem law_full (s : Int) (hs : (Lit.int .u16 s).wf = true) (st : Int) (ht : (Lit.int .u8 st).wf = true) (w : World) : Calls Try.prog 7 #[.int .u16 s, .int .u8 st] w (TrueW w) := by
  obtain ⟨i0, hi, hz0, hz1, hz2⟩ := info_parts info23
  have hs' : 0 ≤ s ∧ s ≤ 65535 := by simp [Lit.wf, IntKind.bits, IntKind.signed, IntKind.min, IntKind.max] at hs; omega
  have ht' : 0 ≤ st ∧ st ≤ 255 := by simp [Lit.wf, IntKind.bits, IntKind.signed, IntKind.min, IntKind.max] at ht; omega
  clear hs ht
  obtain ⟨hs0, hs1⟩ := hs'
  obtain ⟨ht0, ht1⟩ := ht'
  have HS := Lib.hid (And.intro hs0 hs1)
  have HT := Lib.hid (And.intro ht0 ht1)
  have e0 : IntKind.i64.wrap s = s := by rw [IntKind.wrap_i64]; omega
  have e0' : IntKind.i64.wrap st = st := by rw [IntKind.wrap_i64]; omega
  have e1 : IntKind.i64.wrap (1 + s) = 1 + s := by rw [IntKind.wrap_i64]; omega
  have e2 : IntKind.i64.wrap (1 + st) = 1 + st := by rw [IntKind.wrap_i64]; omega
  have hb0 := Lib.hid (Below.refl w.heap.size w)
  have R0 := Lib.hid (World.ownsRow_nil w w.heap.size 23 3)
  go_enter Try.func7, Try.ntmps7
  go_wp2_with fail
  go_loopw [5, 6] (fun s5 s6 wr => ∃ k : Nat, k ≤ 256 ∧ s6 = .int .i64 (k : Nat) ∧ Hid (Below w.heap.size w wr) ∧ ∃ B cb, s5 = .slice B k cb ∧ Hid (wr.ownsRow w.heap.size 23 3 (.slice B k cb) k (rowR (fulL s st k)))) (fun _ s6 _ => 256 - (intOf s6).toNat)
  case atStart => exact ⟨0, Nat.zero_le _, rfl, hb0, none, 0, rfl, R0⟩
  case round =>
    clear hb0 R0
    obtain ⟨k, hk, rfl, HB, B, cb, rfl, HR⟩ := hrel
    have sB := HB.out.size
    by_cases hlt : k < 256
    case pos =>
      have f1 : (k : Int) < 256 := by omega
      obtain ⟨v, hv⟩ : ∃ v, (k : Int) * (1 + st) = v := ⟨_, rfl⟩
      have hvb := mulb HT.out k (by omega)
      rw [hv] at hvb
      have e3 : IntKind.i64.wrap ((k : Int) * (1 + st)) = v := by rw [hv, IntKind.wrap_i64]; omega
      have e4 : IntKind.i64.wrap (1 + s + v) = 1 + s + v := by rw [IntKind.wrap_i64]; omega
      have HF := Lib.hid (show fulF s st k = ⟨1 + s + v, ⟨#[65]⟩, (k : Int)⟩ by unfold fulF; rw [hv])
      have NW := Lib.hid (rv_news wr ⟨1 + s + v, ⟨#[65]⟩, (k : Int)⟩)
      have B1 := Lib.hid (HB.out.alloc sB (.cells #[.int .i64 (1 + s + v), .string ⟨#[65]⟩, .int .i64 (k : Int)] 23))
      have s1 := B1.out.size
      have hrow := HR.out.kept (World.grownBy_alloc wr (.cells #[.int .i64 (1 + s + v), .string ⟨#[65]⟩, .int .i64 (k : Int)] 23) none) (by cases (Value.slice B k cb).ownBlock <;> simp)
      have HROW := Lib.hid hrow
      have HBL := Lib.hid (fun j (e : some j = (Value.slice B k cb).ownBlock) => (hrow.lt j e.symm).1)
      clear hrow hv
      go_wp2_with (at_builtin; refine wpList_append_own _ rfl _ _ 24 rfl w.heap.size 23 i0 (.agg #[.int .i64 0, .string ByteArray.empty, .int .i64 0]) 3 32 Try.underlying24 hi hz0 hz1 hz2 rfl (by decide) _ _ _ rfl HROW.out ⟨wr.heap.size, 0, none⟩ 1 1 (rowR1 ⟨1 + s + v, ⟨#[65]⟩, (k : Int)⟩) rfl rfl NW.out (rowR1_one _) (by unfold maxLen; omega) (by omega) s1 ?_; intro v1 w8 hown1 hgrow1 _; obtain ⟨g1, cap1, rfl⟩ := ownsRow_succ hown1)
      have HO8 := Lib.hid (show w8.ownsRow w.heap.size 23 3 (.slice (some ⟨g1, 0, none⟩) (k + 1) cap1) (k + 1) (rowR (fulL s st (k + 1))) by rw [fulL_snoc, rowR_snoc, HF.out]; exact hown1)
      have B8 := Lib.hid (B1.out.grown hgrow1 s1 (fun j e => HBL.out j e.symm))
      exact ⟨⟨k + 1, by omega, by go_num, B8, some ⟨g1, 0, none⟩, cap1, rfl, HO8⟩, by simp [intOf]; omega⟩
    case neg =>
      obtain rfl : k = 256 := by omega
      obtain ⟨_, _, e9, hc1, hc2, hRS⟩ := row_rs HR.out (fulL_len s st 256)
      injection e9 with e91 e92 e93
      subst e91 e93
      obtain ⟨g, hgB⟩ : ∃ g, B = some ⟨g, 0, none⟩ := by
        rcases HR.out.2 with ⟨_, h0⟩ | ⟨g, cap, cur, hv, _⟩
        · omega
        · injection hv with h1 _ _; exact ⟨g, h1⟩
      subst hgB
      obtain ⟨v, hv⟩ : ∃ v, ((255 : Nat) : Int) * (1 + st) = v := ⟨_, rfl⟩
      have hvb := mulb HT.out 255 (by omega)
      rw [hv] at hvb
      have z0 : wr.cell? ⟨g, 765, none⟩ = some (.int .i64 (1 + s + v)) := by
        rcases hRS with h | ⟨g', o', h1, h2, h3⟩
        · have := congrArg List.length h; rw [fulL_len] at this; cases this
        · injection h1 with h1
          injection h1 with q1 q2 _
          subst q1 q2
          have := (h3 255 (by rw [fulL_len]; omega)).1
          rw [fulL_get] at this
          unfold fulF at this
          rw [hv] at this
          simpa using this
      have e5 : IntKind.i64.wrap (1 + s + v + 1) = 1 + s + v + 1 := by rw [IntKind.wrap_i64]; omega
      have HX := Lib.hid (show moreR s st = ⟨1 + s + v + 1, ⟨#[66]⟩, 0⟩ by unfold moreR fulF; rw [hv])
      have hcap : 256 ≤ cb := hc1
      have hcap2 : 10 ≤ cb := by omega
      have HCB := Lib.hid (And.intro hc1 hc2)
      have HRS := Lib.hid hRS
      have LT := Lib.hid (fulL_len s st 256)
      have sizeX : (⟨1 + s + v + 1, ⟨#[66]⟩, 0⟩ : Rv).author.size ≤ 1000000 := by show (⟨#[66]⟩ : ByteArray).size ≤ _; decide
      have B1 := Lib.hid (HB.out.alloc sB (.cells #[.int .i64 (1 + s + v + 1), .string ⟨#[66]⟩, .int .i64 0] 23))
      have K1 := Lib.hid ((Below.refl wr.heap.size wr).alloc (Nat.le_refl _) (.cells #[.int .i64 (1 + s + v + 1), .string ⟨#[66]⟩, .int .i64 0] 23))
      have HO1 := Lib.hid (ObjAt.new wr #[.int .i64 (1 + s + v + 1), .string ⟨#[66]⟩, .int .i64 0] 23)
      have cA := add_any (fulL s st 256) 256 LT.out (by omega) (ful_sz 256) ⟨1 + s + v + 1, ⟨#[66]⟩, 0⟩ sizeX (some ⟨g, 0, none⟩) cb HCB.out _ (HRS.out.below K1.out)
      clear hRS hv hc1 hc2 e92 sizeX
      go_wp2_with fail
      (with_reducible refine cA.mono ?_)
      rintro e w2 ⟨hadd, k2⟩
      obtain rfl := addR_bad (r := 9) hadd (by rw [← HX.out]; exact ful_add HS.out HT.out) (by decide)
      have K2 := Lib.hid (K1.out.trans (k2.mono K1.out.size))
      have HO2 := Lib.hid (HO1.out.below k2)
      have x0 := HO2.out.b0
      have x1 := HO2.out.b1
      have x2 := HO2.out.b2
      have N2 : ∀ j u, (rowR [⟨1 + s + v + 1, ⟨#[66]⟩, 0⟩])[j]? = some u → (w2.alloc (.cells #[.int .i64 (1 + s + v + 1), .string ⟨#[66]⟩, .int .i64 0] 23)).cell? ⟨w2.heap.size, 0 + j, none⟩ = some u := by
        intro j u hj
        have h := rv_news w2 ⟨1 + s + v + 1, ⟨#[66]⟩, 0⟩ j u hj
        rwa [Addr.add_lit] at h
      have R2 := RsAt.of_cells (l := [⟨1 + s + v + 1, ⟨#[66]⟩, 0⟩]) (w := w2.alloc (.cells #[.int .i64 (1 + s + v + 1), .string ⟨#[66]⟩, .int .i64 0] 23)) (g := w2.heap.size) (o := 0) (by simp) N2
      have K3 := Lib.hid (K2.out.alloc K2.out.size (.cells #[.int .i64 (1 + s + v + 1), .string ⟨#[66]⟩, .int .i64 0] 23))
      have HO3 := Lib.hid (HO2.out.alloc (.cells #[.int .i64 (1 + s + v + 1), .string ⟨#[66]⟩, .int .i64 0] 23))
      have cM := merge_any (fulL s st 256) [⟨1 + s + v + 1, ⟨#[66]⟩, 0⟩] 256 1 LT.out rfl (by omega) (ful_sz 256) (by rw [← HX.out]; exact more_sz) (some ⟨g, 0, none⟩) (some ⟨w2.heap.size, 0, none⟩) cb 1 HCB.out _ (HRS.out.below K3.out) R2
      clear hadd cA k2 N2 R2
      go_wp2_with fail
      (with_reducible refine cM.mono ?_)
      rintro e w4 ⟨hm1, k4⟩
      obtain rfl := mrgR_bad (r := 9) hm1 (by rw [← HX.out]; exact ful_m1 HS.out HT.out) (by decide)
      have K4 := Lib.hid (K3.out.trans (k4.mono K3.out.size))
      have HO4 := Lib.hid (HO3.out.below k4)
      have R10 : RsAt w4 (some ⟨g, 0, none⟩) (fulL s st 10) := by rw [← fulL_take]; exact (HRS.out.below K4.out).take 10
      have cM2 := merge_any (fulL s st 256) (fulL s st 10) 256 10 LT.out (fulL_len s st 10) (by omega) (ful_sz 256) (ful_sz 10) (some ⟨g, 0, none⟩) (some ⟨g, 0, none⟩) cb cb HCB.out w4 (HRS.out.below K4.out) R10
      clear hm1 cM k4 x0 x1 x2 R10
      go_wp2_with fail
      (with_reducible refine cM2.mono ?_)
      rintro e w5 ⟨hm2, k5⟩
      obtain ⟨A5, cb5, rfl, hq5⟩ := mrgR_ok hm2 (ful_m2 HS.out HT.out).1 (ful_m2 HS.out HT.out).2
      rw [LT.out]
      have HQ5 := Lib.hid hq5
      have K5 := Lib.hid (K4.out.trans (k5.mono K4.out.size))
      have HO5 := Lib.hid (HO4.out.below k5)
      have KW5 := Lib.hid (HB.out.trans (K5.out.mono sB))
      have RT5 := Lib.hid (HRS.out.below K5.out)
      clear hm2 hq5 cM2 k5 z0
      go_wp2_with fail
      have D0 : Below w5.heap.size w5 w5.drew := bdrew1 (Below.refl _ _)
      have SS := Lib.hid (fun U (hU : Below w5.heap.size w5 U) => (⟨(HO5.out.below hU).b0, (HO5.out.below hU).b1, (HO5.out.below hU).b2⟩ : U.cell? ⟨wr.heap.size, 0, none⟩ = some (.int .i64 (1 + s + v + 1)) ∧ U.cell? ⟨wr.heap.size, 1, none⟩ = some (.string ⟨#[66]⟩) ∧ U.cell? ⟨wr.heap.size, 2, none⟩ = some (.int .i64 0)))
      have c13 := Lib.hid (fun U (hU : Below w5.heap.size w5 U) => ((known_any U).mono (fun e U' ⟨h1, h2⟩ => ⟨h1, hU.trans (h2.mono hU.size)⟩) : Calls Try.prog 13 #[] U fun e U' => e = .returned (.bool true) ∧ Below w5.heap.size w5 U'))
      have c16 := Lib.hid (fun U (hU : Below w5.heap.size w5 U) => ((check_any (fulL s st 256) 256 LT.out (by omega) (ful_sz 256) (some ⟨g, 0, none⟩) cb U (RT5.out.below hU)).mono (fun e U' ⟨h1, h2⟩ => ⟨h1.trans (by rw [ful_chk HS.out HT.out 256 (Nat.le_refl _)]), hU.trans (h2.mono hU.size)⟩) : Calls Try.prog 16 #[.slice (some ⟨g, 0, none⟩) 256 cb] U fun e U' => e = .returned (.int .i64 0) ∧ Below w5.heap.size w5 U'))
      have c22 := Lib.hid (fun U (hU : Below w5.heap.size w5 U) => ((samerevs_any (fulL s st 256) (fulL s st 256) 256 256 LT.out LT.out (by omega) (by omega) A5 (some ⟨g, 0, none⟩) cb5 cb U (HQ5.out.below hU) (RT5.out.below hU)).mono (fun e U' ⟨h1, h2⟩ => ⟨h1.trans (by rw [decide_eq_true rfl]), hU.trans (h2.mono hU.size)⟩) : Calls Try.prog 22 #[.slice A5 256 cb5, .slice (some ⟨g, 0, none⟩) 256 cb] U fun e U' => e = .returned (.bool true) ∧ Below w5.heap.size w5 U'))
      have c16b := Lib.hid (fun U B' cp (hU : Below w5.heap.size w5 U) (hr : U.ownsRow w5.heap.size 23 3 (.slice (some ⟨B', 0, none⟩) 257 cp) 257 (rowR (fulL s st 256 ++ [⟨1 + s + v + 1, ⟨#[66]⟩, 0⟩]))) => ((check_any (fulL s st 256 ++ [⟨1 + s + v + 1, ⟨#[66]⟩, 0⟩]) 257 (by rw [List.length_append, LT.out]; rfl) (by omega) (by rw [← HX.out]; exact long_sz) (some ⟨B', 0, none⟩) cp U (row_own hr (by rw [List.length_append, LT.out]; rfl))).mono (fun e U' ⟨h1, h2⟩ => ⟨h1.trans (by rw [← HX.out, ful_long]), hU.trans (h2.mono hU.size)⟩) : Calls Try.prog 16 #[.slice (some ⟨B', 0, none⟩) 257 cp] U fun e U' => e = .returned (.int .i64 9) ∧ Below w5.heap.size w5 U'))
      have ct := Lib.hid (fun U (hU : Below w5.heap.size w5 U) => (fun j u hj => by rw [Addr.add_lit]; exact (RT5.out.below hU).cells j u hj : ∀ j u, (rowR (fulL s st 256))[j]? = some u → U.cell? ((⟨g, 0, none⟩ : Addr).add j) = some u))
      have cx := Lib.hid (fun (U : World) xb (hO : ObjAt U xb #[.int .i64 (1 + s + v + 1), .string ⟨#[66]⟩, .int .i64 0] 23) => World.news_of_block (cs := #[.int .i64 (1 + s + v + 1), .string ⟨#[66]⟩, .int .i64 0]) (t := 23) (fr := (0, 0)) hO)
      go_region_held3? (fun U => U.cell? ⟨wr.heap.size, 0, none⟩ = some (.int .i64 (1 + s + v + 1)) ∧ U.cell? ⟨wr.heap.size, 1, none⟩ = some (.string ⟨#[66]⟩) ∧ U.cell? ⟨wr.heap.size, 2, none⟩ = some (.int .i64 0)) (first
        | exact SS.out _ (by assumption)
        | exact SS.out _ (belowA (by assumption))
        | exact SS.out _ (belowA (belowA (by assumption)))) (first
        | (refine step_app (W := w5) (U := U3.alloc (.cells #[] 23)) (belowA hU3) (by rfl) (.tmp 85) (.tmp 86) (by rfl) U3.heap.size 0 0 [] (by rfl) (made_row hU3) ⟨g, 0, none⟩ 256 cb (fulL s st 256) LT.out (by rfl) (ct.out _ (belowA hU3)) (by decide) (by omega) 256 rfl ?_; intro g5 cap5 U5 hr5 hU5 hg5)
        | (refine step_app (W := w5) (U := (U3.alloc (.cells #[] 23)).alloc (.cells #[.int .i64 (1 + s + v + 1), .string ⟨#[66]⟩, .int .i64 0] 23)) (belowA (belowA hU3)) (by rfl) (.tmp 85) (.tmp 86) (by rfl) U3.heap.size 0 0 [] (by rfl) (row_kp (made_row hU3) _) ⟨g, 0, none⟩ 256 cb (fulL s st 256) LT.out (by rfl) (ct.out _ (belowA (belowA hU3))) (by decide) (by omega) 256 rfl ?_; intro g5 cap5 U5 hr5 hU5 hg5; have hx5 := ((ObjAt.new (U3.alloc (.cells #[] 23)) #[.int .i64 (1 + s + v + 1), .string ⟨#[66]⟩, .int .i64 0] 23).kept hg5 (by simp)); rw [World.size_alloc] at hx5)
        | (refine step_app (W := w5) (U := (U3.alloc (.cells #[.int .i64 (1 + s + v + 1), .string ⟨#[66]⟩, .int .i64 0] 23)).alloc (.cells #[] 23)) (belowA (belowA hU3)) (by rfl) (.tmp 85) (.tmp 86) (by rfl) (U3.heap.size + 1) 0 0 [] (by rfl) (by have := made_row (belowA (o := (.cells #[.int .i64 (1 + s + v + 1), .string ⟨#[66]⟩, .int .i64 0] 23)) hU3); rwa [World.size_alloc] at this) ⟨g, 0, none⟩ 256 cb (fulL s st 256) LT.out (by rfl) (ct.out _ (belowA (belowA hU3))) (by decide) (by omega) 256 rfl ?_; intro g5 cap5 U5 hr5 hU5 hg5; have hx5 := (((ObjAt.new U3 #[.int .i64 (1 + s + v + 1), .string ⟨#[66]⟩, .int .i64 0] 23).alloc (.cells #[] 23)).kept hg5 (by simp)))
        | (refine step_app (W := w5) (U := U5.alloc (.cells #[.int .i64 (1 + s + v + 1), .string ⟨#[66]⟩, .int .i64 0] 23)) (belowA hU5) (by rfl) (.tmp 87) (.tmp 89) (by rfl) g5 cap5 256 (fulL s st 256) (by rfl) (row_kp hr5 _) ⟨U5.heap.size, 0, none⟩ 1 1 [⟨1 + s + v + 1, ⟨#[66]⟩, 0⟩] rfl (by rfl) (cx.out _ _ (ObjAt.new U5 _ 23)) (by decide) (by omega) 257 rfl ?_; intro g6 cap6 U6 hr6 hU6 hg6)
        | (refine step_app (W := w5) (U := U5) hU5 (by rfl) (.tmp 87) (.tmp 89) (by rfl) g5 cap5 256 (fulL s st 256) (by rfl) hr5 _ 1 1 [⟨1 + s + v + 1, ⟨#[66]⟩, 0⟩] rfl (by rfl) (cx.out _ _ hx5) (by decide) (by omega) 257 rfl ?_; intro g6 cap6 U6 hr6 hU6 hg6)
        | (go_at_call 13; (with_reducible refine (c13.out _ D0).mono ?_); rintro e U1 ⟨rfl, hU1⟩)
        | (go_at_call 22; (with_reducible refine (c22.out _ hU2).mono ?_); rintro e U3 ⟨rfl, hU3⟩)
        | (go_at_call 16; (with_reducible refine (c16b.out _ _ _ hU6 hr6).mono ?_); rintro e U7 ⟨rfl, hU7⟩)
        | (go_at_call 16; (with_reducible refine (c16.out _ hU1).mono ?_); rintro e U2 ⟨rfl, hU2⟩)
        | fail)
      all_goals
        have KF := Lib.hid (KW5.out.trans (hU7.mono KW5.out.size))
        go_wp2
        go_ret
        exact ⟨by simp, KF.out⟩
end Go.Proofs.Ytmpklkhjipclmaa
