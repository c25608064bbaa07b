/- Layer 22: the law of finding (4). -/
import Derived.Test.YtmpklkhjipclmaaVU
namespace Go.Proofs.Ytmpklkhjipclmaa
open Go.RowKit Go.Lib
set_option linter.unusedVariables false

theorem fr_of {l : List Rv} {p : Int} {e : Ending} (h : FR l p e) : ∃ (a : Int) (s : ByteArray) (t : Int) (b : Bool), e = .returned (.tuple #[.agg #[.int .i64 a, .string s, .int .i64 t], .bool b]) ∧ ((∃ (k : Nat) (h : k < l.length), fnd p l = (k : Int) ∧ l[k] = ⟨a, s, t⟩ ∧ b = true) ∨ (fnd p l = -1 ∧ a = 0 ∧ s = ⟨#[]⟩ ∧ t = 0 ∧ b = false)) := by
  rcases h with ⟨k, hk, h1, h2⟩ | ⟨h1, h2⟩
  · exact ⟨_, _, _, true, h2, .inl ⟨k, hk, h1, rfl, rfl⟩⟩
  · exact ⟨0, ⟨#[]⟩, 0, false, h2, .inr ⟨h1, rfl, rfl, rfl, rfl⟩⟩
attribute [local irreducible] wpQuiet in
set_option maxRecDepth 100000 in
set_option maxHeartbeats 16000000 in
theorem finds_in (L : List Rv) (m : Nat) (hm : L.length = m) (h40 : m ≤ 40) (hz : SzOk L) (hok : RsOk L) (p : Int) (J : List Int) (q : Nat) (hq : J.length = q) (q40 : q ≤ 40) (hjk : ∀ a ∈ J, I64 a) (A0 : Option Addr) (n0 c0 : Nat) (B : Option Addr) (k0 d : Nat) (hkd : k0 ≤ d ∧ d ≤ maxLen) (hmin : min k0 40 = q) (w : World)
    (cU : ∀ w', Below w.heap.size w w' → CutO w' A0 n0 c0 L m) (hB : NsAt w B J) : Calls Try.prog 4 #[.slice A0 n0 c0, .int .i64 p, .slice B k0 d] w (TrueW w) := by
  obtain ⟨i0, hi, hz0, hz1, hz2⟩ := info_parts info23
  have hd1 := hkd.1
  have hd2 := hkd.2
  unfold maxLen at hd2
  have e1 : min (k0 : Int) 40 = (q : Int) := by omega
  have e3 : (q : Int) ≤ (d : Int) := by omega
  have e5 : q ≤ d := by omega
  have D0 : Below w.heap.size w w.drew := bdrew1 (Below.refl _ _)
  have c12 := Lib.hid (fun U (hU : Below w.heap.size w U) => ((cU U hU).mono (fun e U' ⟨B', cb, h1, ⟨h2, h3⟩, h4⟩ => ⟨B', cb, h1, own_lower h2 hU.size, h3, hU.trans (h4.mono hU.size)⟩) :
    Calls Try.prog 12 #[.slice A0 n0 c0] U fun e U' => ∃ B' cb, e = .returned (.slice B' m cb) ∧ U'.ownsRow w.heap.size 23 3 (.slice B' m cb) m (rowR L) ∧ (m ≤ cb ∧ cb ≤ maxLen) ∧ Below w.heap.size w U'))
  have HM := Lib.hid hm
  have HQ := Lib.hid hq
  have HZ := Lib.hid hz
  have HOK := Lib.hid hok
  have HJK := Lib.hid hjk
  have HB := Lib.hid hB
  clear hm hq hz hok hjk hB hkd hmin cU
  go_enter Try.func4, Try.ntmps4
  go_wp2_with fail
  go_region_held3 (fun _ => True) (first | exact True.intro) (first
    | (go_at_call 12; (with_reducible refine (c12.out _ D0).mono ?_); rintro e U1 ⟨B1, cb1, rfl, hr1, hc1, hU1⟩)
    | fail)
  all_goals
    obtain ⟨_, _, e9, _, _, hLA⟩ := row_rs hr1 HM.out
    injection e9 with e91 e92 e93
    subst e91 e93
    have K1 := Lib.hid hU1
    have s1 := hU1.size
    have LA := Lib.hid hLA
    have NJ := Lib.hid (HB.out.below hU1)
    have HC1 := Lib.hid hc1
    have cF := find18_any L m HM.out (by omega) HZ.out B1 cb1 p U1 LA.out
    have cR := fun U (hU : Below U1.heap.size U1 U) => remove_any L m HM.out (by omega) HOK.out B1 cb1 HC1.out J q HQ.out (by omega) HJK.out B d U (LA.out.below hU) (NJ.out.below hU)
    have CR := Lib.hid cR
    clear hr1 hU1 hLA e92 hc1 c12 D0 e1 e3 e5 cR
    go_wp2_with fail
    (with_reducible refine cF.mono ?_)
    rintro e w2 ⟨hfr, k2⟩
    obtain ⟨ya, ys, yt, yb, rfl, hor⟩ := fr_of hfr
    have HOR := Lib.hid hor
    have s2 := k2.size
    have B3 := k2.alloc s2 (.cells #[.int .i64 ya, .string ys, .int .i64 yt] 23)
    have HO3 := Lib.hid (ObjAt.new w2 #[.int .i64 ya, .string ys, .int .i64 yt] 23)
    have HBX : w2.heap.size < (w2.alloc (.cells #[.int .i64 ya, .string ys, .int .i64 yt] 23)).heap.size := by simp
    have cR := CR.out _ B3
    have HB3 := Lib.hid B3
    have s3 := B3.size
    clear cF hfr hor B3 k2 CR
    go_wp2_with fail
    (with_reducible refine cR.mono ?_)
    rintro e w4 ⟨C, capC, rfl, hr4, k4⟩
    have B4 := Lib.hid (HB3.out.trans (k4.mono s3))
    have HO4 := Lib.hid (HO3.out.below k4)
    have s4 := k4.size
    have hrl : (remL L J).length ≤ m := by have := keepR_len (fun x => decide (x.id ∈ J)) L; have := HM.out; unfold remL; omega
    obtain ⟨r, hr⟩ : ∃ r, (remL L J).length = r := ⟨_, rfl⟩
    rw [hr] at hrl hr4 ⊢
    have HR4 := Lib.hid hr4
    have HRL := Lib.hid hr
    clear cR hr4 k4 hr HO3 HB3
    have HBX4 : w2.heap.size < w4.heap.size := by omega
    go_wp2_with fail
    (with_reducible refine (known_any _).mono ?_)
    rintro e w5 ⟨rfl, k5⟩
    have B5 := Lib.hid (B4.out.trans (k5.mono B4.out.size))
    have s5 := k5.size
    have HO5 := Lib.hid (HO4.out.below k5)
    have HR5 := Lib.hid (row_below HR4.out k5)
    have sB5 := B5.out.size
    have hbr := Lib.hid (Below.refl w5.heap.size w5)
    have R0 := Lib.hid (World.ownsRow_nil w5 w5.heap.size 23 3)
    clear k5 HR4 HO4
    go_wp2_with fail
    go_loopw [10, 11] (fun s10 s11 wr => ∃ i : Nat, i ≤ m ∧ s11 = .int .i64 (i : Nat) ∧ Hid (Below w5.heap.size w5 wr) ∧ ∃ (D : Option Addr) (t cd : Nat), s10 = .slice D t cd ∧ t ≤ i ∧ Hid ((keepR (fun x => decide (x.id ∈ J)) (L.take i)).length = t) ∧ Hid (wr.ownsRow w5.heap.size 23 3 (.slice D t cd) t (rowR (keepR (fun x => decide (x.id ∈ J)) (L.take i))))) (fun _ s11 _ => m - (intOf s11).toNat)
    case atStart => exact ⟨0, Nat.zero_le _, rfl, hbr, none, 0, 0, rfl, Nat.le_refl _, Lib.hid rfl, R0⟩
    case round =>
      clear hbr R0
      obtain ⟨i, him, rfl, HBR, D, t, cd, rfl, hti, HT, HROW⟩ := hrel
      have sR := HBR.out.size
      have BU := Lib.hid (B5.out.trans (HBR.out.mono sB5))
      have sBU := BU.out.size
      by_cases hlt : i < m
      case neg =>
        obtain rfl : i = m := by omega
        have hkr := HROW.out
        have hkt := HT.out
        rw [List.take_of_length_le (show L.length ≤ i by rw [HM.out]; exact Nat.le_refl _)] at hkr hkt
        obtain ⟨_, _, e9, _, _, hDR⟩ := row_rs hkr hkt
        injection e9 with e91 e92 e93
        subst e91 e93
        have HDR := Lib.hid (show RsAt wr D (remL L J) from hDR)
        have HKT := Lib.hid (show (remL L J).length = t from hkt)
        obtain ⟨_, _, e9', _, _, hCR⟩ := row_rs HR5.out HRL.out
        injection e9' with e91 e92' e93
        subst e91 e93
        have HCR := Lib.hid (hCR.below HBR.out)
        have cN := rfind_any L i HM.out (by omega) B1 cb1 p wr (LA.out.below BU.out)
        clear hkr hkt hDR e92 e92' HROW HT hCR
        go_wp2_with fail
        (with_reducible refine cN.mono ?_)
        rintro e w6 ⟨rfl, k6⟩
        have B6 := Lib.hid (BU.out.trans (k6.mono sBU))
        have s6 := k6.size
        have HO6 := Lib.hid ((HO5.out.below HBR.out).below k6)
        have LC := Lib.hid (HCR.out.below k6)
        have LD := Lib.hid (HDR.out.below k6)
        have KF := Lib.hid (K1.out.trans (B6.out.mono s1))
        have cS := fun U (hU : Below w6.heap.size w6 U) => samerevs_any (remL L J) (remL L J) r t HRL.out HKT.out (by omega) (by omega) C D capC cd U (LC.out.below hU) (LD.out.below hU)
        rw [decide_eq_true rfl] at cS
        have CS := Lib.hid cS
        clear cS cN k6
        rcases HOR.out with ⟨k, hk, hf, hy, rfl⟩ | ⟨hf, rfl, rfl, rfl, rfl⟩
        · rw [hf]
          have hkm : k < i := by rw [← HM.out]; exact hk
          obtain ⟨g, o, rfl, hg, hcl⟩ := LA.out.pos (by omega)
          obtain ⟨c0, c1, c2⟩ := hcl k hk
          rw [hy] at c0 c1 c2
          dsimp only at c0 c1 c2
          have f0 : ¬ (k : Int) < 0 := by omega
          have g0 : (0 : Int) ≤ (k : Int) := by omega
          have g1 : (k : Int) < (i : Int) := by omega
          have b1 : (ya == ya) = true := beq_self_eq_true _
          have b2 : (ys.toList == ys.toList) = true := str_eqB rfl
          have b3 : (yt == yt) = true := beq_self_eq_true _
          have z0F : ∀ v : Bw w6, v.w.cell? ⟨g, o + k * 3, none⟩ = some (.int .i64 ya) := fun v => ((B6.out.trans (v.h.mono B6.out.size)).cell (p := ⟨g, o + k * 3, none⟩) hg).trans c0
          have z1F : ∀ v : Bw w6, v.w.cell? ⟨g, o + k * 3 + 1, none⟩ = some (.string ys) := fun v => ((B6.out.trans (v.h.mono B6.out.size)).cell (p := ⟨g, o + k * 3 + 1, none⟩) hg).trans c1
          have z2F : ∀ v : Bw w6, v.w.cell? ⟨g, o + k * 3 + 2, none⟩ = some (.int .i64 yt) := fun v => ((B6.out.trans (v.h.mono B6.out.size)).cell (p := ⟨g, o + k * 3 + 2, none⟩) hg).trans c2
          have y0F : ∀ v : Bw w6, v.w.cell? ⟨w2.heap.size, 0, none⟩ = some (.int .i64 ya) := fun v => (HO6.out.below v.h).b0
          have y1F : ∀ v : Bw w6, v.w.cell? ⟨w2.heap.size, 1, none⟩ = some (.string ys) := fun v => (HO6.out.below v.h).b1
          have y2F : ∀ v : Bw w6, v.w.cell? ⟨w2.heap.size, 2, none⟩ = some (.int .i64 yt) := fun v => (HO6.out.below v.h).b2
          clear hcl c0 c1 c2 hf hy
          go_wp2_with fail
          refine wp_region_bw (W := w6) (by kernel_rfl) (by kernel_rfl) (Below.refl _ _) ?_
          repeat (quiet_step (first
            | (go_at_call 22; exact bw_of (fun v => CS.out v.w v.h) _)
            | fail))
          refine wpQuiet_nil ?_
          intro w7 hw'
          have kk : Below w6.heap.size w6 w7 := by obtain ⟨p2, rfl⟩ := hw'; exact p2.h
          have KG := Lib.hid (KF.out.trans (kk.mono KF.out.size))
          clear hw' kk z0F z1F z2F y0F y1F y2F CS
          go_wp2
          go_ret
          exact ⟨rfl, KG.out⟩
        · rw [hf]
          have y0 := HO6.out.b0
          have y1 := HO6.out.b1
          have y2 := HO6.out.b2
          have cS := CS.out w6 (Below.refl _ _)
          clear hf CS
          go_wp2_with fail
          (with_reducible refine cS.mono ?_)
          rintro e w7 ⟨rfl, k7⟩
          have KG := Lib.hid (KF.out.trans (k7.mono KF.out.size))
          clear k7 cS
          go_wp2
          go_ret
          exact ⟨rfl, KG.out⟩
      case pos =>
        have hil : i < L.length := by rw [HM.out]; exact hlt
        obtain ⟨g, o, rfl, hg, hcl⟩ := LA.out.pos (by omega)
        obtain ⟨c0, c1, c2⟩ := hcl i hil
        have g0 : (0 : Int) ≤ (i : Int) := by omega
        have g1 : (i : Int) < (m : Int) := by omega
        have HSN := Lib.hid (keepR_snoc (fun x => decide (x.id ∈ J)) L i hil)
        clear hcl
        generalize L[i] = x at c0 c1 c2 HSN
        obtain ⟨xa, xs, xt⟩ := x
        dsimp only at c0 c1 c2
        have C0 := Lib.hid c0
        have C1 := Lib.hid c1
        have C2 := Lib.hid c2
        have z0 := (BU.out.cell (p := ⟨g, o + i * 3, none⟩) hg).trans c0
        have cH := has_any J q HQ.out (by omega) B d xa wr (NJ.out.below BU.out)
        clear c0 c1 c2
        go_wp2_with fail
        (with_reducible refine cH.mono ?_)
        rintro e w6 ⟨rfl, k6⟩
        have B6 := Lib.hid (HBR.out.trans (k6.mono sR))
        have s6 := B6.out.size
        have ROW6 := row_below HROW.out k6
        have BV := B5.out.trans (B6.out.mono sB5)
        have z0' := (BV.cell (p := ⟨g, o + i * 3, none⟩) hg).trans C0.out
        have z1' := (BV.cell (p := ⟨g, o + i * 3 + 1, none⟩) hg).trans C1.out
        have z2' := (BV.cell (p := ⟨g, o + i * 3 + 2, none⟩) hg).trans C2.out
        have HRW6 := Lib.hid ROW6
        clear cH k6 BV z0
        by_cases hin : xa ∈ J
        · have HN2 := Lib.hid (HSN.out.trans (by simp [hin] : _ = keepR (fun x => decide (x.id ∈ J)) (L.take i)))
          rw [decide_eq_true hin]
          clear hin ROW6
          go_wp2
          go_roundw
          case rel => exact ⟨i + 1, by omega, by first | rfl | go_num, B6, D, t, cd, rfl, by omega, Lib.hid (by rw [HN2.out]; exact HT.out), Lib.hid (by rw [HN2.out]; exact HRW6.out)⟩
          case measure => simp [intOf]; omega
        · have HN2 := Lib.hid (HSN.out.trans (by simp [hin] : _ = keepR (fun x => decide (x.id ∈ J)) (L.take i) ++ [⟨xa, xs, xt⟩]))
          rw [decide_eq_false hin]
          have NW := Lib.hid (rv_news w6 ⟨xa, xs, xt⟩)
          have B7 := Lib.hid (B6.out.alloc s6 (.cells #[.int .i64 xa, .string xs, .int .i64 xt] 23))
          have s7 := B7.out.size
          have hrow := ROW6.kept (World.grownBy_alloc w6 (.cells #[.int .i64 xa, .string xs, .int .i64 xt] 23) none) (by cases (Value.slice D t cd).ownBlock <;> simp)
          have HROW7 := Lib.hid hrow
          have HBL := Lib.hid (fun j (e : some j = (Value.slice D t cd).ownBlock) => (hrow.lt j e.symm).1)
          clear hin ROW6 hrow
          go_wp2_with (at_builtin; refine wpList_append_own _ rfl _ _ 24 rfl w5.heap.size 23 i0 (.agg #[.int .i64 0, .string ByteArray.empty, .int .i64 0]) 3 32 Try.underlying24 hi hz0 hz1 hz2 rfl (by decide) _ _ _ rfl HROW7.out ⟨w6.heap.size, 0, none⟩ 1 1 (rowR1 ⟨xa, xs, xt⟩) rfl rfl NW.out (rowR1_one _) (by unfold maxLen; omega) (by omega) s7 ?_; intro v1 w8 hown1 hgrow1 _; obtain ⟨g1, cap1, rfl⟩ := ownsRow_succ hown1)
          have HO8 := Lib.hid (show w8.ownsRow w5.heap.size 23 3 (.slice (some ⟨g1, 0, none⟩) (t + 1) cap1) (t + 1) (rowR (keepR (fun x => decide (x.id ∈ J)) (L.take (i + 1)))) by rw [HN2.out, rowR_snoc]; exact hown1)
          have B8 := Lib.hid (B7.out.grown hgrow1 s7 (fun j e => HBL.out j e.symm))
          exact ⟨⟨i + 1, by omega, by go_num, B8, some ⟨g1, 0, none⟩, t + 1, cap1, rfl, by omega, Lib.hid (by rw [HN2.out, List.length_append, HT.out]; rfl), HO8⟩, by simp [intOf]; omega⟩
/-- The law: finds. -/
theorem law_finds (A : Option Addr) (n c : Nat) (l : List Rv) (hn : l.length = n) (hc : n ≤ c ∧ c ≤ maxLen) (hok : RsOk l) (p : Int) (B : Option Addr) (k d : Nat) (I : List Int) (hk : I.length = k) (hd : k ≤ d ∧ d ≤ maxLen) (hi : ∀ y ∈ I, I64 y) (w : World) (hA : RsAt w A l) (hB : NsAt w B I) :
    Calls Try.prog 4 #[.slice A n c, .int .i64 p, .slice B k d] w (TrueW w) :=
  finds_in (cutL l) _ rfl (cut_40 l) (cut_sz l) (cutL_ok hok) p (I.take 40) (I.take 40).length rfl (by rw [List.length_take]; omega) (fun a ha => hi a (List.mem_of_mem_take ha)) A n c B k d hd (by rw [List.length_take]; omega) w (fun w' hb => cut_o l n hn hok A c hc w' (hA.below hb)) (hB.take 40)
end Go.Proofs.Ytmpklkhjipclmaa
