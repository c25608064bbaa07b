/- Layer 23: the law of decisions. -/
import Derived.Test.YtjhppkjngifibaaFF
import Derived.Test.YtjhppkjngifibaaES
import Derived.Test.YtjhppkjngifibaaEV
import Derived.Test.YtjhppkjngifibaaEW
namespace Go.Proofs.Ytjhppkjngifibaa
open Go.RowKit Go.Lib
set_option linter.unusedVariables false

/-- What a union of two decisions is, with its error. -/
def uni (la lr la' lr' : List Int) : List Int × List Int × Int :=
  if ckD la lr ≠ 0 then ([], [], ckD la lr) else if ckD la' lr' ≠ 0 then ([], [], ckD la' lr') else if ckD (srtU (la ++ la')) (srtU (lr ++ lr')) ≠ 0 then ([], [], ckD (srtU (la ++ la')) (srtU (lr ++ lr'))) else (srtU (la ++ la'), srtU (lr ++ lr'), 0)
theorem uni_len {la lr la' lr' : List Int} (s1 : la.length ≤ 40) (s2 : lr.length ≤ 40) (s3 : la'.length ≤ 40) (s4 : lr'.length ≤ 40) : (uni la lr la' lr').1.length ≤ 80 ∧ (uni la lr la' lr').2.1.length ≤ 80 := by
  have h1 := srtU_len (la ++ la')
  have h2 := srtU_len (lr ++ lr')
  rw [List.length_append] at h1 h2
  unfold uni
  split
  · exact ⟨by simp, by simp⟩
  · split
    · exact ⟨by simp, by simp⟩
    · split
      · exact ⟨by simp, by simp⟩
      · exact ⟨by show (srtU (la ++ la')).length ≤ 80; omega, by show (srtU (lr ++ lr')).length ≤ 80; omega⟩
/-- What hands back such a union. -/
def UV (LA LR : List Int) (E : Int) (w : World) (e : Ending) (w' : World) : Prop := ∃ P c P' c', e = .returned (.tuple #[.agg #[.slice P LA.length c, .slice P' LR.length c'], .int .i64 E]) ∧ NsAt w' P LA ∧ NsAt w' P' LR ∧ Below w.heap.size w w'
theorem union_uv (la lr la' lr' : List Int) (na nb na' nb' ca cb ca' cb' : Nat) (A B A' B' : Option Addr) (w : World) (e1 : la.length = na) (e2 : lr.length = nb) (e3 : la'.length = na') (e4 : lr'.length = nb') (hA : NsAt w A la) (hB : NsAt w B lr) (hA' : NsAt w A' la') (hB' : NsAt w B' lr') (s1 : na ≤ 40) (s2 : nb ≤ 40) (s3 : na' ≤ 40) (s4 : nb' ≤ 40) :
    Calls Try.prog 19 #[.agg #[.slice A na ca, .slice B nb cb], .agg #[.slice A' na' ca', .slice B' nb' cb']] w (UV (uni la lr la' lr').1 (uni la lr la' lr').2.1 (uni la lr la' lr').2.2 w) := by
  by_cases h1 : ckD la lr = 0
  · by_cases h2 : ckD la' lr' = 0
    · refine (union_ok la lr la' lr' na nb na' nb' ca cb ca' cb' A B A' B' w e1 e2 e3 e4 hA hB hA' hB' h1 h2 (by omega) (by omega)).mono ?_
      rintro e w' ⟨kk, hu⟩
      unfold uni
      rw [if_neg (by simp [h1]), if_neg (by simp [h2])]
      rcases hu with ⟨hz, P, c, P', c', rfl, r1, r2⟩ | ⟨hz, rfl⟩
      · rw [if_neg (by simp [hz])]
        exact ⟨P, c, P', c', rfl, own_nsA r1 rfl, own_nsA r2 rfl, kk⟩
      · rw [if_pos hz]
        exact ⟨none, 0, none, 0, rfl, .inl rfl, .inl rfl, kk⟩
    · refine (union_e2 la lr la' lr' na nb na' nb' ca cb ca' cb' A B A' B' w e1 e2 e3 e4 hA hB hA' hB' (by omega) (by omega) (by omega) (by omega) h1 h2).mono ?_
      rintro e w' ⟨rfl, kk⟩
      unfold uni
      rw [if_neg (by simp [h1]), if_pos h2]
      exact ⟨none, 0, none, 0, rfl, .inl rfl, .inl rfl, kk⟩
  · refine (union_e1 la lr la' lr' na nb na' nb' ca cb ca' cb' A B A' B' w e1 e2 e3 e4 hA hB hA' hB' (by omega) (by omega) (by omega) (by omega) h1).mono ?_
    rintro e w' ⟨rfl, kk⟩
    unfold uni
    rw [if_pos h1]
    exact ⟨none, 0, none, 0, rfl, .inl rfl, .inl rfl, kk⟩
theorem runion_uv (la lr la' lr' : List Int) (na nb na' nb' ca cb ca' cb' : Nat) (A B A' B' : Option Addr) (w : World) (e1 : la.length = na) (e2 : lr.length = nb) (e3 : la'.length = na') (e4 : lr'.length = nb') (hA : NsAt w A la) (hB : NsAt w B lr) (hA' : NsAt w A' la') (hB' : NsAt w B' lr') (s1 : na ≤ 40) (s2 : nb ≤ 40) (s3 : na' ≤ 40) (s4 : nb' ≤ 40) :
    Calls Try.prog 43 #[.agg #[.slice A na ca, .slice B nb cb], .agg #[.slice A' na' ca', .slice B' nb' cb']] w (UV (uni la lr la' lr').1 (uni la lr la' lr').2.1 (uni la lr la' lr').2.2 w) := by
  by_cases h1 : ckD la lr = 0
  · by_cases h2 : ckD la' lr' = 0
    · refine (runion_ok la lr la' lr' na nb na' nb' ca cb ca' cb' A B A' B' w e1 e2 e3 e4 hA hB hA' hB' h1 h2 (by omega) (by omega)).mono ?_
      rintro e w' ⟨kk, hu⟩
      unfold uni
      rw [if_neg (by simp [h1]), if_neg (by simp [h2])]
      rcases hu with ⟨hz, P, c, P', c', rfl, r1, r2⟩ | ⟨hz, rfl⟩
      · rw [if_neg (by simp [hz])]
        exact ⟨P, c, P', c', rfl, own_nsA r1 rfl, own_nsA r2 rfl, kk⟩
      · rw [if_pos hz]
        exact ⟨none, 0, none, 0, rfl, .inl rfl, .inl rfl, kk⟩
    · refine (runion_e2 la lr la' lr' na nb na' nb' ca cb ca' cb' A B A' B' w e1 e2 e3 e4 hA hB hA' hB' (by omega) (by omega) (by omega) (by omega) h1 h2).mono ?_
      rintro e w' ⟨rfl, kk⟩
      unfold uni
      rw [if_neg (by simp [h1]), if_pos h2]
      exact ⟨none, 0, none, 0, rfl, .inl rfl, .inl rfl, kk⟩
  · refine (runion_e1 la lr la' lr' na nb na' nb' ca cb ca' cb' A B A' B' w e1 e2 e3 e4 hA hB hA' hB' (by omega) (by omega) (by omega) (by omega) h1).mono ?_
    rintro e w' ⟨rfl, kk⟩
    unfold uni
    rw [if_pos h1]
    exact ⟨none, 0, none, 0, rfl, .inl rfl, .inl rfl, kk⟩
attribute [local irreducible] wpQuiet in
set_option maxRecDepth 100000 in
set_option maxHeartbeats 16000000 in
theorem law_decisions (da dr : List Int) (DA DB : Option Addr) (qa qb : Nat) (ea er : List Int) (EA EB : Option Addr) (pa pb : Nat) (w : World) (hD : DIn w DA DB qa qb da dr) (hE : DIn w EA EB pa pb ea er) :
    Calls Try.prog 12 #[.agg #[.slice DA da.length qa, .slice DB dr.length qb], .agg #[.slice EA ea.length pa, .slice EB er.length pb]] w (TrueW w) := by
  have cK := Lib.hid (fun W => known_any W)
  have HD := Lib.hid hD
  have HE := Lib.hid hE
  have b0 := ((Below.refl w.heap.size w).alloc (Nat.le_refl _) (.cells #[.slice DA da.length qa, .slice DB dr.length qb] 31)).alloc (by simp) (.cells #[.slice EA ea.length pa, .slice EB er.length pb] 31)
  have O1 := (ObjAt.new w #[.slice DA da.length qa, .slice DB dr.length qb] 31).alloc (.cells #[.slice EA ea.length pa, .slice EB er.length pb] 31)
  have O2 := ObjAt.new (w.alloc (.cells #[.slice DA da.length qa, .slice DB dr.length qb] 31)) #[.slice EA ea.length pa, .slice EB er.length pb] 31
  rw [World.size_alloc] at O2
  have HDA := Lib.hid (hD.a.below b0 (Nat.le_refl _))
  have HDR := Lib.hid (hD.r.below b0 (Nat.le_refl _))
  have HEA := Lib.hid (hE.a.below b0 (Nat.le_refl _))
  have HER := Lib.hid (hE.r.below b0 (Nat.le_refl _))
  clear hD hE
  obtain ⟨b, hbb⟩ : ∃ b, w.heap.size = b := ⟨_, rfl⟩
  rw [hbb] at b0 O1 O2
  have HBB := Lib.hid hbb
  have KB := Lib.hid b0
  have HX2 := Lib.hid O1
  have HX3 := Lib.hid O2
  clear b0 O1 O2
  have hm1 := HD.out.ca
  have hm2 := HD.out.cr
  have hm3 := HE.out.ca
  have hm4 := HE.out.cr
  unfold maxLen at hm1 hm2 hm3 hm4
  go_enter Try.func12, Try.ntmps12
  go_upto_region 1 with fail
  clear hbb
  generalize (w.alloc (.cells #[.slice DA da.length qa, .slice DB dr.length qb] 31)).alloc (.cells #[.slice EA ea.length pa, .slice EB er.length pb] 31) = W0 at KB HX2 HX3 HDA HDR HEA HER ⊢
  have cc := cK.out W0
  go_wp2_with fail
  (with_reducible refine cc.mono ?_)
  rintro e w1 ⟨rfl, kk⟩
  replace KB := Lib.hid (KB.out.trans (kk.mono (by have := KB.out.size; have := HBB.out; omega)))
  replace HX2 := Lib.hid (HX2.out.below kk)
  replace HX3 := Lib.hid (HX3.out.below kk)
  replace HDA := Lib.hid (HDA.out.below kk (Nat.le_refl _))
  replace HDR := Lib.hid (HDR.out.below kk (Nat.le_refl _))
  replace HEA := Lib.hid (HEA.out.below kk (Nat.le_refl _))
  replace HER := Lib.hid (HER.out.below kk (Nat.le_refl _))
  clear cc
  have y0 := HX2.out.get (k := 0) (v := .slice DA da.length qa) rfl
  have y1 := HX2.out.get (k := 1) (v := .slice DB dr.length qb) rfl
  have z0 := HX3.out.get (k := 0) (v := .slice EA ea.length pa) rfl
  have z1 := HX3.out.get (k := 1) (v := .slice EB er.length pb) rfl
  by_cases s0 : da.length ≤ 40
  case neg =>
    have t0 : (40 : Int) < (da.length : Int) := by omega
    have t0b : decide ((40 : Int) < (da.length : Int)) = true := decide_eq_true t0
    have cc := cK.out w1
    go_wp2_with fail
    (with_reducible refine cc.mono ?_)
    rintro e w2 ⟨rfl, kk⟩
    replace KB := Lib.hid (KB.out.trans (kk.mono (by have := KB.out.size; have := HBB.out; omega)))
    replace HX2 := Lib.hid (HX2.out.below kk)
    replace HX3 := Lib.hid (HX3.out.below kk)
    replace HDA := Lib.hid (HDA.out.below kk (Nat.le_refl _))
    replace HDR := Lib.hid (HDR.out.below kk (Nat.le_refl _))
    replace HEA := Lib.hid (HEA.out.below kk (Nat.le_refl _))
    replace HER := Lib.hid (HER.out.below kk (Nat.le_refl _))
    clear cc
    go_wp2
    go_ret
    exact ⟨by simp, by rw [HBB.out]; exact KB.out⟩
  have t0 : ¬ (40 : Int) < (da.length : Int) := by omega
  have t0b : decide ((40 : Int) < (da.length : Int)) = false := decide_eq_false t0
  by_cases s1 : dr.length ≤ 40
  case neg =>
    have t1 : (40 : Int) < (dr.length : Int) := by omega
    have t1b : decide ((40 : Int) < (dr.length : Int)) = true := decide_eq_true t1
    have cc := cK.out w1
    go_wp2_with fail
    (with_reducible refine cc.mono ?_)
    rintro e w2 ⟨rfl, kk⟩
    replace KB := Lib.hid (KB.out.trans (kk.mono (by have := KB.out.size; have := HBB.out; omega)))
    replace HX2 := Lib.hid (HX2.out.below kk)
    replace HX3 := Lib.hid (HX3.out.below kk)
    replace HDA := Lib.hid (HDA.out.below kk (Nat.le_refl _))
    replace HDR := Lib.hid (HDR.out.below kk (Nat.le_refl _))
    replace HEA := Lib.hid (HEA.out.below kk (Nat.le_refl _))
    replace HER := Lib.hid (HER.out.below kk (Nat.le_refl _))
    clear cc
    go_wp2
    go_ret
    exact ⟨by simp, by rw [HBB.out]; exact KB.out⟩
  have t1 : ¬ (40 : Int) < (dr.length : Int) := by omega
  have t1b : decide ((40 : Int) < (dr.length : Int)) = false := decide_eq_false t1
  by_cases s2 : ea.length ≤ 40
  case neg =>
    have t2 : (40 : Int) < (ea.length : Int) := by omega
    have t2b : decide ((40 : Int) < (ea.length : Int)) = true := decide_eq_true t2
    have cc := cK.out w1
    go_wp2_with fail
    (with_reducible refine cc.mono ?_)
    rintro e w2 ⟨rfl, kk⟩
    replace KB := Lib.hid (KB.out.trans (kk.mono (by have := KB.out.size; have := HBB.out; omega)))
    replace HX2 := Lib.hid (HX2.out.below kk)
    replace HX3 := Lib.hid (HX3.out.below kk)
    replace HDA := Lib.hid (HDA.out.below kk (Nat.le_refl _))
    replace HDR := Lib.hid (HDR.out.below kk (Nat.le_refl _))
    replace HEA := Lib.hid (HEA.out.below kk (Nat.le_refl _))
    replace HER := Lib.hid (HER.out.below kk (Nat.le_refl _))
    clear cc
    go_wp2
    go_ret
    exact ⟨by simp, by rw [HBB.out]; exact KB.out⟩
  have t2 : ¬ (40 : Int) < (ea.length : Int) := by omega
  have t2b : decide ((40 : Int) < (ea.length : Int)) = false := decide_eq_false t2
  by_cases s3 : er.length ≤ 40
  case neg =>
    have t3 : (40 : Int) < (er.length : Int) := by omega
    have t3b : decide ((40 : Int) < (er.length : Int)) = true := decide_eq_true t3
    have cc := cK.out w1
    go_wp2_with fail
    (with_reducible refine cc.mono ?_)
    rintro e w2 ⟨rfl, kk⟩
    replace KB := Lib.hid (KB.out.trans (kk.mono (by have := KB.out.size; have := HBB.out; omega)))
    replace HX2 := Lib.hid (HX2.out.below kk)
    replace HX3 := Lib.hid (HX3.out.below kk)
    replace HDA := Lib.hid (HDA.out.below kk (Nat.le_refl _))
    replace HDR := Lib.hid (HDR.out.below kk (Nat.le_refl _))
    replace HEA := Lib.hid (HEA.out.below kk (Nat.le_refl _))
    replace HER := Lib.hid (HER.out.below kk (Nat.le_refl _))
    clear cc
    go_wp2
    go_ret
    exact ⟨by simp, by rw [HBB.out]; exact KB.out⟩
  have t3 : ¬ (40 : Int) < (er.length : Int) := by omega
  have t3b : decide ((40 : Int) < (er.length : Int)) = false := decide_eq_false t3
  have HS := Lib.hid (uni_len s0 s1 s2 s3)
  have c19 := Lib.hid (fun W hA hB hC hD => union_uv da dr ea er _ _ _ _ qa qb pa pb DA DB EA EB W rfl rfl rfl rfl hA hB hC hD s0 s1 s2 s3)
  have c43 := Lib.hid (fun W hA hB hC hD => runion_uv da dr ea er _ _ _ _ qa qb pa pb DA DB EA EB W rfl rfl rfl rfl hA hB hC hD s0 s1 s2 s3)
  generalize (uni da dr ea er).1 = UA at HS c19 c43
  generalize (uni da dr ea er).2.1 = UR at HS c19 c43
  generalize (uni da dr ea er).2.2 = E at c19 c43
  have cc := c19.out w1 HDA.out HDR.out HEA.out HER.out
  go_wp2_with fail
  refine cc.mono ?_
  rintro e w2 ⟨P, u1, P', u2, rfl, n1, n2, kk⟩
  replace KB := Lib.hid (KB.out.trans (kk.mono (by have := KB.out.size; have := HBB.out; omega)))
  replace HX2 := Lib.hid (HX2.out.below kk)
  replace HX3 := Lib.hid (HX3.out.below kk)
  replace HDA := Lib.hid (HDA.out.below kk (Nat.le_refl _))
  replace HDR := Lib.hid (HDR.out.below kk (Nat.le_refl _))
  replace HEA := Lib.hid (HEA.out.below kk (Nat.le_refl _))
  replace HER := Lib.hid (HER.out.below kk (Nat.le_refl _))
  clear cc kk
  have NP := Lib.hid n1
  have NP' := Lib.hid n2
  clear n1 n2
  have lbb5 : b < w2.heap.size := HX2.out.lt
  have lbp1b5 : b + 1 < w2.heap.size := HX3.out.lt
  have ba := (Below.refl w2.heap.size w2).alloc (Nat.le_refl _) (.cells #[.slice P UA.length u1, .slice P' UR.length u2] 31)
  replace KB := Lib.hid (KB.out.trans (ba.mono (by have := KB.out.size; have := HBB.out; omega)))
  replace HX2 := Lib.hid (HX2.out.below ba)
  replace HX3 := Lib.hid (HX3.out.below ba)
  replace HDA := Lib.hid (HDA.out.below ba (Nat.le_refl _))
  replace HDR := Lib.hid (HDR.out.below ba (Nat.le_refl _))
  replace HEA := Lib.hid (HEA.out.below ba (Nat.le_refl _))
  replace HER := Lib.hid (HER.out.below ba (Nat.le_refl _))
  replace NP := Lib.hid (NP.out.below ba (Nat.le_refl _))
  replace NP' := Lib.hid (NP'.out.below ba (Nat.le_refl _))
  have HX5 := Lib.hid (ObjAt.new w2 #[.slice P UA.length u1, .slice P' UR.length u2] 31)
  clear ba
  go_upto_region 4 with fail
  obtain ⟨b5, hb5⟩ : ∃ x, w2.heap.size = x := ⟨_, rfl⟩
  rw [hb5] at HX5 lbb5 lbp1b5 ⊢
  have gb5 : w2.heap.size = b5 := hb5
  generalize w2.alloc (.cells #[.slice P UA.length u1, .slice P' UR.length u2] 31) = w3 at HX5 KB HX2 HX3 HDA HDR HEA HER NP NP' ⊢
  clear hb5
  clear y0 y1 z0 z1
  have y0 := HX2.out.get (k := 0) (v := .slice DA da.length qa) rfl
  have y1 := HX2.out.get (k := 1) (v := .slice DB dr.length qb) rfl
  have z0 := HX3.out.get (k := 0) (v := .slice EA ea.length pa) rfl
  have z1 := HX3.out.get (k := 1) (v := .slice EB er.length pb) rfl
  have cc := c43.out w3 HDA.out HDR.out HEA.out HER.out
  go_wp2_with fail
  refine cc.mono ?_
  rintro e w4 ⟨Q, v1, Q', v2, rfl, n1, n2, kk⟩
  replace KB := Lib.hid (KB.out.trans (kk.mono (by have := KB.out.size; have := HBB.out; omega)))
  replace HX2 := Lib.hid (HX2.out.below kk)
  replace HX3 := Lib.hid (HX3.out.below kk)
  replace HDA := Lib.hid (HDA.out.below kk (Nat.le_refl _))
  replace HDR := Lib.hid (HDR.out.below kk (Nat.le_refl _))
  replace HEA := Lib.hid (HEA.out.below kk (Nat.le_refl _))
  replace HER := Lib.hid (HER.out.below kk (Nat.le_refl _))
  replace NP := Lib.hid (NP.out.below kk (Nat.le_refl _))
  replace NP' := Lib.hid (NP'.out.below kk (Nat.le_refl _))
  replace HX5 := Lib.hid (HX5.out.below kk)
  clear cc kk
  have NQ := Lib.hid n1
  have NQ' := Lib.hid n2
  clear n1 n2
  have lbb7 : b < w4.heap.size := HX2.out.lt
  have lbp1b7 : b + 1 < w4.heap.size := HX3.out.lt
  have lb5b7 : b5 < w4.heap.size := HX5.out.lt
  have ba := (Below.refl w4.heap.size w4).alloc (Nat.le_refl _) (.cells #[.slice Q UA.length v1, .slice Q' UR.length v2] 31)
  replace KB := Lib.hid (KB.out.trans (ba.mono (by have := KB.out.size; have := HBB.out; omega)))
  replace HX2 := Lib.hid (HX2.out.below ba)
  replace HX3 := Lib.hid (HX3.out.below ba)
  replace HDA := Lib.hid (HDA.out.below ba (Nat.le_refl _))
  replace HDR := Lib.hid (HDR.out.below ba (Nat.le_refl _))
  replace HEA := Lib.hid (HEA.out.below ba (Nat.le_refl _))
  replace HER := Lib.hid (HER.out.below ba (Nat.le_refl _))
  replace NP := Lib.hid (NP.out.below ba (Nat.le_refl _))
  replace NP' := Lib.hid (NP'.out.below ba (Nat.le_refl _))
  replace HX5 := Lib.hid (HX5.out.below ba)
  replace NQ := Lib.hid (NQ.out.below ba (Nat.le_refl _))
  replace NQ' := Lib.hid (NQ'.out.below ba (Nat.le_refl _))
  have HX7 := Lib.hid (ObjAt.new w4 #[.slice Q UA.length v1, .slice Q' UR.length v2] 31)
  clear ba
  go_upto_region 5 with fail
  obtain ⟨b7, hb7⟩ : ∃ x, w4.heap.size = x := ⟨_, rfl⟩
  rw [hb7] at HX7 lbb7 lbp1b7 lb5b7 ⊢
  have gb7 : w4.heap.size = b7 := hb7
  generalize w4.alloc (.cells #[.slice Q UA.length v1, .slice Q' UR.length v2] 31) = w5 at HX7 KB HX2 HX3 HDA HDR HEA HER NP NP' HX5 NQ NQ' ⊢
  clear hb7
  clear y0 y1 z0 z1
  have qa0 := fun p : Bw w5 => (HX2.out.below p.h).get (k := 0) (v := .slice DA da.length qa) rfl
  have qa1 := fun p : Bw w5 => (HX2.out.below p.h).get (k := 1) (v := .slice DB dr.length qb) rfl
  have qc0 := fun p : Bw w5 => (HX3.out.below p.h).get (k := 0) (v := .slice EA ea.length pa) rfl
  have qc1 := fun p : Bw w5 => (HX3.out.below p.h).get (k := 1) (v := .slice EB er.length pb) rfl
  have qd0 := fun p : Bw w5 => (HX5.out.below p.h).get (k := 0) (v := .slice P UA.length u1) rfl
  have qd1 := fun p : Bw w5 => (HX5.out.below p.h).get (k := 1) (v := .slice P' UR.length u2) rfl
  have qe0 := fun p : Bw w5 => (HX7.out.below p.h).get (k := 0) (v := .slice Q UA.length v1) rfl
  have qe1 := fun p : Bw w5 => (HX7.out.below p.h).get (k := 1) (v := .slice Q' UR.length v2) rfl
  have k44a := bw_of (W := w5) (f := 44) (args := #[.agg #[.slice DA da.length qa, .slice DB dr.length qb]]) (v := .int .i64 (ckD da dr)) (fun p => checkdec_any da dr _ _ rfl rfl (by omega) (by omega) DA DB qa qb p.w (HDA.out.below p.h (Nat.le_refl _)) (HDR.out.below p.h (Nat.le_refl _)))
  have k45a := bw_of (W := w5) (f := 45) (args := #[.agg #[.slice DA da.length qa, .slice DB dr.length qb]]) (v := .int .i64 (ckD da dr)) (fun p => check_any da dr _ _ qa qb DA DB p.w (HDA.out.below p.h (Nat.le_refl _)) (HDR.out.below p.h (Nat.le_refl _)) rfl rfl (by omega) (by omega))
  have k44b := bw_of (W := w5) (f := 44) (args := #[.agg #[.slice EA ea.length pa, .slice EB er.length pb]]) (v := .int .i64 (ckD ea er)) (fun p => checkdec_any ea er _ _ rfl rfl (by omega) (by omega) EA EB pa pb p.w (HEA.out.below p.h (Nat.le_refl _)) (HER.out.below p.h (Nat.le_refl _)))
  have k45b := bw_of (W := w5) (f := 45) (args := #[.agg #[.slice EA ea.length pa, .slice EB er.length pb]]) (v := .int .i64 (ckD ea er)) (fun p => check_any ea er _ _ pa pb EA EB p.w (HEA.out.below p.h (Nat.le_refl _)) (HER.out.below p.h (Nat.le_refl _)) rfl rfl (by omega) (by omega))
  have k42a := bw_of (W := w5) (f := 42) (args := #[.slice P UA.length u1, .slice Q UA.length v1]) (v := .bool (decide (UA = UA))) (fun p => same_any UA UA _ _ rfl rfl (by have := HS.out.1; omega) (by have := HS.out.1; omega) P Q u1 v1 p.w (NP.out.below p.h (Nat.le_refl _)) (NQ.out.below p.h (Nat.le_refl _)))
  have k42b := bw_of (W := w5) (f := 42) (args := #[.slice P' UR.length u2, .slice Q' UR.length v2]) (v := .bool (decide (UR = UR))) (fun p => same_any UR UR _ _ rfl rfl (by have := HS.out.2; omega) (by have := HS.out.2; omega) P' Q' u2 v2 p.w (NP'.out.below p.h (Nat.le_refl _)) (NQ'.out.below p.h (Nat.le_refl _)))
  rw [decide_eq_true rfl] at k42a k42b
  generalize ckD da dr = z1 at k44a k45a
  generalize ckD ea er = z2 at k44b k45b
  have ez1 : (z1 == z1) = true := by simp
  have ez2 : (z2 == z2) = true := by simp
  have eE : (E == E) = true := by simp
  refine wp_region_bw (W := w5) (by kernel_rfl) (by kernel_rfl) (Below.refl _ _) ?_
  repeat (quiet_step (first
    | (go_at_call 44; first | (with_reducible exact k44a _) | (with_reducible exact k44b _))
    | (go_at_call 45; first | (with_reducible exact k45a _) | (with_reducible exact k45b _))
    | (go_at_call 42; first | (with_reducible exact k42a _) | (with_reducible exact k42b _))
    | fail))
  refine wpQuiet_nil ?_
  intro V hw'
  have kk : Below w5.heap.size w5 V := by obtain ⟨p2, rfl⟩ := hw'; exact p2.h
  have KV := Lib.hid (KB.out.trans (kk.mono (by have := KB.out.size; have := HBB.out; omega)))
  clear hw' kk
  go_wp2
  go_ret
  exact ⟨by simp [go_sem], by rw [HBB.out]; exact KV.out⟩
end Go.Proofs.Ytjhppkjngifibaa
