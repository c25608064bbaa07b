/- Layer 22: the reference's selects (29). -/
import Derived.Test.YtmpklkhjipclmaaVR
import Derived.Deep.QuietTactic
import Derived.BigQuiet
namespace Go.Proofs.Ytmpklkhjipclmaa
open Go.RowKit Go.Lib
set_option linter.unusedVariables false

theorem mem_step {l : List ByteArray} {a : ByteArray} {i : Nat} (h : i < l.length) : decide (a ∈ l.take (i + 1)) = (decide (a ∈ l.take i) || (l[i].toList == a.toList)) := by
  rw [List.take_succ_eq_append_getElem h]
  by_cases e : l[i] = a
  · rw [str_eqB e, Bool.or_true]
    exact decide_eq_true (List.mem_append.2 (.inr (List.mem_singleton.2 e.symm)))
  · rw [str_neB e, Bool.or_false]
    refine decide_eq_decide.2 ?_
    rw [List.mem_append, List.mem_singleton]
    exact or_iff_left (fun h => e h.symm)
attribute [local irreducible] wpQuiet in
set_option maxRecDepth 100000 in
set_option maxHeartbeats 16000000 in
theorem selects_any (f : Fl) (hf : FlOk f) (A : Option Addr) (c : Nat) (B : Option Addr) (d : Nat) (x : Rv) (w : World) (hA : SsAt w A f.authors) (hB : NsAt w B f.ids) :
    Calls Try.prog 29 #[flV f A c B d, rvV x] w fun e w' => e = .returned (.bool (selQ f x)) ∧ Below w.heap.size w w' := by
  obtain ⟨xa, xs, xt⟩ := x
  obtain ⟨au, fr, ft, ids⟩ := f
  have hl1 := hf.a
  have hl2 := hf.i
  dsimp only at hA hB hl1 hl2
  obtain ⟨n, hn⟩ : ∃ n, au.length = n := ⟨_, rfl⟩
  obtain ⟨m, hm⟩ : ∃ m, ids.length = m := ⟨_, rfl⟩
  have HN := Lib.hid hn
  have HM := Lib.hid hm
  unfold flV rvV
  dsimp only
  rw [hn, hm]
  rw [hn] at hl1
  rw [hm] at hl2
  have k1 := ((Below.refl w.heap.size w).alloc (Nat.le_refl _) (.cells #[.slice A n c, .int .i64 fr, .int .i64 ft, .slice B m d] 52)).alloc (by simp) (.cells #[.int .i64 xa, .string xs, .int .i64 xt] 23)
  have O1 := (ObjAt.new w #[.slice A n c, .int .i64 fr, .int .i64 ft, .slice B m d] 52).alloc (.cells #[.int .i64 xa, .string xs, .int .i64 xt] 23)
  have O2 := ObjAt.new (w.alloc (.cells #[.slice A n c, .int .i64 fr, .int .i64 ft, .slice B m d] 52)) #[.int .i64 xa, .string xs, .int .i64 xt] 23
  rw [World.size_alloc] at O2
  generalize hW : (w.alloc (.cells #[.slice A n c, .int .i64 fr, .int .i64 ft, .slice B m d] 52)).alloc (.cells #[.int .i64 xa, .string xs, .int .i64 xt] 23) = W at k1 O1 O2
  have HK := Lib.hid k1
  have s0 := k1.size
  have HO1 := Lib.hid O1
  have HO2 := Lib.hid O2
  have HA := Lib.hid (hA.below k1)
  have HB := Lib.hid (hB.below k1)
  have f0 := O1.get (k := 0) rfl
  have HWW := Lib.hid hW
  clear hn hm hA hB k1 O1 O2 hf
  have hnb : ((n : Int) == 0) = au.isEmpty := by
    cases au with
    | nil => have : n = 0 := HN.out.symm; subst this; rfl
    | cons y ys => have : n = ys.length + 1 := HN.out.symm; subst this; show _ = false; exact neB (by omega)
  cases hemp : au.isEmpty
  all_goals
    rw [hemp] at hnb
    have HEMP := Lib.hid hemp
    clear hemp
    go_enter Try.func29, Try.ntmps29
    go_wp2_with fail
    go_loopw [5, 6] (fun s5 s6 wr => ∃ i : Nat, i ≤ n ∧ s6 = .int .i64 (i : Nat) ∧ s5 = .bool (au.isEmpty || decide (xs ∈ au.take i)) ∧ Hid (Below W.heap.size W wr)) (fun _ s6 _ => n - (intOf s6).toNat)
    case atStart => exact ⟨0, Nat.zero_le _, rfl, by rw [HEMP.out, List.take_zero]; simp, Lib.hid (by first | exact Below.refl _ _ | (rw [HWW.out]; exact Below.refl _ _))⟩
    case round =>
      obtain ⟨i, hin, rfl, rfl, HBR⟩ := hrel
      have sB := HBR.out.size
      have p0 := (HO1.out.below HBR.out).get (k := 0) rfl
      have p1 := (HO1.out.below HBR.out).get (k := 1) rfl
      have p2 := (HO1.out.below HBR.out).get (k := 2) rfl
      have p3 := (HO1.out.below HBR.out).get (k := 3) rfl
      have y0 := (HO2.out.below HBR.out).get (k := 0) rfl
      have y1 := (HO2.out.below HBR.out).get (k := 1) rfl
      have y2 := (HO2.out.below HBR.out).get (k := 2) rfl
      by_cases hlt : i < n
      case pos =>
        have hil : i < au.length := by rw [HN.out]; exact hlt
        obtain ⟨g, o, rfl, hg, hcl⟩ := HA.out.pos (by omega)
        have z0 := (HBR.out.cell (p := ⟨g, o + i, none⟩) hg).trans (hcl i hil)
        have g0 : (0 : Int) ≤ (i : Int) := by omega
        have g1 : (i : Int) < (n : Int) := by omega
        have HST := Lib.hid (mem_step (a := xs) hil)
        clear hcl
        generalize au[i] = v at z0 HST
        generalize hq : (au.isEmpty || decide (xs ∈ au.take i)) = q
        have HQQ := Lib.hid hq
        clear hq
        cases q with
        | true =>
          have HE := Lib.hid (show (au.isEmpty || decide (xs ∈ au.take (i + 1))) = true by rw [HST.out, ← Bool.or_assoc, HQQ.out, Bool.true_or])
          go_wp2
          go_quiet (fail)
          go_wp2
          go_roundw
          case rel => exact ⟨i + 1, by omega, by first | rfl | go_num, by rw [HE.out], Lib.hid (bdrew HBR.out _)⟩
          case measure => simp [intOf]; omega
        | false =>
          have HE := Lib.hid (show (au.isEmpty || decide (xs ∈ au.take (i + 1))) = (v.toList == xs.toList) by rw [HST.out, ← Bool.or_assoc, HQQ.out, Bool.false_or])
          go_wp2
          go_quiet (fail)
          go_wp2
          go_roundw
          case rel => exact ⟨i + 1, by omega, by first | rfl | go_num, by rw [HE.out], Lib.hid (bdrew HBR.out _)⟩
          case measure => simp [intOf]; omega
      case neg =>
        obtain rfl : i = n := by omega
        have KR := Lib.hid (HK.out.trans (HBR.out.mono s0))
        have sR := KR.out.size
        have HQ0 := Lib.hid (show selK ⟨au, fr, ft, ids⟩ ⟨xa, xs, xt⟩ 0 = (au.isEmpty || decide (xs ∈ au.take i)) by rw [List.take_of_length_le (by rw [HN.out]; exact Nat.le_refl _)]; rfl)
        generalize (au.isEmpty || decide (xs ∈ au.take i)) = q0 at HQ0 ⊢
        cases q0 with
        | false =>
          have HE := Lib.hid (show selQ ⟨au, fr, ft, ids⟩ ⟨xa, xs, xt⟩ = false by unfold selQ; rw [HQ0.out]; rfl)
          go_wp2
          go_ret
          exact ⟨by rw [HE.out]; rfl, KR.out⟩
        | true =>
          by_cases h1 : fr ≤ xt
          case neg =>
            have HE := Lib.hid (show selQ ⟨au, fr, ft, ids⟩ ⟨xa, xs, xt⟩ = false by unfold selQ; rw [HQ0.out, show selK ⟨au, fr, ft, ids⟩ ⟨xa, xs, xt⟩ 1 = false from decide_eq_false h1]; rfl)
            go_wp2
            go_ret
            exact ⟨by rw [HE.out]; rfl, KR.out⟩
          have HQ1 := Lib.hid (show selK ⟨au, fr, ft, ids⟩ ⟨xa, xs, xt⟩ 1 = true from decide_eq_true h1)
          by_cases h2 : ft = 0 ∨ xt ≤ ft
          case neg =>
            have e1 : (ft == 0) = false := neB (fun e => h2 (.inl e))
            have e2 : ¬ xt ≤ ft := fun e => h2 (.inr e)
            have HE := Lib.hid (show selQ ⟨au, fr, ft, ids⟩ ⟨xa, xs, xt⟩ = false by unfold selQ; rw [HQ0.out, HQ1.out, show selK ⟨au, fr, ft, ids⟩ ⟨xa, xs, xt⟩ 2 = false by show (ft == 0 || decide (xt ≤ ft)) = false; rw [e1, decide_eq_false e2]; rfl]; rfl)
            clear h2
            go_wp2
            go_ret
            exact ⟨by rw [HE.out]; rfl, KR.out⟩
          have HQ2 := Lib.hid (show selK ⟨au, fr, ft, ids⟩ ⟨xa, xs, xt⟩ 2 = true by
            show (ft == 0 || decide (xt ≤ ft)) = true
            rcases h2 with h | h
            · rw [h]; rfl
            · rw [decide_eq_true h, Bool.or_true])
          have HSQ := Lib.hid (show selQ ⟨au, fr, ft, ids⟩ ⟨xa, xs, xt⟩ = (ids.isEmpty || decide (xa ∈ ids)) by unfold selQ; rw [HQ0.out, HQ1.out, HQ2.out]; rfl)
          have cH := has_any ids m HM.out (by omega) B d xa wr (HB.out.below HBR.out)
          have hmb : ((m : Int) == 0) = ids.isEmpty := by
            cases ids with
            | nil => have : m = 0 := HM.out.symm; subst this; rfl
            | cons y ys => have : m = ys.length + 1 := HM.out.symm; subst this; show _ = false; exact neB (by omega)
          have sR2 := HBR.out.size
          by_cases hz : ft = 0
          · have e1 : (ft == 0) = true := by rw [hz]; rfl
            clear hz h2
            cases hie : ids.isEmpty with
            | true =>
              rw [hie] at hmb
              have HE := Lib.hid (HSQ.out.trans (by rw [hie, Bool.true_or]))
              clear hie cH
              go_wp2
              go_ret
              exact ⟨by rw [HE.out]; rfl, KR.out⟩
            | false =>
              rw [hie] at hmb
              have HE := Lib.hid (HSQ.out.trans (by rw [hie, Bool.false_or]))
              clear hie
              generalize decide (xa ∈ ids) = r at cH HE
              go_wp2_with fail
              (with_reducible refine cH.mono ?_)
              rintro e w9 ⟨rfl, k9⟩
              have K9 := Lib.hid (HK.out.trans ((HBR.out.trans (k9.mono sB)).mono s0))
              clear cH k9
              go_wp2
              go_ret
              exact ⟨by rw [HE.out]; rfl, K9.out⟩
          · have e1 : (ft == 0) = false := neB hz
            have e2 : xt ≤ ft := by rcases h2 with h | h; exact absurd h hz; exact h
            clear hz h2
            cases hie : ids.isEmpty with
            | true =>
              rw [hie] at hmb
              have HE := Lib.hid (HSQ.out.trans (by rw [hie, Bool.true_or]))
              clear hie cH
              go_wp2
              go_ret
              exact ⟨by rw [HE.out]; rfl, KR.out⟩
            | false =>
              rw [hie] at hmb
              have HE := Lib.hid (HSQ.out.trans (by rw [hie, Bool.false_or]))
              clear hie
              generalize decide (xa ∈ ids) = r at cH HE
              go_wp2_with fail
              (with_reducible refine cH.mono ?_)
              rintro e w9 ⟨rfl, k9⟩
              have K9 := Lib.hid (HK.out.trans ((HBR.out.trans (k9.mono sB)).mono s0))
              clear cH k9
              go_wp2
              go_ret
              exact ⟨by rw [HE.out]; rfl, K9.out⟩
end Go.Proofs.Ytmpklkhjipclmaa
