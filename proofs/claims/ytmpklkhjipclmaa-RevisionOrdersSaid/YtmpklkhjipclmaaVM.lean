/- Layer 22: example (37), known (13). -/
import Derived.Test.YtmpklkhjipclmaaVL
import Derived.Test.YtmpklkhjipclmaaVF
namespace Go.Proofs.Ytmpklkhjipclmaa
open Go.RowKit Go.Lib
set_option linter.unusedVariables false

abbrev sAnn : ByteArray := ⟨#[65, 110, 110]⟩
abbrev sBob : ByteArray := ⟨#[66, 111, 98]⟩
def exL : List Rv := [⟨2, sAnn, 10⟩, ⟨5, sBob, 7⟩, ⟨9, sAnn, 3⟩]
abbrev exRow : Array Value := #[.int .i64 2, .string sAnn, .int .i64 10, .int .i64 5, .string sBob, .int .i64 7, .int .i64 9, .string sAnn, .int .i64 3]
theorem v_ann : vld sAnn = true := vld_ok [65, 110, 110] (by intro p hp; simp at hp; rcases hp with rfl | rfl <;> exact ⟨by decide, .inl (by decide)⟩) (by decide)
theorem v_bob : vld sBob = true := vld_ok [66, 111, 98] (by intro p hp; simp at hp; rcases hp with rfl | rfl | rfl <;> exact ⟨by decide, .inl (by decide)⟩) (by decide)
theorem ex_chk : chkL vld exL = 0 := by
  refine chkL_ok (by decide) fun j hj => ?_
  have h3 : j < 3 := hj
  rcases (by omega : j = 0 ∨ j = 1 ∨ j = 2) with rfl | rfl | rfl
  · unfold chkAt exL chkR; simp [v_ann]; decide
  · unfold chkAt exL chkR; simp [v_bob]; decide
  · unfold chkAt exL chkR; simp [v_ann]; decide
theorem ex2_chk : chkL vld (exL.take 2) = 0 := by
  refine chkL_ok (by decide) fun j hj => ?_
  have h3 : j < 2 := hj
  rcases (by omega : j = 0 ∨ j = 1) with rfl | rfl
  · unfold chkAt exL chkR; simp [v_ann]; decide
  · unfold chkAt exL chkR; simp [v_bob]; decide
def bobL : List Rv := [⟨5, sBob, 8⟩]
theorem bob_chk : chkL vld bobL = 0 := by
  refine chkL_ok (by decide) fun j hj => ?_
  have h3 : j < 1 := hj
  obtain rfl : j = 0 := by omega
  unfold chkAt bobL chkR; simp [v_bob]; decide
theorem ex_frN : frN exL = 10 := by unfold frN; rw [if_neg (by simp [ex_chk])]; decide
theorem ex_frE : frE exL = 0 := by unfold frE; rw [if_neg (by simp [ex_chk])]; decide
abbrev f1 : Fl := ⟨[sAnn], 5, 0, []⟩
abbrev f2 : Fl := ⟨[], 0, 7, []⟩
theorem ex_s1 : srtU (selI f1 exL) = [2] := by decide +kernel
theorem ex_s2 : srtU (selI f2 exL) = [5, 9] := by decide +kernel
theorem ex_chr : chr exL = [⟨9, sAnn, 3⟩, ⟨5, sBob, 7⟩, ⟨2, sAnn, 10⟩] := by decide +kernel
theorem ex_mrg : mrgE (exL.take 2) bobL = 23 := by
  unfold mrgE
  rw [if_neg (by simp [ex2_chk]), if_neg (by simp [bob_chk])]
  have : mrg (exL.take 2) bobL = none := by decide +kernel
  rw [this]
theorem ex_ok : RsOk exL := by
  intro x hx
  unfold exL at hx
  simp only [List.mem_cons, List.not_mem_nil, or_false] at hx
  rcases hx with rfl | rfl | rfl <;> exact ⟨by unfold I64; decide, by unfold I64; decide, by decide⟩
theorem ex_sz : SzOk exL := by
  intro x hx
  unfold exL at hx
  simp only [List.mem_cons, List.not_mem_nil, or_false] at hx
  rcases hx with rfl | rfl | rfl <;> decide
theorem bob_sz : SzOk bobL := by
  intro x hx
  unfold bobL at hx
  simp only [List.mem_cons, List.not_mem_nil, or_false] at hx
  subst hx; decide
theorem f1_ok : FlOk f1 := ⟨by decide, by decide, (by intro x hx; simp at hx; subst hx; decide), (by intro x hx; cases hx)⟩
theorem f2_ok : FlOk f2 := ⟨by decide, by decide, (by intro x hx; cases hx), (by intro x hx; cases hx)⟩
theorem ex_at {w : World} {g : Nat} (h : ObjAt w g exRow 23) : RsAt w (some ⟨g, 0, none⟩) exL := by
  refine .inr ⟨g, 0, rfl, h.lt, fun k hk => ?_⟩
  have h3 : k < 3 := hk
  rcases (by omega : k = 0 ∨ k = 1 ∨ k = 2) with rfl | rfl | rfl
  · exact ⟨h.get rfl, h.get rfl, h.get rfl⟩
  · exact ⟨h.get rfl, h.get rfl, h.get rfl⟩
  · exact ⟨h.get rfl, h.get rfl, h.get rfl⟩
set_option maxRecDepth 100000 in
theorem example_any (w : World) : Calls Try.prog 37 #[] w fun e w' => e = .returned (.slice (some ⟨w.heap.size, 0, none⟩) 3 3) ∧ w' = w.alloc (.cells exRow 23) := by
  go_enter Try.func37, Try.ntmps37
  go_wp2
  go_ret
  exact ⟨rfl, rfl⟩
/-- The example, in memory. -/
def ExR (w : World) (e : Ending) (w' : World) : Prop := ∃ g, e = .returned (.slice (some ⟨g, 0, none⟩) 3 3) ∧ RsAt w' (some ⟨g, 0, none⟩) exL ∧ Below w.heap.size w w'
theorem example_r (w : World) : Calls Try.prog 37 #[] w (ExR w) := (example_any w).mono fun e w' ⟨h1, h2⟩ => by
  subst h2
  exact ⟨w.heap.size, h1, ex_at (ObjAt.new w exRow 23), (Below.refl _ w).alloc (Nat.le_refl _) _⟩
set_option maxRecDepth 100000 in
set_option maxHeartbeats 16000000 in
theorem known_any (w : World) : Calls Try.prog 13 #[] w fun e w' => e = .returned (.bool true) ∧ Below w.heap.size w w' := by
  have K0 := Lib.hid (Below.refl w.heap.size w)
  have s0 := K0.out.size
  go_enter Try.func13, Try.ntmps13
  go_wp2_with fail
  (with_reducible refine (example_r _).mono ?_)
  rintro e w1 ⟨g1, rfl, hE1, k1⟩
  have K1 := Lib.hid (K0.out.trans (k1.mono s0))
  have s1 := K1.out.size
  have cF := fresh_any exL 3 rfl (by omega) ex_sz ex_ok (some ⟨g1, 0, none⟩) 3 w1 hE1
  rw [ex_frN, ex_frE] at cF
  clear k1 hE1
  go_wp2_with fail
  (with_reducible refine cF.mono ?_)
  rintro e w2 ⟨rfl, k2⟩
  have K2 := Lib.hid (K1.out.trans (k2.mono s1))
  have s2 := K2.out.size
  clear cF k2
  go_wp2_with fail
  (with_reducible refine (example_r _).mono ?_)
  rintro e w3 ⟨g3, rfl, hE3, k3⟩
  have K3 := Lib.hid (K2.out.trans (k3.mono s2))
  have s3 := K3.out.size
  have kb := (Below.refl w3.heap.size w3).alloc (Nat.le_refl _) (.cells #[.string sAnn] 9)
  have HSS : SsAt (w3.alloc (.cells #[.string sAnn] 9)) (some ⟨w3.heap.size, 0, none⟩) [sAnn] := .inr ⟨w3.heap.size, 0, rfl, by simp, fun k hk => by
    obtain rfl : k = 0 := by simp at hk; exact hk
    exact (ObjAt.new w3 #[.string sAnn] 9).get rfl⟩
  have cS : Calls Try.prog 28 #[.slice (some ⟨g3, 0, none⟩) 3 3, .agg #[.slice (some ⟨w3.heap.size, 0, none⟩) 1 1, .int .i64 5, .int .i64 0, .slice none 0 0]] (w3.alloc (.cells #[.string sAnn] 9)) (NsR (w3.alloc (.cells #[.string sAnn] 9)).heap.size (srtU (selI f1 exL)) (w3.alloc (.cells #[.string sAnn] 9))) :=
    select_any exL 3 rfl (by omega) ex_ok (some ⟨g3, 0, none⟩) 3 f1 f1_ok (some ⟨w3.heap.size, 0, none⟩) 1 none 0 (w3.alloc (.cells #[.string sAnn] 9)) (hE3.below kb) HSS (.inl rfl)
  rw [ex_s1] at cS
  have KB := Lib.hid (K3.out.trans (kb.mono s3))
  have sKB := KB.out.size
  clear k3 hE3 kb HSS
  go_wp2_with fail
  (with_reducible refine cS.mono ?_)
  rintro e w4 ⟨A4, c4, rfl, hr4, k4⟩
  have K4 := Lib.hid (KB.out.trans (k4.mono sKB))
  have s4 := K4.out.size
  obtain ⟨_, _, e4, _, _, hN4⟩ := row_ns hr4 rfl
  injection e4 with q1 q2 q3
  subst q1 q3
  have N4 := Lib.hid hN4
  clear cS k4 hr4 hN4 q2
  go_wp2_with fail
  (with_reducible refine (example_r _).mono ?_)
  rintro e w5 ⟨g5, rfl, hE5, k5⟩
  have K5 := Lib.hid (K4.out.trans (k5.mono s4))
  have s5 := K5.out.size
  have N5 := Lib.hid (N4.out.below k5)
  have cC := chron_any exL 3 rfl (by omega) (some ⟨g5, 0, none⟩) 3 ⟨by omega, by decide⟩ w5 hE5
  rw [ex_chr] at cC
  clear k5 hE5
  go_wp2_with fail
  (with_reducible refine cC.mono ?_)
  rintro e w6 ⟨A6, c6, rfl, hR6, k6⟩
  have K6 := Lib.hid (K5.out.trans (k6.mono s5))
  have s6 := K6.out.size
  have N6 := Lib.hid (N5.out.below k6)
  have R6 := Lib.hid hR6
  clear cC k6 hR6
  go_wp2_with fail
  (with_reducible refine (example_r _).mono ?_)
  rintro e w7 ⟨g7, rfl, hE7, k7⟩
  have K7 := Lib.hid (K6.out.trans (k7.mono s6))
  have s7 := K7.out.size
  have N7 := Lib.hid (N6.out.below k7)
  have R7 := Lib.hid (R6.out.below k7)
  have cJ : Calls Try.prog 34 #[.slice (some ⟨g7, 0, none⟩) 3 3, .agg #[.slice none 0 0, .int .i64 0, .int .i64 7, .slice none 0 0]] w7 (fun e w' => ∃ AA cbb, e = .returned (.agg #[.slice none 0 0, .slice AA (srtU (selI f2 exL)).length cbb]) ∧ NsAt w' AA (srtU (selI f2 exL)) ∧ Below w7.heap.size w7 w') :=
    reject_any exL 3 rfl (by omega) ex_ok (some ⟨g7, 0, none⟩) 3 f2 f2_ok none 0 none 0 w7 hE7 (.inl rfl) (.inl rfl)
  rw [ex_s2] at cJ
  clear k7 hE7
  go_wp2_with fail
  (with_reducible refine cJ.mono ?_)
  rintro e w8 ⟨A8, c8, rfl, hN8, k8⟩
  have K8 := Lib.hid (K7.out.trans (k8.mono s7))
  have s8 := K8.out.size
  have kd := (Below.refl w8.heap.size w8).alloc (Nat.le_refl _) (.cells #[.slice none 0 0, .slice A8 2 c8] 60)
  have N8 := Lib.hid ((N7.out.below k8).below kd)
  have R8 := Lib.hid ((R7.out.below k8).below kd)
  have M8 := Lib.hid (hN8.below kd)
  have D8 := Lib.hid (ObjAt.new w8 #[.slice none 0 0, .slice A8 2 c8] 60)
  have K9 := Lib.hid (K8.out.trans (kd.mono s8))
  have s9 := K9.out.size
  clear cJ k8 hN8 kd
  go_wp2_with fail
  (with_reducible refine (example_r _).mono ?_)
  rintro e w10 ⟨g10, rfl, hE10, k10⟩
  have K10 := Lib.hid (K9.out.trans (k10.mono s9))
  have s10 := K10.out.size
  have kb := (Below.refl w10.heap.size w10).alloc (Nat.le_refl _) (.cells #[.int .i64 5, .string sBob, .int .i64 8] 23)
  have HBO : RsAt (w10.alloc (.cells #[.int .i64 5, .string sBob, .int .i64 8] 23)) (some ⟨w10.heap.size, 0, none⟩) bobL := .inr ⟨w10.heap.size, 0, rfl, by simp, fun k hk => by
    have h1 : k < 1 := hk
    obtain rfl : k = 0 := by omega
    have O := ObjAt.new w10 #[.int .i64 5, .string sBob, .int .i64 8] 23
    exact ⟨O.get rfl, O.get rfl, O.get rfl⟩⟩
  have cM : Calls Try.prog 26 #[.slice (some ⟨g10, 0, none⟩) 2 3, .slice (some ⟨w10.heap.size, 0, none⟩) 1 1] (w10.alloc (.cells #[.int .i64 5, .string sBob, .int .i64 8] 23)) (fun e w' => MrgR (exL.take 2) bobL e w' ∧ Below (w10.alloc (.cells #[.int .i64 5, .string sBob, .int .i64 8] 23)).heap.size (w10.alloc (.cells #[.int .i64 5, .string sBob, .int .i64 8] 23)) w') :=
    merge_any (exL.take 2) bobL 2 1 rfl rfl (by omega) (fun x hx => ex_sz x (List.mem_of_mem_take hx)) bob_sz (some ⟨g10, 0, none⟩) (some ⟨w10.heap.size, 0, none⟩) 3 1 ⟨by omega, by decide⟩ _ ((hE10.below kb).take 2) HBO
  have KC := Lib.hid (K10.out.trans (kb.mono s10))
  have sKC := KC.out.size
  have N10 := Lib.hid ((N8.out.below k10).below kb)
  have R10 := Lib.hid ((R8.out.below k10).below kb)
  have M10 := Lib.hid ((M8.out.below k10).below kb)
  have D10 := Lib.hid ((D8.out.below k10).below kb)
  clear k10 hE10 kb HBO
  go_wp2_with fail
  (with_reducible refine cM.mono ?_)
  rintro e w11 ⟨hmr, k11⟩
  obtain ⟨A9, n9, c9, rfl⟩ : ∃ A9 n9 c9, e = .returned (.tuple #[.slice A9 n9 c9, .int .i64 23]) := by
    rcases hmr with ⟨cc, e1, _, e3⟩ | ⟨M, A', cb, _, e2, _⟩
    · rw [ex_mrg] at e3; exact ⟨none, 0, 0, by rw [e1, ← e3]⟩
    · rw [ex_mrg] at e2; exact absurd e2 (by decide)
  have K11 := Lib.hid (KC.out.trans (k11.mono sKC))
  have s11 := K11.out.size
  have N11 := Lib.hid (N10.out.below k11)
  have R11 := Lib.hid (R10.out.below k11)
  have M11 := Lib.hid (M10.out.below k11)
  have D11 := Lib.hid (D10.out.below k11)
  clear cM k11 hmr
  have kb := (Below.refl w11.heap.size w11).alloc (Nat.le_refl _) (.cells #[.int .i64 2] 3)
  have HB2 : NsAt (w11.alloc (.cells #[.int .i64 2] 3)) (some ⟨w11.heap.size, 0, none⟩) [2] := .inr ⟨w11.heap.size, 0, rfl, by simp, fun k hk => by
    have h1 : k < 1 := hk
    obtain rfl : k = 0 := by omega
    exact (ObjAt.new w11 #[.int .i64 2] 3).get rfl⟩
  have cQ := same_any [2] [2] 1 1 rfl rfl (by omega) (by omega) A4 (some ⟨w11.heap.size, 0, none⟩) c4 1 (w11.alloc (.cells #[.int .i64 2] 3)) (N11.out.below kb) HB2
  rw [show decide (([2] : List Int) = [2]) = true by decide] at cQ
  have KD := Lib.hid (K11.out.trans (kb.mono s11))
  have sKD := KD.out.size
  have R12 := Lib.hid (R11.out.below kb)
  have M12 := Lib.hid (M11.out.below kb)
  have D12 := Lib.hid (D11.out.below kb)
  clear kb HB2
  go_wp2_with fail
  (with_reducible refine cQ.mono ?_)
  rintro e w12 ⟨rfl, k12⟩
  have K12 := Lib.hid (KD.out.trans (k12.mono sKD))
  have s12 := K12.out.size
  have hR := R12.out.below k12
  have M13 := Lib.hid (M12.out.below k12)
  have D13 := Lib.hid (D12.out.below k12)
  obtain ⟨g6, o6, rfl, hg6, hcl⟩ := hR.pos (by decide)
  have y0 : w12.cell? ⟨g6, o6, none⟩ = some (.int .i64 9) := (hcl 0 (by decide)).1
  have d0 := D13.out.a0
  have d1 := D13.out.a1
  have kb := (Below.refl w12.heap.size w12).alloc (Nat.le_refl _) (.cells #[.int .i64 5, .int .i64 9] 3)
  have HB3 : NsAt (w12.alloc (.cells #[.int .i64 5, .int .i64 9] 3)) (some ⟨w12.heap.size, 0, none⟩) [5, 9] := .inr ⟨w12.heap.size, 0, rfl, by simp, fun k hk => by
    have h1 : k < 2 := hk
    have O := ObjAt.new w12 #[.int .i64 5, .int .i64 9] 3
    rcases (by omega : k = 0 ∨ k = 1) with rfl | rfl
    · exact O.get rfl
    · exact O.get rfl⟩
  have cD := samedec_any [] [5, 9] [] [5, 9] 0 2 0 2 rfl rfl rfl rfl (by omega) (by omega) (by omega) (by omega) none A8 none (some ⟨w12.heap.size, 0, none⟩) 0 c8 0 2 (w12.alloc (.cells #[.int .i64 5, .int .i64 9] 3)) (.inl rfl) (M13.out.below kb) (.inl rfl) HB3
  rw [show (decide (([] : List Int) = []) && decide (([5, 9] : List Int) = [5, 9])) = true by decide] at cD
  have KE := Lib.hid (K12.out.trans (kb.mono s12))
  have sKE := KE.out.size
  clear cQ k12 kb HB3 hcl hR
  go_wp2_with fail
  (with_reducible refine cD.mono ?_)
  rintro e w13 ⟨rfl, k13⟩
  have K13 := Lib.hid (KE.out.trans (k13.mono sKE))
  clear cD k13
  go_wp2
  go_ret
  exact ⟨rfl, K13.out⟩
end Go.Proofs.Ytmpklkhjipclmaa
