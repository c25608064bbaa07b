/- Layer 23: what has come of the groups; removes. -/
import Derived.Test.YtjhppkjngifibaaEK
namespace Go.Proofs.Ytjhppkjngifibaa
open Go.RowKit Go.Lib
set_option linter.unusedVariables false

/-! ## What has come, plainly -/
theorem kAt_up {l : List Ly} (h : KSrt l) {i j : Nat} (hij : i ≤ j) (hj : j < l.length) : kAt l i ≤ kAt l j := by
  have hi : i < l.length := by omega
  rw [kAt_get hi, kAt_get hj]
  rcases Nat.lt_or_eq_of_le hij with h1 | h1
  · exact List.pairwise_iff_getElem.1 h i j hi hj h1
  · subst h1; exact Int.le_refl _
theorem GrP.before {l : List Ly} (h : KSrt l) {pre : List (Nat × Nat)} {s e : Nat} (hp : GrP l (pre ++ [(s, e)])) : ∀ j, j < s → kAt l j < kAt l s := by
  obtain ⟨h1, h2, h3⟩ := hp.last
  dsimp only at h2 h3
  have hsl : s < l.length := Nat.lt_of_lt_of_le h3.1 h3.2.1
  rcases List.eq_nil_or_concat pre with rfl | ⟨q, y, rfl⟩
  · rw [endG_nil] at h2; intro j hj; omega
  · rw [List.concat_eq_append] at h1 h2
    rw [endG_snoc] at h2
    obtain ⟨_, _, hy⟩ := h1.last
    rw [← h2] at hy
    intro j hj
    have e1 := hy.2.2.1 (s - 1) (by have := hy.1; omega) (by have := hy.1; omega)
    have e2 : kAt l s ≠ kAt l y.1 := hy.2.2.2.resolve_left (by omega)
    have e3 := kAt_up h (show j ≤ s - 1 by omega) (by omega)
    have e4 := kAt_up h (show s - 1 ≤ s by omega) hsl
    omega
theorem IsGr.behind {l : List Ly} (h : KSrt l) {s e : Nat} (hg : IsGr l s e) : ∀ j, e ≤ j → j < l.length → kAt l s < kAt l j := by
  intro j hj hl
  have e2 : kAt l e ≠ kAt l s := hg.2.2.2.resolve_left (by omega)
  have e3 := kAt_up h (show s ≤ e by have := hg.1; omega) (by omega)
  have e4 := kAt_up h hj hl
  omega
theorem grp_piece {l : List Ly} (h : KSrt l) {pre : List (Nat × Nat)} {s e : Nat} (hp : GrP l (pre ++ [(s, e)])) : (l.drop s).take (e - s) = grp l (kAt l s) := by
  obtain ⟨_, _, hg⟩ := hp.last
  dsimp only at hg
  have hb := hp.before h
  have hn := hg.behind h
  have hse := hg.1
  have hel := hg.2.1
  have e0 : l = l.take s ++ ((l.drop s).take (e - s) ++ l.drop e) := by
    rw [show l.drop e = (l.drop s).drop (e - s) by rw [List.drop_drop]; congr 1; omega, List.take_append_drop, List.take_append_drop]
  have g1 : grp (l.take s) (kAt l s) = [] := grp_none fun x hx => by
    obtain ⟨j, hj, rfl⟩ := List.mem_iff_getElem.1 hx
    rw [List.length_take] at hj
    rw [List.getElem_take]
    have := hb j (by omega)
    rw [kAt_get (show j < l.length by omega)] at this
    omega
  have g3 : grp (l.drop e) (kAt l s) = [] := grp_none fun x hx => by
    obtain ⟨j, hj, rfl⟩ := List.mem_iff_getElem.1 hx
    rw [List.length_drop] at hj
    rw [List.getElem_drop]
    have := hn (e + j) (by omega) (by omega)
    rw [kAt_get (show e + j < l.length by omega)] at this
    omega
  have g2 : grp ((l.drop s).take (e - s)) (kAt l s) = (l.drop s).take (e - s) := grp_all fun x hx => by
    obtain ⟨j, hj, rfl⟩ := List.mem_iff_getElem.1 hx
    rw [List.length_take, List.length_drop] at hj
    rw [List.getElem_take, List.getElem_drop]
    have := hg.2.2.1 (s + j) (by omega) (by omega)
    rw [kAt_get (show s + j < l.length by omega)] at this
    exact this
  have hh := congrArg (fun z => grp z (kAt l s)) e0
  rw [grp_append, grp_append, g1, g2, g3, List.nil_append, List.append_nil] at hh
  exact hh.symm
theorem keysU_app (a : List Ly) (k : Int) (hk : k ∉ keysU a) (b : List Ly) (hb : b ≠ []) (hk2 : ∀ x ∈ b, x.key = k) : keysU (a ++ b) = keysU a ++ [k] := by
  induction b using list_snoc_ind with
  | h0 => exact absurd rfl hb
  | h1 b x ih =>
    have hx := hk2 x (by simp)
    rw [← List.append_assoc, keysU_snoc, hx]
    by_cases he : b = []
    · subst he
      rw [List.append_nil]
      unfold addU
      rw [if_neg hk]
    · rw [ih he (fun y hy => hk2 y (by simp [hy]))]
      unfold addU
      rw [if_pos (by simp)]
theorem keysU_piece {l : List Ly} (h : KSrt l) {pre : List (Nat × Nat)} {s e : Nat} (hp : GrP l (pre ++ [(s, e)])) : keysU (l.take e) = keysU (l.take s) ++ [kAt l s] := by
  have hpc := grp_piece h hp
  obtain ⟨_, _, hg⟩ := hp.last
  dsimp only at hg
  have hse := hg.1
  have hel := hg.2.1
  have e1 : l.take e = l.take s ++ (l.drop s).take (e - s) := by
    rw [← List.take_add, show s + (e - s) = e by omega]
  rw [e1]
  refine keysU_app _ _ (fun hk => ?_) _ (fun he => ?_) (fun x hx => ?_)
  · obtain ⟨x, hx, hxk⟩ := (keysU_mem _ _).1 hk
    obtain ⟨j, hj, rfl⟩ := List.mem_iff_getElem.1 hx
    rw [List.length_take] at hj
    rw [List.getElem_take] at hxk
    have := hp.before h j (by omega)
    rw [kAt_get (show j < l.length by omega)] at this
    omega
  · have := congrArg List.length he
    rw [List.length_take, List.length_drop, List.length_nil] at this
    omega
  · rw [hpc] at hx; exact (grp_mem.1 hx).2
/-- What is made of the properties and layers by what has come. -/
def accH (a r : Int → Bool) (h : Hd) (pre : List (Nat × Nat)) : List Pr × List Ly := (keysU (h.lays.take (endG pre))).foldl (stepH a r h) (h.props, [])
theorem accH_nil (a r : Int → Bool) (h : Hd) : accH a r h [] = (h.props, []) := by unfold accH; rw [endG_nil]; rfl
theorem accH_snoc {a r : Int → Bool} {h : Hd} (ho : KSrt h.lays) {pre : List (Nat × Nat)} {s e : Nat} (hp : GrP h.lays (pre ++ [(s, e)])) :
    accH a r h (pre ++ [(s, e)]) = (putS (decL a r ((h.lays.drop s).take (e - s)) (pres h.props (kAt h.lays s))).2 (accH a r h pre).1 (kAt h.lays s), (accH a r h pre).2 ++ (decL a r ((h.lays.drop s).take (e - s)) (pres h.props (kAt h.lays s))).1) := by
  have h2 := hp.last.2.1
  dsimp only at h2
  unfold accH
  rw [endG_snoc, ← h2, keysU_piece ho hp, List.foldl_append, List.foldl_cons, List.foldl_nil, grp_piece ho hp]
  rfl
theorem accH_props {a r : Int → Bool} {h : Hd} (ho : Ord h) (pre : List (Nat × Nat)) : Srt (accH a r h pre).1 := by
  have : ∀ (ks : List Int) (S : List Pr × List Ly), Srt S.1 → Srt (ks.foldl (stepH a r h) S).1 := by
    intro ks
    induction ks with
    | nil => exact fun S h => h
    | cons k ks ih => exact fun S hS => ih _ (srt_put hS _ _)
  exact this _ _ ho.props
theorem accH_plen (a r : Int → Bool) (h : Hd) (pre : List (Nat × Nat)) : (accH a r h pre).1.length ≤ h.props.length + h.lays.length := by
  have : ∀ (ks : List Int) (S : List Pr × List Ly), (ks.foldl (stepH a r h) S).1.length ≤ S.1.length + ks.length := by
    intro ks
    induction ks with
    | nil => intro S; simp
    | cons k ks ih =>
      intro S
      have h1 := ih (stepH a r h S k)
      have h2 : (stepH a r h S k).1.length ≤ S.1.length + 1 := put_len _ _ _
      rw [List.foldl_cons, List.length_cons]; omega
  have h1 := this (keysU (h.lays.take (endG pre))) (h.props, [])
  have h2 := keysU_len (h.lays.take (endG pre))
  have h3 : (h.lays.take (endG pre)).length ≤ h.lays.length := by rw [List.length_take]; omega
  unfold accH
  dsimp only at h1
  omega
theorem accH_llen {a r : Int → Bool} {h : Hd} (ho : KSrt h.lays) (pre : List (Nat × Nat)) (hp : GrP h.lays pre) : (accH a r h pre).2.length ≤ endG pre := by
  induction pre using list_snoc_ind with
  | h0 => rw [accH_nil]; exact Nat.zero_le _
  | h1 pre x ih =>
    obtain ⟨s, e⟩ := x
    obtain ⟨h1, h2, h3⟩ := hp.last
    dsimp only at h2 h3
    have := ih h1
    rw [accH_snoc ho hp, List.length_append, endG_snoc]
    have h4 := decL_len a r ((h.lays.drop s).take (e - s)) (pres h.props (kAt h.lays s))
    rw [List.length_take, List.length_drop] at h4
    dsimp only at h4 ⊢
    have := h3.1
    omega
theorem accH_end {a r : Int → Bool} {h : Hd} {xs : List (Nat × Nat)} (he : endG xs = h.lays.length) : accH a r h xs = ((keysU h.lays).foldl (stepH a r h) (h.props, [])) := by unfold accH; rw [he, List.take_length]
/-! ## Whether an element disappears -/
set_option maxRecDepth 100000 in
set_option maxHeartbeats 8000000 in
theorem removes_any (ga gr : Nat) (ca cr : Array Value) (fa fr : Int → Bool) (dl : List Dl) (nd cd nl cl : Nat) (hd : dl.length = nd) (hnd : nd ≤ 100000) (i m : Int) (B C : Option Addr) (w : World) (hB : AtD w B dl) (hTa : TestN ga ca fa w.heap.size w) (hTr : TestN gr cr fr w.heap.size w) :
    Calls Try.prog 81 #[.agg #[.func (.func ga) #[] ca, .func (.func gr) #[] cr], .agg #[.int .i64 i, .int .i64 m, .slice B nd cd, .slice C nl cl]] w
      fun e w' => e = .returned (.bool ((decide (i ≠ 0) && fr i) || dl.any (fun d => fa d.rev))) ∧ Below w.heap.size w w' := by
  have b0 := ((Below.refl w.heap.size w).alloc (Nat.le_refl _) (.cells #[.func (.func ga) #[] ca, .func (.func gr) #[] cr] 81)).alloc (by simp) (.cells #[.int .i64 i, .int .i64 m, .slice B nd cd, .slice C nl cl] 26)
  have O1 := (ObjAt.new w #[.func (.func ga) #[] ca, .func (.func gr) #[] cr] 81).alloc (.cells #[.int .i64 i, .int .i64 m, .slice B nd cd, .slice C nl cl] 26)
  have O2 := ObjAt.new (w.alloc (.cells #[.func (.func ga) #[] ca, .func (.func gr) #[] cr] 81)) #[.int .i64 i, .int .i64 m, .slice B nd cd, .slice C nl cl] 26
  rw [World.size_alloc] at O2
  have egR := hTr.en
  have s0 := b0.size
  have cR := (hTr.later b0 s0).run i _ (Below.refl _ _)
  have cI := fun w' (hb : Below w.heap.size w w') (O : ObjAt w' w.heap.size #[.func (.func ga) #[] ca, .func (.func gr) #[] cr] 81) =>
    contfD_any dl nd hd hnd B cd 106 #[.pointer (some ⟨w.heap.size, 0, none⟩)] (fun d => fa d.rev) w' (hB.below hb (Nat.le_refl _)) (test_f106 ga ca fa w.heap.size w' (hTa.later hb hb.size) O.a0)
  generalize dl.any (fun d => fa d.rev) = rb at cI ⊢
  generalize hres : ((decide (i ≠ 0) && fr i) || rb) = res
  have HR := Lib.hid hres
  clear hres
  have HB := Lib.hid b0
  have P1 := Lib.hid O1
  have P2 := Lib.hid O2
  clear b0 O1 O2 hTa hTr hB hd
  by_cases hi : i = 0
  · have e1 : (i == 0) = true := by simpa using hi
    have e2 : (i != 0) = false := by simpa using hi
    have e3 : decide (i ≠ 0) = false := decide_eq_false (by simpa using hi)
    have HE := Lib.hid (show res = rb by rw [← HR.out, e3]; rfl)
    have c1 := cI _ HB.out P1.out
    clear hi e3 cR cI
    go_enter Try.func81, Try.ntmps81
    go_wp2_with fail
    (with_reducible refine c1.mono ?_)
    rintro e w1 ⟨rfl, k1⟩
    have K1 := Lib.hid (HB.out.trans (k1.mono s0))
    clear c1 k1
    go_wp2
    go_ret
    exact ⟨by rw [HE.out]; rfl, K1.out⟩
  · have e1 : (i == 0) = false := neB hi
    have e2 : (i != 0) = true := by simpa using hi
    have e3 : decide (i ≠ 0) = true := decide_eq_true hi
    have HE := Lib.hid (show res = (fr i || rb) by rw [← HR.out, e3, Bool.true_and])
    clear hi e3
    cases hv : fr i with
    | true =>
      rw [hv] at cR
      have HE2 := Lib.hid (HE.out.trans (by rw [hv]; rfl : _ = true))
      clear HE hv cI
      go_enter Try.func81, Try.ntmps81
      go_wp2_with (go_at_fn gr; (with_reducible refine cR.mono ?_); rintro e w1 ⟨rfl, k1⟩; have K1 := Lib.hid (HB.out.trans (k1.mono s0)))
      go_ret
      exact ⟨by rw [HE2.out]; rfl, K1.out⟩
    | false =>
      rw [hv] at cR
      have HE2 := Lib.hid (HE.out.trans (by rw [hv]; rfl : _ = rb))
      clear HE hv
      go_enter Try.func81, Try.ntmps81
      go_wp2_with (go_at_fn gr; (with_reducible refine cR.mono ?_); rintro e w1 ⟨rfl, k1⟩; have K1 := HB.out.trans (k1.mono s0); have Q1 := P1.out.below k1; have Q2 := P2.out.below k1; have y2 := Q2.get (k := 2) (v := .slice B nd cd) rfl; have c1 := cI _ K1 Q1; have s1 := K1.size; have KK1 := Lib.hid K1; clear K1 k1 Q1 Q2 cI)
      (with_reducible refine c1.mono ?_)
      rintro e w2 ⟨rfl, k2⟩
      have K2 := Lib.hid (KK1.out.trans (k2.mono s1))
      clear c1 k2 y2
      go_wp2
      go_ret
      exact ⟨by rw [HE2.out]; rfl, K2.out⟩
end Go.Proofs.Ytjhppkjngifibaa
