/- Layer 12: the reference's Continues (66). -/
import Derived.Test.YtkdhffidkopmcaaA5
namespace Go.Proofs.Ytkdhffidkopmcaa
open Go.RowKit Go.Lib
set_option linter.unusedVariables false

theorem plT_get {T : List (List Cl)} {i : Nat} (h : i < T.length) : (plT T)[i]? = some (plR T[i]) := by
  unfold plT; rw [List.getElem?_map, List.getElem?_eq_getElem h]; rfl
theorem At_of {T : List (List Cl)} {i k f t : Nat} {m : Int} (h : i < T.length) (hx : (plR T[i])[k]? = some (f, t, m)) : Gd.At (plT T) i k f t m := ⟨_, plT_get h, hx⟩
theorem plR_val {r : List Cl} {k : Nat} (h : k < r.length) {f t : Nat} {m : Int} (hx : (plR r)[k]? = some (f, t, m)) : (val r[k]).2 = m := by
  have h1 := Gd.cel_get (r.map val) 0 k (by rw [List.length_map]; exact h)
  unfold plR at hx
  rw [List.getElem?_eq_getElem (by rw [Gd.cel_len, List.length_map]; exact h), h1] at hx
  simp only [Option.some.injEq, Prod.mk.injEq, List.getElem_map] at hx
  exact hx.2.2
/-- A row out of a table. -/
theorem TbAt.row {w : World} {A : Option Addr} {T : List (List Cl)} (h : TbAt w A T) {i : Nat} (hi : i < T.length) : ∃ g o, A = some ⟨g, o, none⟩ ∧ g < w.heap.size ∧ ∀ j (h : j < T.length), RwAt w g (o + j * 6) T[j] := by
  rcases h with h0 | h
  · rw [h0] at hi; exact absurd hi (Nat.not_lt_zero _)
  · exact h
/-- What Continues hands back. -/
def ContR (T : Gd.Tb) (i k : Nat) (e : Ending) : Prop := ∃ (f t : Nat) (m : Int), Gd.At T i k f t m ∧ ∃ b : Bool, e = .returned (.bool b) ∧ (b = true ↔ Gd.Kc T i f t)
theorem kc_not_zero {T : Gd.Tb} {f t : Nat} : (false = true ↔ Gd.Kc T 0 f t) := ⟨fun h => absurd h Bool.false_ne_true, fun h => absurd h Gd.Kc.zero⟩

set_option maxRecDepth 100000 in
set_option maxHeartbeats 8000000 in
theorem cont_any (T : List (List Cl)) (hT : GoodT T) (A : Option Addr) (N c : Nat) (hN : T.length = N) (hc : N ≤ c ∧ c ≤ maxLen) (i k : Nat) (hi : i < N) (hk : ∀ h : i < T.length, k < T[i].length) (w : World) (hA : TbAt w A T) :
    Calls Try.prog 66 #[.slice A N c, .int .i64 (i : Nat), .int .i64 (k : Nat)] w fun e w' => ContR (plT T) i k e ∧ Below w.heap.size w w' := by
  have hiT : i < T.length := by omega
  obtain ⟨g, o, rfl, hg, hrows⟩ := hA.row hiT
  have hkr := hk hiT
  obtain ⟨a1, a2, B, n, cB, D, dn, dc, Y, yn, yc, Ac, kc, c0, c1, c2, c3, c4, c5, h1, h2, hcs⟩ := hrows i hiT
  have hgr := hT.2 _ (List.getElem_mem hiT)
  have hc1 := hc.1
  have hc2 := hc.2
  unfold maxLen at hc2
  have cSp := span_any T[i] (.slice B n cB) (.int .i64 a1) (.int .i64 a2) (.slice D dn dc) (.slice Y yn yc) Ac _ kc rfl (by have := hgr.1; omega) ⟨h1, h2⟩ k hkr w hcs
  have cM := Go.Lib.hid (fun w' (hb : Below w.heap.size w w') => rmerge_any T[i] (.slice B n cB) (.int .i64 a1) (.int .i64 a2) (.slice D dn dc) (.slice Y yn yc) Ac _ kc rfl ⟨h1, h2⟩ k hkr w' (hcs.below hb))
  have HRW := Go.Lib.hid hrows
  have CC := Go.Lib.hid (fun w' (hb : Below w.heap.size w w') => (⟨(hb.cell (p := ⟨g, o + i * 6, none⟩) hg).trans c0, (hb.cell (p := ⟨g, o + i * 6 + 1, none⟩) hg).trans c1, (hb.cell (p := ⟨g, o + i * 6 + 2, none⟩) hg).trans c2, (hb.cell (p := ⟨g, o + i * 6 + 3, none⟩) hg).trans c3, (hb.cell (p := ⟨g, o + i * 6 + 4, none⟩) hg).trans c4, (hb.cell (p := ⟨g, o + i * 6 + 5, none⟩) hg).trans c5⟩ : _ ∧ _ ∧ _ ∧ _ ∧ _ ∧ _))
  have hgood := hT.2
  have q0 : (0 : Int) ≤ (i : Int) := by omega
  have q1 : (i : Int) < (N : Int) := by omega
  have HN := Go.Lib.hid hN
  have HPV := Go.Lib.hid (fun f t m hx => plR_val (f := f) (t := t) (m := m) hkr hx)
  have HAT := Go.Lib.hid (fun f t m hx => At_of (k := k) (f := f) (t := t) (m := m) hiT hx)
  have HG := Go.Lib.hid hT
  clear hrows hcs h1 h2 hgr hk hA hN hc hT hgood
  go_enter Try.func66, Try.ntmps66
  go_wp2_with fail
  (with_reducible refine cSp.mono ?_)
  rintro e w1 ⟨⟨f, t, m, hx, rfl⟩, k1⟩
  have hat := HAT.out f t m hx
  have HATx := Go.Lib.hid hat
  have HX := Go.Lib.hid hx
  have K1 := Go.Lib.hid k1
  clear cSp hat hx c0 c1 c2 c3 c4 c5 k1
  rcases Nat.eq_zero_or_pos i with rfl | hpos
  · go_wp2
    go_ret
    exact ⟨⟨f, t, m, HATx.out, false, by simp, kc_not_zero⟩, K1.out⟩
  · obtain ⟨j, hj⟩ : ∃ j, i = j + 1 := ⟨i - 1, by omega⟩
    have q2 : ((i : Int) == 0) = false := by rw [beq_eq_false_iff_ne]; omega
    have q3 : IntKind.i64.wrap ((i : Int) - 1) = (j : Int) := by rw [show (i : Int) - 1 = j by omega]; exact IntWalk.i64_in _ (by omega)
    have q4 : (0 : Int) ≤ (j : Int) := by omega
    have q5 : (j : Int) < (N : Int) := by omega
    have hjT : j < T.length := by omega
    have HJ := Go.Lib.hid hj
    clear hj
    by_cases hft : f = t
    · have b1 : ((f : Int) == (t : Int)) = true := beq_iff_eq.2 (by omega)
      have HE := Go.Lib.hid hft
      clear hft
      go_wp2
      go_ret
      exact ⟨⟨f, t, m, HATx.out, false, by simp, fun h => absurd h Bool.false_ne_true, fun h => by obtain ⟨_, _, _, h⟩ := h.has; have := HE.out; omega⟩, K1.out⟩
    · have b1 : ((f : Int) == (t : Int)) = false := beq_eq_false_iff_ne.2 (by omega)
      have hlt : f < t := by have := HATx.out.ok (plT_ok T); omega
      have HLT := Go.Lib.hid hlt
      have hm := cM.out w1 K1.out
      obtain ⟨d0, d1, d2, d3, d4, d5⟩ := CC.out w1 K1.out
      have hsz := K1.out.size
      go_wp2_with fail
      (with_reducible refine hm.mono ?_)
      rintro e w2 ⟨⟨hkr', rfl⟩, k2⟩
      rw [HPV.out f t m HX.out]
      have K2 := Go.Lib.hid (K1.out.trans (k2.mono hsz))
      have hne : ∀ q, (q = true ↔ Gd.Kc (plT T) i f t) → Gd.Kc (plT T) i f t → m = 2 := fun q _ h => (Gd.Has.uniq (plT_ok T) (HATx.out.has HLT.out) h.has).2
      have HNE := Go.Lib.hid hne
      clear hm d0 d1 d2 d3 d4 d5 k2 hne
      by_cases hm2 : m = 2
      · have b2 : (m == 2) = true := beq_iff_eq.2 hm2
        have b2' : (m != 2) = false := by simp [hm2]
        have HM2 := Go.Lib.hid hm2
        clear hm2
        obtain ⟨a1, a2, B, n, cB, D, dn, dc, Y, yn, yc, Ac, kc, c0, c1, c2, c3, c4, c5, h1, h2, hcs⟩ := (HRW.out j hjT).below hg K2.out
        have hgr := HG.out.2 _ (List.getElem_mem hjT)
        have cSa := same_any T[j] (.slice B n cB) (.int .i64 a1) (.int .i64 a2) (.slice D dn dc) (.slice Y yn yc) Ac _ kc rfl (by have := hgr.1; omega) ⟨h1, h2⟩ f t hlt w2 hcs
        have cMj := Go.Lib.hid (fun q (hq : q < T[j].length) w' (hb : Below w2.heap.size w2 w') => rmerge_any T[j] (.slice B n cB) (.int .i64 a1) (.int .i64 a2) (.slice D dn dc) (.slice Y yn yc) Ac _ kc rfl ⟨h1, h2⟩ q hq w' (hcs.below hb))
        have hg2 := Nat.lt_of_lt_of_le hg K2.out.size
        have CJ := Go.Lib.hid (fun w' (hb : Below w2.heap.size w2 w') => (⟨(hb.cell (p := ⟨g, o + j * 6, none⟩) hg2).trans c0, (hb.cell (p := ⟨g, o + j * 6 + 1, none⟩) hg2).trans c1, (hb.cell (p := ⟨g, o + j * 6 + 2, none⟩) hg2).trans c2, (hb.cell (p := ⟨g, o + j * 6 + 3, none⟩) hg2).trans c3, (hb.cell (p := ⟨g, o + j * 6 + 4, none⟩) hg2).trans c4, (hb.cell (p := ⟨g, o + j * 6 + 5, none⟩) hg2).trans c5⟩ : _ ∧ _ ∧ _ ∧ _ ∧ _ ∧ _))
        have hsz2 := K2.out.size
        clear hcs h1 h2 hgr
        go_wp2_with fail
        (with_reducible refine cSa.mono ?_)
        rintro e w3 ⟨hS, k3⟩
        have hsz3 := k3.size
        have K3 := Go.Lib.hid k3
        clear cSa c0 c1 c2 c3 c4 c5 k3
        rcases hS with ⟨q, mq, hq, rfl⟩ | ⟨hno, rfl⟩
        · have hql : q < T[j].length := by rw [← plR_len]; exact (List.getElem?_eq_some_iff.1 hq).1
          obtain ⟨d0, d1, d2, d3, d4, d5⟩ := CJ.out w3 K3.out
          have hm := cMj.out q hql w3 K3.out
          have q6 : ¬ (q : Int) < 0 := by omega
          have HQ := Go.Lib.hid hq
          have HAQ := Go.Lib.hid (At_of hjT hq)
          clear hq
          go_wp2_with fail
          (with_reducible refine hm.mono ?_)
          rintro e w4 ⟨⟨hkr', rfl⟩, k4⟩
          rw [plR_val hkr' HQ.out]
          have K4 := Go.Lib.hid (K2.out.trans ((K3.out.trans (k4.mono hsz3)).mono hsz2))
          clear hm d0 d1 d2 d3 d4 d5 k4
          by_cases hq1 : mq = 1
          · have b3 : (mq == 1) = true := beq_iff_eq.2 hq1
            have HQ1 := Go.Lib.hid hq1
            clear hq1
            go_wp2
            go_ret
            refine ⟨⟨f, t, m, HATx.out, true, by simp, fun _ => ⟨j, HJ.out, ?_, .inl ?_⟩, fun _ => rfl⟩, K4.out⟩
            · have := HATx.out.has HLT.out; rw [HM2.out] at this; exact this
            · have := HAQ.out.has HLT.out; rw [HQ1.out] at this; exact this
          · have b3 : (mq == 1) = false := beq_eq_false_iff_ne.2 hq1
            have HQ1 := Go.Lib.hid hq1
            clear hq1
            by_cases hq2 : mq = 2
            · have b4 : (mq == 2) = true := beq_iff_eq.2 hq2
              have HQ2 := Go.Lib.hid hq2
              clear hq2
              go_wp2
              go_ret
              refine ⟨⟨f, t, m, HATx.out, true, by simp, fun _ => ⟨j, HJ.out, ?_, .inr ?_⟩, fun _ => rfl⟩, K4.out⟩
              · have := HATx.out.has HLT.out; rw [HM2.out] at this; exact this
              · have := HAQ.out.has HLT.out; rw [HQ2.out] at this; exact this
            · have b4 : (mq == 2) = false := beq_eq_false_iff_ne.2 hq2
              have HQ2 := Go.Lib.hid hq2
              clear hq2
              go_wp2
              go_ret
              refine ⟨⟨f, t, m, HATx.out, false, by simp, fun h => absurd h Bool.false_ne_true, fun h => ?_⟩, K4.out⟩
              rw [HJ.out] at h
              rcases h.up with u | u
              · exact absurd (Gd.Has.uniq (plT_ok T) (HAQ.out.has HLT.out) u).2 HQ1.out
              · exact absurd (Gd.Has.uniq (plT_ok T) (HAQ.out.has HLT.out) u).2 HQ2.out
        · have HNO := Go.Lib.hid hno
          clear hno
          go_wp2
          go_ret
          refine ⟨⟨f, t, m, HATx.out, false, by simp, fun h => absurd h Bool.false_ne_true, fun h => ?_⟩, K2.out.trans (K3.out.mono hsz2)⟩
          rw [HJ.out] at h
          have key : ∀ mm, ¬ Gd.Has (plT T) j f t mm := fun mm ⟨L, h1, h2, _⟩ => by
            rw [plT_get hjT] at h1; cases h1
            exact HNO.out mm h2
          rcases h.up with u | u
          · exact absurd u (key _)
          · exact absurd u (key _)
      · have b2 : (m == 2) = false := beq_eq_false_iff_ne.2 hm2
        have b2' : (m != 2) = true := by simp [hm2]
        have HM2 := Go.Lib.hid hm2
        clear hm2
        go_wp2
        go_ret
        exact ⟨⟨f, t, m, HATx.out, false, by simp, fun h => absurd h Bool.false_ne_true, fun h => absurd (HNE.out true ⟨fun _ => h, fun _ => rfl⟩ h) HM2.out⟩, K2.out⟩
end Go.Proofs.Ytkdhffidkopmcaa
