/- Layer 5: the reference's Splice. -/
import Derived.Test.YtioehncdkdfcmaaI1
namespace Go.Proofs.Ytioehncdkdfcmaa
open Go.RowKit Go.Lib Im

theorem ret_len {B : Option Addr} {n n' c : Nat} (h : n = n') : Ending.returned (.slice B n c) = .returned (.slice B n' c) := by rw [h]
theorem own_len {w : World} {b n n' c : Nat} {B : Option Addr} {xs : List Value} (h : w.ownsRow b 3 1 (.slice B n c) n xs) (e : n = n') : w.ownsRow b 3 1 (.slice B n' c) n' xs := e ▸ h
set_option maxRecDepth 100000 in
set_option maxHeartbeats 8000000 in
theorem rsplice_any (A : Option Addr) (n c : Nat) (l : List Int) (hl : l.length = n) (a r t m n' : Nat) (v : Int) (w : World) (hA : w.ownsRow 0 3 1 (.slice A n c) n (intsV l)) (ht : a + r = t) (hn' : a + m + (n - t) = n') (htn : t ≤ n) (hn : n ≤ 1000000) (hm : m ≤ 1000) :
    Calls Try.prog 38 #[.slice A n c, .int .i64 a, .int .i64 r, .int .i64 m, .int .i64 v] w (OwnL (l.take a ++ List.replicate m v ++ l.drop t) n' w) := by
  obtain ⟨i0, hi, hz0, hz1, hz2⟩ := info_parts info3
  have cN := fun w' => rnew_any m v w' (by omega)
  unfold OwnL at cN
  have HA := Go.Lib.hid hA
  have HL := Go.Lib.hid hl
  have hat : (a : Int) + (r : Int) = (t : Int) := by omega
  have han : a ≤ t := by omega
  have HNE := Go.Lib.hid hn'
  have HTK : Hid ((intsV (l.take a)).length = a * 1) := Go.Lib.hid (by rw [intsV_len, List.length_take]; omega)
  have HDR : Hid ((intsV (l.drop t)).length = (n - t) * 1) := Go.Lib.hid (by rw [intsV_len, List.length_drop]; omega)
  have HRP : Hid ((intsV (List.replicate m v)).length = m * 1) := Go.Lib.hid (by rw [intsV_len, List.length_replicate]; omega)
  obtain ⟨X, cb, e, hX1, hX2⟩ := own_formI hA
  simp only [Value.slice.injEq, true_and] at e
  obtain ⟨rfl, rfl⟩ := e
  obtain ⟨hnc, hcm⟩ : n ≤ c ∧ c ≤ maxLen := by
    rcases hA.2 with ⟨hv, h0⟩ | ⟨g, cap, cur, hv, hb, hg, hc1, hc2, _⟩
    · injection hv with _ h1 h2
      subst h1; subst h2
      exact ⟨Nat.le_refl _, Nat.zero_le _⟩
    · injection hv with _ _ h2
      subst h2
      exact ⟨hc1, hc2⟩
  unfold maxLen at hcm
  clear hn' hl ht
  cases A with
  | none =>
    obtain ⟨rfl, rfl⟩ := hX1 rfl
    obtain rfl : t = 0 := by omega
    obtain rfl : a = 0 := by omega
    have HNN : Hid ((none : Option Addr) = none → 0 = 0 ∧ 0 = 0) := Go.Lib.hid (fun _ => ⟨rfl, rfl⟩)
    have HS1 : Hid (∀ ad, (none : Option Addr) = some ad → ∀ j u, (intsV (l.take 0))[j]? = some u → (w.alloc (.cells #[] 3)).cell? (ad.add j) = some u) := Go.Lib.hid (fun ad e => by cases e)
    clear hA hX1 hX2
    go_enter Try.func38, Try.ntmps38
    go_wp2_with (at_builtin; refine wpList_append_src rfl _ _ 26 rfl w.heap.size 3 i0 (.int .i64 0) 1 8 Try.underlying26 hi hz0 hz1 hz2 rfl (by decide) _ _ _ rfl (World.ownsRow_made w #[] 0 (Nat.le_refl _) (Nat.zero_le _) (by simp)) none 0 0 (intsV (l.take 0)) rfl HNN.out (HTK.out) HS1.out (intsV_one _) (by unfold maxLen; omega) (by omega) (by simp) ?_; intro v1 w1 hown1 hgrow1; have hown2 : w1.ownsRow w.heap.size 3 1 v1 0 (intsV (l.take 0)) := (by simpa using hown1); obtain ⟨B1, cb1, rfl, hB1n, hB1⟩ := own_formI hown2)
    have HB1 : Hid (Below w.heap.size w w1) := Go.Lib.hid (((Below.refl _ w).alloc (Nat.le_refl _) _).grown hgrow1 (by simp) (fun j e => ((World.ownsRow_made (base := w.heap.size) (e := 3) (size := 1) w #[] 0 (Nat.le_refl _) (Nat.zero_le _) rfl).lt j e).1))
    have HO1 := Go.Lib.hid hown2
    clear hown1 hown2 hgrow1 hB1n hB1
    (with_reducible refine (cN _).mono ?_)
    rintro e w2 ⟨B2, c2, rfl, ho2, hb2⟩
    have HO2 : Hid (w2.ownsRow w.heap.size 3 1 (.slice B1 0 cb1) 0 (intsV (l.take 0))) := Go.Lib.hid (row_below HO1.out hb2)
    have HB2 : Hid (Below w.heap.size w w2) := Go.Lib.hid (HB1.out.trans (hb2.mono HB1.out.size))
    have HBS2 : Hid (w.heap.size ≤ w2.heap.size) := Go.Lib.hid HB2.out.size
    have HN2 : Hid (B2 = none → m = 0 ∧ c2 = 0) := Go.Lib.hid (by
      obtain ⟨B, cb, e, h, _⟩ := own_formI ho2
      injection e with e1 _ e3
      subst e1; subst e3
      exact h)
    have HS2 : Hid (∀ ad, B2 = some ad → ∀ j u, (intsV (List.replicate m v))[j]? = some u → w2.cell? (ad.add j) = some u) := Go.Lib.hid (by
      intro ad e j u hj
      subst e
      obtain ⟨B, cb, e, _, h⟩ := own_formI ho2
      injection e with e1 _ e3
      obtain ⟨e2, _, hlt⟩ := h ad e1.symm
      have := (ho2.cells (g := ad.block) (by rw [e2]; rfl)) j u hj
      rwa [← e2] at this)
    clear cN ho2 hb2
    go_wp2_with (first
      | (at_builtin; refine wpList_append_src rfl _ _ 26 rfl w.heap.size 3 i0 (.int .i64 0) 1 8 Try.underlying26 hi hz0 hz1 hz2 rfl (by decide) _ _ _ rfl HO2.out B2 m c2 (intsV (List.replicate m v)) rfl HN2.out (HRP.out) HS2.out (intsV_one _) (by unfold maxLen; omega) (by omega) (HBS2.out) ?_
         intro v3 w3 hown3 hgrow3
         rw [Nat.zero_add] at hown3
         obtain ⟨B3, cb3, rfl, hB3n, hB3⟩ := own_formI hown3
         have HB3 : Hid (Below w.heap.size w w3) := Go.Lib.hid (HB2.out.grown hgrow3 HBS2.out (fun j e => (HO2.out.lt j e).1))
         have HBS3 : Hid (w.heap.size ≤ w3.heap.size) := Go.Lib.hid HB3.out.size
         have HO3 := Go.Lib.hid hown3
         have HS3 : Hid (∀ ad, (none : Option Addr) = some ad → ∀ j u, (intsV (l.drop 0))[j]? = some u → w3.cell? (ad.add j) = some u) := Go.Lib.hid (by
           intro ad e
           cases e)
         clear hown3 hgrow3 hB3n hB3)
      | (go_loud (at_builtin; refine wpList_append_src rfl _ _ 26 rfl w.heap.size 3 i0 (.int .i64 0) 1 8 Try.underlying26 hi hz0 hz1 hz2 rfl (by decide) _ _ _ rfl HO3.out none 0 0 (intsV (l.drop 0)) rfl (fun _ => ⟨rfl, rfl⟩) (HDR.out.trans (by omega)) HS3.out (intsV_one _) (by unfold maxLen; omega) (by omega) (HBS3.out) ?_)
         intro v4 w4 hown4 hgrow4
         obtain ⟨B4, cb4, rfl, hB4n, hB4⟩ := own_formI hown4))
    have HB4 : Hid (Below w.heap.size w w4) := Go.Lib.hid (HB3.out.grown hgrow4 HBS3.out (fun j e => (HO3.out.lt j e).1))
    have HO4 := Go.Lib.hid hown4
    clear hown4 hgrow4 hB4n hB4
    go_ret
    exact ⟨B4, cb4, ret_len (by have := HNE.out; omega), by rw [intsV_append, intsV_append]; exact own_len HO4.out (by have := HNE.out; omega), HB4.out⟩
  | some ad =>
    obtain ⟨e, _, hlt⟩ := hX2 ad rfl
    obtain ⟨g, hg⟩ : ∃ g, ad = ⟨g, 0, none⟩ := ⟨_, e⟩
    subst hg
    have HG : Hid (g < w.heap.size) := Go.Lib.hid hlt
    have HNN : Hid ((some (⟨g, 0, none⟩ : Addr)) = none → a = 0 ∧ c = 0) := Go.Lib.hid (fun e => by cases e)
    have HS1 : Hid (∀ ad, (some (⟨g, 0, none⟩ : Addr)) = some ad → ∀ j u, (intsV (l.take a))[j]? = some u → (w.alloc (.cells #[] 3)).cell? (ad.add j) = some u) := Go.Lib.hid (by
      intro ad e j u hj
      injection e with e
      subst e
      have hja : j < a := by
        have := (List.getElem?_eq_some_iff.1 hj).1
        rw [intsV_len, List.length_take] at this
        omega
      have hj' : (intsV l)[j]? = some u := by
        rw [← hj]
        simp [intsV, hja]
      have := (HA.out.cells (g := g) rfl) j u hj'
      rw [Addr.add_lit] at this
      rw [Addr.add_lit]
      exact Lib.cell?_alloc_some _ this)
    clear hA hX1 hX2 e hlt
    by_cases hct : c = t
    · obtain rfl : n = t := by omega
      subst hct
      go_enter Try.func38, Try.ntmps38
      go_wp2_with (at_builtin; refine wpList_append_src rfl _ _ 26 rfl w.heap.size 3 i0 (.int .i64 0) 1 8 Try.underlying26 hi hz0 hz1 hz2 rfl (by decide) _ _ _ rfl (World.ownsRow_made w #[] 0 (Nat.le_refl _) (Nat.zero_le _) (by simp)) (some ⟨g, 0, none⟩) a c (intsV (l.take a)) rfl HNN.out (HTK.out) HS1.out (intsV_one _) (by unfold maxLen; omega) (by omega) (by simp) ?_; intro v1 w1 hown1 hgrow1; have hown2 : w1.ownsRow w.heap.size 3 1 v1 a (intsV (l.take a)) := (by simpa using hown1); obtain ⟨B1, cb1, rfl, hB1n, hB1⟩ := own_formI hown2)
      have HB1 : Hid (Below w.heap.size w w1) := Go.Lib.hid (((Below.refl _ w).alloc (Nat.le_refl _) _).grown hgrow1 (by simp) (fun j e => ((World.ownsRow_made (base := w.heap.size) (e := 3) (size := 1) w #[] 0 (Nat.le_refl _) (Nat.zero_le _) rfl).lt j e).1))
      have HO1 := Go.Lib.hid hown2
      clear hown1 hown2 hgrow1 hB1n hB1
      (with_reducible refine (cN _).mono ?_)
      rintro e w2 ⟨B2, c2, rfl, ho2, hb2⟩
      have HO2 : Hid (w2.ownsRow w.heap.size 3 1 (.slice B1 a cb1) a (intsV (l.take a))) := Go.Lib.hid (row_below HO1.out hb2)
      have HB2 : Hid (Below w.heap.size w w2) := Go.Lib.hid (HB1.out.trans (hb2.mono HB1.out.size))
      have HBS2 : Hid (w.heap.size ≤ w2.heap.size) := Go.Lib.hid HB2.out.size
      have HN2 : Hid (B2 = none → m = 0 ∧ c2 = 0) := Go.Lib.hid (by
        obtain ⟨B, cb, e, h, _⟩ := own_formI ho2
        injection e with e1 _ e3
        subst e1; subst e3
        exact h)
      have HS2 : Hid (∀ ad, B2 = some ad → ∀ j u, (intsV (List.replicate m v))[j]? = some u → w2.cell? (ad.add j) = some u) := Go.Lib.hid (by
        intro ad e j u hj
        subst e
        obtain ⟨B, cb, e, _, h⟩ := own_formI ho2
        injection e with e1 _ e3
        obtain ⟨e2, _, hlt⟩ := h ad e1.symm
        have := (ho2.cells (g := ad.block) (by rw [e2]; rfl)) j u hj
        rwa [← e2] at this)
      clear cN ho2 hb2
      go_wp2_with (first
        | (at_builtin; refine wpList_append_src rfl _ _ 26 rfl w.heap.size 3 i0 (.int .i64 0) 1 8 Try.underlying26 hi hz0 hz1 hz2 rfl (by decide) _ _ _ rfl HO2.out B2 m c2 (intsV (List.replicate m v)) rfl HN2.out (HRP.out) HS2.out (intsV_one _) (by unfold maxLen; omega) (by omega) (HBS2.out) ?_
           intro v3 w3 hown3 hgrow3
           obtain ⟨B3, cb3, rfl, hB3n, hB3⟩ := own_formI hown3
           have HB3 : Hid (Below w.heap.size w w3) := Go.Lib.hid (HB2.out.grown hgrow3 HBS2.out (fun j e => (HO2.out.lt j e).1))
           have HBS3 : Hid (w.heap.size ≤ w3.heap.size) := Go.Lib.hid HB3.out.size
           have HO3 := Go.Lib.hid hown3
           have HS3 : Hid (∀ ad, ((some ⟨g, 0, none⟩) : Option Addr) = some ad → ∀ j u, (intsV (l.drop c))[j]? = some u → w3.cell? (ad.add j) = some u) := Go.Lib.hid (by
             intro ad e j u hj
             have : (intsV (l.drop c)) = [] := by rw [List.drop_eq_nil_of_le (by rw [HL.out]; omega)]; rfl
             rw [this] at hj
             simp at hj)
           clear hown3 hgrow3 hB3n hB3)
        | (go_loud (at_builtin; refine wpList_append_src rfl _ _ 26 rfl w.heap.size 3 i0 (.int .i64 0) 1 8 Try.underlying26 hi hz0 hz1 hz2 rfl (by decide) _ _ _ rfl HO3.out (some ⟨g, 0, none⟩) 0 0 (intsV (l.drop c)) rfl (fun e => by cases e) (HDR.out.trans (by omega)) HS3.out (intsV_one _) (by unfold maxLen; omega) (by omega) (HBS3.out) ?_)
           intro v4 w4 hown4 hgrow4
           obtain ⟨B4, cb4, rfl, hB4n, hB4⟩ := own_formI hown4))
      have HB4 : Hid (Below w.heap.size w w4) := Go.Lib.hid (HB3.out.grown hgrow4 HBS3.out (fun j e => (HO3.out.lt j e).1))
      have HO4 := Go.Lib.hid hown4
      clear hown4 hgrow4 hB4n hB4
      go_ret
      exact ⟨B4, cb4, ret_len (by have := HNE.out; omega), by rw [intsV_append, intsV_append]; exact own_len HO4.out (by have := HNE.out; omega), HB4.out⟩
    · have hct2 : ¬ (t = c) := by omega
      go_enter Try.func38, Try.ntmps38
      go_wp2_with (at_builtin; refine wpList_append_src rfl _ _ 26 rfl w.heap.size 3 i0 (.int .i64 0) 1 8 Try.underlying26 hi hz0 hz1 hz2 rfl (by decide) _ _ _ rfl (World.ownsRow_made w #[] 0 (Nat.le_refl _) (Nat.zero_le _) (by simp)) (some ⟨g, 0, none⟩) a c (intsV (l.take a)) rfl HNN.out (HTK.out) HS1.out (intsV_one _) (by unfold maxLen; omega) (by omega) (by simp) ?_; intro v1 w1 hown1 hgrow1; have hown2 : w1.ownsRow w.heap.size 3 1 v1 a (intsV (l.take a)) := (by simpa using hown1); obtain ⟨B1, cb1, rfl, hB1n, hB1⟩ := own_formI hown2)
      have HB1 : Hid (Below w.heap.size w w1) := Go.Lib.hid (((Below.refl _ w).alloc (Nat.le_refl _) _).grown hgrow1 (by simp) (fun j e => ((World.ownsRow_made (base := w.heap.size) (e := 3) (size := 1) w #[] 0 (Nat.le_refl _) (Nat.zero_le _) rfl).lt j e).1))
      have HO1 := Go.Lib.hid hown2
      clear hown1 hown2 hgrow1 hB1n hB1
      (with_reducible refine (cN _).mono ?_)
      rintro e w2 ⟨B2, c2, rfl, ho2, hb2⟩
      have HO2 : Hid (w2.ownsRow w.heap.size 3 1 (.slice B1 a cb1) a (intsV (l.take a))) := Go.Lib.hid (row_below HO1.out hb2)
      have HB2 : Hid (Below w.heap.size w w2) := Go.Lib.hid (HB1.out.trans (hb2.mono HB1.out.size))
      have HBS2 : Hid (w.heap.size ≤ w2.heap.size) := Go.Lib.hid HB2.out.size
      have HN2 : Hid (B2 = none → m = 0 ∧ c2 = 0) := Go.Lib.hid (by
        obtain ⟨B, cb, e, h, _⟩ := own_formI ho2
        injection e with e1 _ e3
        subst e1; subst e3
        exact h)
      have HS2 : Hid (∀ ad, B2 = some ad → ∀ j u, (intsV (List.replicate m v))[j]? = some u → w2.cell? (ad.add j) = some u) := Go.Lib.hid (by
        intro ad e j u hj
        subst e
        obtain ⟨B, cb, e, _, h⟩ := own_formI ho2
        injection e with e1 _ e3
        obtain ⟨e2, _, hlt⟩ := h ad e1.symm
        have := (ho2.cells (g := ad.block) (by rw [e2]; rfl)) j u hj
        rwa [← e2] at this)
      clear cN ho2 hb2
      go_wp2_with (first
        | (at_builtin; refine wpList_append_src rfl _ _ 26 rfl w.heap.size 3 i0 (.int .i64 0) 1 8 Try.underlying26 hi hz0 hz1 hz2 rfl (by decide) _ _ _ rfl HO2.out B2 m c2 (intsV (List.replicate m v)) rfl HN2.out (HRP.out) HS2.out (intsV_one _) (by unfold maxLen; omega) (by omega) (HBS2.out) ?_
           intro v3 w3 hown3 hgrow3
           obtain ⟨B3, cb3, rfl, hB3n, hB3⟩ := own_formI hown3
           have HB3 : Hid (Below w.heap.size w w3) := Go.Lib.hid (HB2.out.grown hgrow3 HBS2.out (fun j e => (HO2.out.lt j e).1))
           have HBS3 : Hid (w.heap.size ≤ w3.heap.size) := Go.Lib.hid HB3.out.size
           have HO3 := Go.Lib.hid hown3
           have HS3 : Hid (∀ ad, ((some ⟨g, t, none⟩) : Option Addr) = some ad → ∀ j u, (intsV (l.drop t))[j]? = some u → w3.cell? (ad.add j) = some u) := Go.Lib.hid (by
             intro ad e j u hj
             injection e with e
             subst e
             have hj' : (intsV l)[t + j]? = some u := by rw [← hj]; simp [intsV]
             have := (HA.out.cells (g := g) rfl) (t + j) u hj'
             rw [Addr.add_lit] at this
             rw [Addr.add_lit]
             refine (HB3.out.cell (p := ⟨g, _, none⟩) HG.out).trans ?_
             simpa using this)
           clear hown3 hgrow3 hB3n hB3)
        | (go_loud (at_builtin; refine wpList_append_src rfl _ _ 26 rfl w.heap.size 3 i0 (.int .i64 0) 1 8 Try.underlying26 hi hz0 hz1 hz2 rfl (by decide) _ _ _ rfl HO3.out (some ⟨g, t, none⟩) (n - t) (c - t) (intsV (l.drop t)) rfl (fun e => by cases e) (HDR.out.trans (by omega)) HS3.out (intsV_one _) (by unfold maxLen; omega) (by omega) (HBS3.out) ?_)
           intro v4 w4 hown4 hgrow4
           obtain ⟨B4, cb4, rfl, hB4n, hB4⟩ := own_formI hown4))
      have HB4 : Hid (Below w.heap.size w w4) := Go.Lib.hid (HB3.out.grown hgrow4 HBS3.out (fun j e => (HO3.out.lt j e).1))
      have HO4 := Go.Lib.hid hown4
      clear hown4 hgrow4 hB4n hB4
      go_ret
      exact ⟨B4, cb4, ret_len (by have := HNE.out; omega), by rw [intsV_append, intsV_append]; exact own_len HO4.out (by have := HNE.out; omega), HB4.out⟩
end Go.Proofs.Ytioehncdkdfcmaa
