/- Layer 3: the program's search and Class. -/
import Derived.Test.YthjooopppidcfaaDoorKa
namespace Go.Proofs.YthjooopppidcfaaDoor
open Go.RowKit
open Gc

set_option maxRecDepth 100000 in
set_option maxHeartbeats 1000000 in
theorem scompare_any (s : Span) (p : Int) (w : World) :
    Calls Tryd.prog 55 #[spanV s, .int .i64 p] w fun e w' => e = .returned (.int .i64 (cmpOf s p)) ∧ Below w.heap.size w w' := by
  obtain ⟨a, b, c⟩ := s
  unfold spanV cmpOf
  dsimp only
  by_cases h1 : b < p
  · rw [if_pos h1]
    go_enter Tryd.func55, Tryd.ntmps55
    go_wp2
    go_ret
    exact ⟨rfl, (Below.refl _ _).alloc (Nat.le_refl _) _⟩
  · rw [if_neg h1]
    have h1' : ¬ b < p := h1
    by_cases h2 : p < a
    · rw [if_pos h2]
      go_enter Tryd.func55, Tryd.ntmps55
      go_wp2
      go_ret
      exact ⟨rfl, (Below.refl _ _).alloc (Nat.le_refl _) _⟩
    · rw [if_neg h2]
      go_enter Tryd.func55, Tryd.ntmps55
      go_wp2
      go_ret
      exact ⟨rfl, (Below.refl _ _).alloc (Nat.le_refl _) _⟩
set_option maxRecDepth 100000 in
set_option maxHeartbeats 2000000 in
theorem ssearch_any (l : List Span) (hup : up l = true) (g : Nat) (p : Int) (w : World) (hl : l.length ≤ 1000) (hg : g < w.heap.size) (hR : Row w g l) :
    Calls Tryd.prog 54 #[.slice (some ⟨g, 0, none⟩) l.length l.length, .int .i64 p, .func (.func 55) #[] #[]] w (Found l p w) := by
  have U := Go.Lib.hid hup
  clear hup
  obtain ⟨n, hn⟩ : ∃ n, l.length = n := ⟨_, rfl⟩
  have N := Go.Lib.hid hn
  rw [hn] at hl ⊢
  clear hn
  go_enter Tryd.func54, Tryd.ntmps54
  go_wp2
  go_loopg [9, 10] n (fun kx s9 s10 wr => ∃ lo hi : Nat, s9 = .int .i64 lo ∧ s10 = .int .i64 hi ∧ lo ≤ hi ∧ hi ≤ n ∧ hi - lo ≤ kx ∧ Hid (Below w.heap.size w wr) ∧
    Hid ((∀ k (h : k < l.length), k < lo → l[k].2.1 < p) ∧ (∀ k (h : k < l.length), hi ≤ k → p ≤ l[k].2.1)))
  case atStart => exact ⟨0, n, rfl, rfl, Nat.zero_le _, Nat.le_refl _, by omega, Go.Lib.hid (Below.refl _ _), Go.Lib.hid ⟨fun k h h' => by omega, fun k h h' => by have := N.out; omega⟩⟩
  case round =>
    obtain ⟨lo, hi, rfl, rfl, hlh, hin, hgg, HB, I⟩ := hrel
    by_cases hlt : lo < hi
    · have hm : (lo + hi) / 2 < l.length := by rw [N.out]; omega
      obtain ⟨h1, h2, h3⟩ := hR.2 ((lo + hi) / 2) hm
      have c1 := (HB.out.cell (p := ⟨g, (lo + hi) / 2 * 3, none⟩) hg).trans h1
      have c2 := (HB.out.cell (p := ⟨g, (lo + hi) / 2 * 3 + 1, none⟩) hg).trans h2
      have c3 := (HB.out.cell (p := ⟨g, (lo + hi) / 2 * 3 + 2, none⟩) hg).trans h3
      clear h1 h2 h3
      generalize hy : l[(lo + hi) / 2] = y at c1 c2 c3
      have Y := Go.Lib.hid hy
      clear hy
      obtain ⟨ya, yb, yc⟩ := y
      dsimp only at c1 c2 c3
      have hc := scompare_any (ya, yb, yc) p wr
      generalize hv : cmpOf (ya, yb, yc) p = v at hc
      have V := Go.Lib.hid hv
      clear hv
      unfold spanV at hc
      dsimp only at hc
      by_cases hyx : v < 0
      · go_wp2_with (go_at_call 55; refine hc.mono ?_; rintro e w' ⟨rfl, hb⟩)
        go_roundg (hi - ((lo + hi) / 2 + 1))
        case measure => omega
        case rel =>
          refine ⟨(lo + hi) / 2 + 1, hi, by rw [show ((lo : Int) + (hi : Int)) / 2 + 1 = (((lo + hi) / 2 + 1 : Nat) : Int) by omega], rfl, by omega, hin, Nat.le_refl _, Go.Lib.hid (HB.out.trans (hb.mono HB.out.size)), Go.Lib.hid ⟨fun k h h' => ?_, I.out.2⟩⟩
          have e1 := up_le l U.out k ((lo + hi) / 2) (by omega) hm
          have e2 := (cmpOf_neg (ya, yb, yc) p).1 (by rw [V.out]; exact hyx)
          rw [Y.out] at e1
          dsimp only at e1 e2
          omega
      · go_wp2_with (go_at_call 55; refine hc.mono ?_; rintro e w' ⟨rfl, hb⟩)
        go_roundg ((lo + hi) / 2 - lo)
        case measure => omega
        case rel =>
          refine ⟨lo, (lo + hi) / 2, rfl, by rw [show ((lo : Int) + (hi : Int)) / 2 = (((lo + hi) / 2 : Nat) : Int) by omega], by omega, by omega, Nat.le_refl _, Go.Lib.hid (HB.out.trans (hb.mono HB.out.size)), Go.Lib.hid ⟨I.out.1, fun k h h' => ?_⟩⟩
          have e1 := up_le l U.out ((lo + hi) / 2) k h' h
          have e2 := (not_congr (cmpOf_neg (ya, yb, yc) p)).1 (by rw [V.out]; omega)
          rw [Y.out] at e1
          dsimp only at e1 e2
          omega
    · obtain rfl : lo = hi := by omega
      have PT : Parted l p lo := ⟨by rw [N.out]; exact hin, I.out.1, I.out.2⟩
      have PH := Go.Lib.hid PT
      clear PT
      by_cases hn : lo < n
      · have hm : lo < l.length := by rw [N.out]; omega
        obtain ⟨h1, h2, h3⟩ := hR.2 lo hm
        have c1 := (HB.out.cell (p := ⟨g, lo * 3, none⟩) hg).trans h1
        have c2 := (HB.out.cell (p := ⟨g, lo * 3 + 1, none⟩) hg).trans h2
        have c3 := (HB.out.cell (p := ⟨g, lo * 3 + 2, none⟩) hg).trans h3
        clear h1 h2 h3
        have hle := PH.out.2.2 lo hm (Nat.le_refl _)
        have LE := Go.Lib.hid hle
        clear hle
        generalize hy : l[lo] = y at c1 c2 c3 LE
        have Y := Go.Lib.hid hy
        clear hy
        obtain ⟨ya, yb, yc⟩ := y
        dsimp only at c1 c2 c3
        have hc := scompare_any (ya, yb, yc) p wr
        have Z := Go.Lib.hid (cmpOf_zero (ya, yb, yc) p LE.out)
        generalize hv : cmpOf (ya, yb, yc) p = v at hc Z
        clear hv
        unfold spanV at hc
        dsimp only at hc
        by_cases hyx : v = 0
        · go_wp2_with (go_at_call 55; refine hc.mono ?_; rintro e w' ⟨rfl, hb⟩)
          go_ret2
          refine ⟨lo, PH.out, HB.out.trans (hb.mono HB.out.size), ?_⟩
          rw [decide_eq_true (show ∃ h : lo < l.length, l[lo].1 ≤ p from ⟨hm, by rw [Y.out]; exact Z.out.1 hyx⟩)]
          simp
        · go_wp2_with (go_at_call 55; refine hc.mono ?_; rintro e w' ⟨rfl, hb⟩)
          go_ret2
          refine ⟨lo, PH.out, HB.out.trans (hb.mono HB.out.size), ?_⟩
          rw [decide_eq_false (show ¬ ∃ h : lo < l.length, l[lo].1 ≤ p from fun ⟨_, h⟩ => hyx (Z.out.2 (by rw [Y.out] at h; exact h)))]
          simp [hyx]
      · go_wp2
        go_ret2
        refine ⟨lo, PH.out, HB.out, ?_⟩
        rw [decide_eq_false (show ¬ ∃ h : lo < l.length, l[lo].1 ≤ p from fun ⟨h, _⟩ => by have := N.out; omega)]
        simp

theorem segTable_gets (w : World) : Calls Tryd.prog 31 #[] w (GetsRow Sg.tabP w) := (segTable_any w).mono fun e w' h => gets_alloc Sg.tabP 100 (by decide) 98 w e w' h
set_option maxRecDepth 100000 in
set_option maxHeartbeats 2000000 in
theorem sclassIn_in (l : List Span) (hup : up l = true) (g : Nat) (p : Int) (w : World) (hl : l.length ≤ 1000) (hg : g < w.heap.size) (hR : Row w g l) (v : Int)
    (hv : ∀ i, Parted l p i → v = if h : i < l.length then (if l[i].1 ≤ p then l[i].2.2 else 0) else 0) :
    Calls Tryd.prog 30 #[.slice (some ⟨g, 0, none⟩) l.length l.length, .int .i64 p] w (IntPost v w) := by
  have cS := ssearch_any l hup g p w hl hg hR
  have V := Go.Lib.hid hv
  have RR := Go.Lib.hid hR
  clear hv hR hup
  generalize hn : l.length = n at cS hl ⊢
  have N := Go.Lib.hid hn
  clear hn
  go_enter Tryd.func30, Tryd.ntmps30
  go_wp2_with (go_at_call 54; (with_reducible refine cS.mono ?_); rintro e w1 ⟨i, pt, hb, rfl⟩; (have PT := Go.Lib.hid pt; clear pt; generalize hfb : decide (∃ h : i < l.length, l[i].1 ≤ p) = fb; have FB := Go.Lib.hid hfb; have hin : fb = true → i < n := (fun h => by rw [h] at hfb; obtain ⟨h1, _⟩ := of_decide_eq_true hfb; rw [N.out] at h1; exact h1); clear hfb; obtain ⟨cl, hcl⟩ : ∃ cl, (l[i]?.getD (0, 0, 0)).2.2 = cl := ⟨_, rfl⟩; have CL := Go.Lib.hid hcl; have hc : i < n → w1.cell? ⟨g, i * 3 + 2, none⟩ = some (.int .i64 cl) := (fun h => by have h' : i < l.length := (by rw [N.out]; exact h); rw [← hcl, List.getElem?_eq_getElem h']; exact (hb.cell (p := ⟨g, i * 3 + 2, none⟩) hg).trans (RR.out.2 i h').2.2); clear hcl))
  all_goals
    first
    | (have hfb : fb = true := by assumption
       go_wp2
       go_ret
       refine ⟨?_, hb⟩
       obtain ⟨h3, h4⟩ := of_decide_eq_true (FB.out.trans hfb)
       rw [V.out i PT.out, dif_pos h3, if_pos h4, ← CL.out, List.getElem?_eq_getElem h3]; rfl)
    | (go_ret
       refine ⟨?_, hb⟩
       have hfb : fb = false := by assumption
       have h3 := of_decide_eq_false (FB.out.trans hfb)
       rw [V.out i PT.out]
       by_cases h5 : i < l.length
       · rw [dif_pos h5, if_neg (fun h => h3 ⟨h5, h⟩)]; rfl
       · rw [dif_neg h5]; rfl)
theorem sclassIn_any (g : Nat) (p : Int) (w : World) (hg : g < w.heap.size) (hR : Row w g Sg.tabP) :
    Calls Tryd.prog 30 #[.slice (some ⟨g, 0, none⟩) Sg.tabP.length Sg.tabP.length, .int .i64 p] w (IntPost (Sg.classOf p) w) := by
  refine sclassIn_in Sg.tabP Sg.upP g p w (by decide) hg hR _ fun i hi => ?_
  exact Sg.within_at Sg.tabP Sg.apartP Sg.upP p i hi.2.1 hi.2.2
theorem sclass_any (p : Int) (w : World) : Calls Tryd.prog 13 #[.int .i64 p] w (IntPost (Sg.classOf p) w) := by
  have cI := fun g w' (R : Row w' g Sg.tabP) => sclassIn_any g p w' R.1 R
  have cT := segTable_gets w
  generalize Sg.tabP = l at cI cT
  generalize Sg.classOf p = v at cI ⊢
  go_enter Tryd.func13, Tryd.ntmps13
  go_wp2_with (first
    | (go_at_call 31; refine cT.mono ?_; rintro e w1 ⟨g1, rfl, hr1, hb1, hg1⟩; have R1 := Go.Lib.hid hr1; clear hr1)
    | (go_at_call 30; (with_reducible refine (cI g1 w1 R1.out).mono ?_); rintro e w2 ⟨rfl, hb2⟩))
  go_ret
  exact ⟨rfl, hb1.trans (hb2.mono hb1.size)⟩
end Go.Proofs.YthjooopppidcfaaDoor
