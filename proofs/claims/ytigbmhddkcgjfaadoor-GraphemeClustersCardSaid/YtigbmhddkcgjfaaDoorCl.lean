import Derived.Test.YtigbmhddkcgjfaaDoorSe
namespace Go.Proofs.YtigbmhddkcgjfaaDoor
open Go.RowKit
open Gc

/-- A function that hands back a table. -/
def GetsRow (l : List Span) (w : World) (e : Ending) (w' : World) : Prop :=
  ∃ g, e = .returned (.slice (some ⟨g, 0, none⟩) l.length l.length) ∧ Row w' g l ∧ Below w.heap.size w w' ∧ w.heap.size ≤ g

theorem gets_alloc (l : List Span) (n : Nat) (hn : l.length = n) (t : TypeId) (w : World) (e : Ending) (w' : World) (h : e = .returned (.slice (some ⟨w.heap.size, 0, none⟩) n n) ∧ w' = w.alloc (.cells (rowOf l) t)) : GetsRow l w e w' := by
  obtain ⟨rfl, rfl⟩ := h
  exact ⟨w.heap.size, by rw [hn], row_alloc w l t, (Below.refl _ _).alloc (Nat.le_refl _) _, Nat.le_refl _⟩
theorem table_gets (w : World) : Calls Tryd.prog 32 #[] w (GetsRow tabA w) := (classTable_any w).mono fun e w' h => gets_alloc tabA 94 (by decide) 73 w e w' h
theorem marks_gets (w : World) : Calls Tryd.prog 34 #[] w (GetsRow tabM w) := (marks_any w).mono fun e w' h => gets_alloc tabM 61 (by decide) 76 w e w' h
theorem letters_gets (w : World) : Calls Tryd.prog 35 #[] w (GetsRow tabL w) := (letters_any w).mono fun e w' h => gets_alloc tabL 33 (by decide) 76 w e w' h

def IntPost (v : Int) (w : World) (e : Ending) (w' : World) : Prop := e = .returned (.int .i64 v) ∧ Below w.heap.size w w'
theorem hangul_lo (p : Int) (h : 44032 ≤ p ∧ p ≤ 55203) : (p - 44032).tmod 28 = (p - 44032) % 28 := by
  rw [Int.tmod_eq_emod_of_nonneg (by omega)]

set_option maxRecDepth 100000 in
set_option maxHeartbeats 2000000 in
theorem refClass_lo (M L : List Span) (hM : ∀ w, Calls Tryd.prog 34 #[] w (GetsRow M w)) (hL : ∀ w, Calls Tryd.prog 35 #[] w (GetsRow L w)) (lM : M.length ≤ 1000) (lL : L.length ≤ 1000) (p : Int) (w : World) (hp : ¬ 44032 ≤ p) :
    Calls Tryd.prog 14 #[.int .i64 p] w (IntPost (if within M p ≠ 0 then within M p else within L p) w) := by
  have cM := fun g1 w1 (R1 : Row w1 g1 M) => within_any M g1 p w1 lM R1.1 R1
  have cL := fun g1 w1 (R1 : Row w1 g1 L) => within_any L g1 p w1 lL R1.1 R1
  generalize within M p = m at cM ⊢
  generalize within L p = k at cL ⊢
  by_cases h0 : m = 0
  · rw [if_neg (fun h => h h0)]
    go_enter Tryd.func14, Tryd.ntmps14
    go_wp2_with (first
        | (go_at_call 34; refine (hM _).mono ?_; rintro e w1 ⟨g1, rfl, hr1, hb1, hg1⟩; have R1 := Go.Lib.hid hr1; clear hr1)
        | (go_at_call 33; (with_reducible refine (cM g1 w1 R1.out).mono ?_); rintro e w2 ⟨rfl, hb2⟩)
        | (go_at_call 35; refine (hL _).mono ?_; rintro e w3 ⟨g3, rfl, hr3, hb3, hg3⟩; have R3 := Go.Lib.hid hr3; clear hr3)
        | (go_at_call 33; (with_reducible refine (cL g3 w3 R3.out).mono ?_); rintro e w4 ⟨rfl, hb4⟩))
    go_ret
    exact ⟨rfl, ((hb1.trans (hb2.mono hb1.size)).trans (hb3.mono (Nat.le_trans hb1.size hb2.size))).trans (hb4.mono (Nat.le_trans hb1.size (Nat.le_trans hb2.size hb3.size)))⟩
  · rw [if_pos h0]
    go_enter Tryd.func14, Tryd.ntmps14
    go_wp2_with (first
        | (go_at_call 34; refine (hM _).mono ?_; rintro e w1 ⟨g1, rfl, hr1, hb1, hg1⟩; have R1 := Go.Lib.hid hr1; clear hr1)
        | (go_at_call 33; (with_reducible refine (cM g1 w1 R1.out).mono ?_); rintro e w2 ⟨rfl, hb2⟩))
    go_ret
    exact ⟨rfl, hb1.trans (hb2.mono hb1.size)⟩
set_option maxRecDepth 100000 in
set_option maxHeartbeats 2000000 in
theorem refClass_hi (M L : List Span) (hM : ∀ w, Calls Tryd.prog 34 #[] w (GetsRow M w)) (hL : ∀ w, Calls Tryd.prog 35 #[] w (GetsRow L w)) (lM : M.length ≤ 1000) (lL : L.length ≤ 1000) (p : Int) (w : World) (hp : ¬ p ≤ 55203) :
    Calls Tryd.prog 14 #[.int .i64 p] w (IntPost (if within M p ≠ 0 then within M p else within L p) w) := by
  have cM := fun g1 w1 (R1 : Row w1 g1 M) => within_any M g1 p w1 lM R1.1 R1
  have cL := fun g1 w1 (R1 : Row w1 g1 L) => within_any L g1 p w1 lL R1.1 R1
  generalize within M p = m at cM ⊢
  generalize within L p = k at cL ⊢
  have hq : 44032 ≤ p := by omega
  by_cases h0 : m = 0
  · rw [if_neg (fun h => h h0)]
    go_enter Tryd.func14, Tryd.ntmps14
    go_wp2_with (first
        | (go_at_call 34; refine (hM _).mono ?_; rintro e w1 ⟨g1, rfl, hr1, hb1, hg1⟩; have R1 := Go.Lib.hid hr1; clear hr1)
        | (go_at_call 33; (with_reducible refine (cM g1 w1 R1.out).mono ?_); rintro e w2 ⟨rfl, hb2⟩)
        | (go_at_call 35; refine (hL _).mono ?_; rintro e w3 ⟨g3, rfl, hr3, hb3, hg3⟩; have R3 := Go.Lib.hid hr3; clear hr3)
        | (go_at_call 33; (with_reducible refine (cL g3 w3 R3.out).mono ?_); rintro e w4 ⟨rfl, hb4⟩))
    go_ret
    exact ⟨rfl, ((hb1.trans (hb2.mono hb1.size)).trans (hb3.mono (Nat.le_trans hb1.size hb2.size))).trans (hb4.mono (Nat.le_trans hb1.size (Nat.le_trans hb2.size hb3.size)))⟩
  · rw [if_pos h0]
    go_enter Tryd.func14, Tryd.ntmps14
    go_wp2_with (first
        | (go_at_call 34; refine (hM _).mono ?_; rintro e w1 ⟨g1, rfl, hr1, hb1, hg1⟩; have R1 := Go.Lib.hid hr1; clear hr1)
        | (go_at_call 33; (with_reducible refine (cM g1 w1 R1.out).mono ?_); rintro e w2 ⟨rfl, hb2⟩))
    go_ret
    exact ⟨rfl, hb1.trans (hb2.mono hb1.size)⟩

theorem refClass_any (p : Int) (w : World) : Calls Tryd.prog 14 #[.int .i64 p] w (IntPost (classOf p) w) := by
  rw [← refClass_plain]
  by_cases h1 : 44032 ≤ p
  · by_cases h2 : p ≤ 55203
    · rw [if_pos ⟨h1, h2⟩]
      unfold hangul
      by_cases h3 : (p - 44032) % 28 = 0
      · rw [if_pos h3]
        go_enter Tryd.func14, Tryd.ntmps14
        go_wp2
        go_ret
        exact ⟨rfl, Below.refl _ _⟩
      · rw [if_neg h3]
        go_enter Tryd.func14, Tryd.ntmps14
        go_wp2
        go_ret
        exact ⟨rfl, Below.refl _ _⟩
    · rw [if_neg (fun h => h2 h.2)]
      exact refClass_hi tabM tabL marks_gets letters_gets (by decide) (by decide) p w h2
  · rw [if_neg (fun h => h1 h.1)]
    exact refClass_lo tabM tabL marks_gets letters_gets (by decide) (by decide) p w h1

/-- The class, as the program's search finds it. -/
def foundOf (l : List Span) (p : Int) : Int := within l p
set_option maxRecDepth 100000 in
set_option maxHeartbeats 2000000 in
theorem classIn_in (l : List Span) (hup : up l = true) (g : Nat) (p : Int) (w : World) (hl : l.length ≤ 1000) (hg : g < w.heap.size) (hR : Row w g l) (hp : ¬ (44032 ≤ p ∧ p ≤ 55203)) (v : Int)
    (hv : ∀ i, Parted l p i → v = if h : i < l.length then (if l[i].1 ≤ p then l[i].2.2 else 0) else 0) :
    Calls Tryd.prog 31 #[.slice (some ⟨g, 0, none⟩) l.length l.length, .int .i64 p] w (IntPost v w) := by
  have cS := search_any l hup g p w hl hg hR
  have V := Go.Lib.hid hv
  have RR := Go.Lib.hid hR
  clear hv hR hup
  generalize hn : l.length = n at cS hl ⊢
  have N := Go.Lib.hid hn
  clear hn
  have hp1 : 44032 ≤ p → ¬ p ≤ 55203 := fun h h' => hp ⟨h, h'⟩
  clear hp
  by_cases h1 : 44032 ≤ p
  all_goals
    first | (have h2 := hp1 h1; clear hp1) | clear hp1
    go_enter Tryd.func31, Tryd.ntmps31
    go_wp2_with (go_at_call 44; (with_reducible refine cS.mono ?_); rintro e w1 ⟨i, pt, hb, rfl⟩; (have PT := Go.Lib.hid pt; clear pt; generalize hfb : decide (∃ h : i < l.length, l[i].1 ≤ p) = fb; have FB := Go.Lib.hid hfb; have hin : fb = true → i < n := (fun h => by rw [h] at hfb; obtain ⟨h1, _⟩ := of_decide_eq_true hfb; rw [N.out] at h1; exact h1); clear hfb; obtain ⟨cl, hcl⟩ : ∃ cl, (l[i]?.getD (0, 0, 0)).2.2 = cl := ⟨_, rfl⟩; have CL := Go.Lib.hid hcl; have hc : i < n → w1.cell? ⟨g, i * 3 + 2, none⟩ = some (.int .i64 cl) := (fun h => by have h' : i < l.length := (by rw [N.out]; exact h); rw [← hcl, List.getElem?_eq_getElem h']; exact (hb.cell (p := ⟨g, i * 3 + 2, none⟩) hg).trans (RR.out.2 i h').2.2); clear hcl))
    all_goals
      first
      | (have hfb : fb = true := by assumption
         go_wp2
         go_ret
         refine ⟨?_, hb⟩
         obtain ⟨h3, h4⟩ := of_decide_eq_true (FB.out.trans hfb)
         rw [V.out i PT.out, dif_pos h3, if_pos h4, ← CL.out, List.getElem?_eq_getElem h3]; rfl)
      | (go_ret
         refine ⟨?_, hb⟩
         have hfb : fb = false := by assumption
         have h3 := of_decide_eq_false (FB.out.trans hfb)
         rw [V.out i PT.out]
         by_cases h5 : i < l.length
         · rw [dif_pos h5, if_neg (fun h => h3 ⟨h5, h⟩)]; rfl
         · rw [dif_neg h5]; rfl)

theorem classIn_any (g : Nat) (p : Int) (w : World) (hg : g < w.heap.size) (hR : Row w g tabA) :
    Calls Tryd.prog 31 #[.slice (some ⟨g, 0, none⟩) tabA.length tabA.length, .int .i64 p] w (IntPost (classOf p) w) := by
  by_cases h1 : 44032 ≤ p ∧ p ≤ 55203
  · unfold classOf
    rw [if_pos h1]
    clear hR hg
    obtain ⟨h1, h2⟩ := h1
    unfold hangul
    generalize tabA.length = n
    by_cases h3 : (p - 44032) % 28 = 0
    · rw [if_pos h3]
      go_enter Tryd.func31, Tryd.ntmps31
      go_wp2
      go_ret
      exact ⟨rfl, Below.refl _ _⟩
    · rw [if_neg h3]
      go_enter Tryd.func31, Tryd.ntmps31
      go_wp2
      go_ret
      exact ⟨rfl, Below.refl _ _⟩
  · refine classIn_in tabA upA g p w (by decide) hg hR h1 _ fun i hi => ?_
    unfold classOf
    rw [if_neg h1]
    exact within_at p i hi.2.1 hi.2.2

theorem class_any (p : Int) (w : World) : Calls Tryd.prog 13 #[.int .i64 p] w (IntPost (classOf p) w) := by
  have cI := fun g w' (R : Row w' g tabA) => classIn_any g p w' R.1 R
  have cT := table_gets w
  generalize tabA = l at cI cT
  generalize classOf p = v at cI ⊢
  go_enter Tryd.func13, Tryd.ntmps13
  go_wp2_with (first
    | (go_at_call 32; refine cT.mono ?_; rintro e w1 ⟨g1, rfl, hr1, hb1, hg1⟩; have R1 := Go.Lib.hid hr1; clear hr1)
    | (go_at_call 31; (with_reducible refine (cI g1 w1 R1.out).mono ?_); rintro e w2 ⟨rfl, hb2⟩))
  go_ret
  exact ⟨rfl, hb1.trans (hb2.mono hb1.size)⟩
end Go.Proofs.YtigbmhddkcgjfaaDoor
