/- Layer 5: a new map; known; a new map of any length (the law of limits). -/
import Derived.Test.YtioehncdkdfcmaaC6
import Derived.Deep.RegionHeld3
namespace Go.Proofs.Ytioehncdkdfcmaa
open Go.RowKit Go.Lib Im

theorem own_G {w : World} {base b : Nat} {R : List Rn} (h : MpOwn w base b R) : ∃ g, base ≤ g ∧ g < w.heap.size ∧ MpG w b g R := by
  obtain ⟨v, h1, h2, h3⟩ := h
  obtain ⟨B, c, rfl⟩ := own_form h3
  cases B with
  | none => exact ⟨b, h1, h2.lt, none, c, h2, own_lower h3 (Nat.zero_le _), fun k e => by cases e⟩
  | some a =>
    obtain ⟨g', e⟩ : ∃ g', a = ⟨g', 0, none⟩ := by
      rcases h3.2 with ⟨h, _⟩ | ⟨g', _, _, h, _⟩
      · injection h with h; cases h
      · injection h with h
        injection h with h
        exact ⟨g', h⟩
    subst e
    have hl := h3.lt g' rfl
    refine ⟨g', hl.1, hl.2, some ⟨g', 0, none⟩, c, h2, own_lower h3 (Nat.zero_le _), fun k e => ?_⟩
    injection e with e
    injection e with e
    exact e.symm
/-- A new map, and that it is new. -/
def NewM (w : World) (l : List Int) (b : Nat) (w' : World) : Prop := ∃ g, MpG w' b g (runs l) ∧ w.heap.size ≤ b ∧ w.heap.size ≤ g ∧ b < w'.heap.size ∧ g < w'.heap.size ∧ Below w.heap.size w w'
theorem app_new (n v : Int) : app [] (0, n, v) = runs (List.replicate n.toNat v) := by
  by_cases h : n ≤ 0
  · have e : n.toNat = 0 := by omega
    rw [e]
    unfold app
    rw [if_pos h]
    rfl
  · have hF : Fit 0 (0, n, v) n := .inr ⟨rfl, by show 0 < n; omega, rfl⟩
    obtain ⟨h1, h2, h3⟩ := app_ok (J := []) (show Ch 0 [] 0 from rfl) trivial hF
    have := runs_unique h1 h2
    rw [h3, vals_nil, List.nil_append, vals_one] at this
    rw [this, show (n - 0).toNat = n.toNat by omega]
def NewR (w : World) (l : List Int) (e : Ending) (w' : World) : Prop := ∃ b, e = .returned (.tuple #[.pointer (some ⟨b, 0, none⟩), .int .i64 0]) ∧ NewM w l b w'
theorem new_map (n v : Int) (w : World) (h : 0 ≤ n) (h' : n ≤ 1048576) : Calls Try.prog 33 #[.int .i64 n, .int .i64 v] w (NewR w (List.replicate n.toNat v)) := by
  refine (new_any n v w h h').mono ?_
  rintro e w' ⟨b, rfl, ho, hb⟩
  rw [app_new] at ho
  obtain ⟨g, h1, h2, h3⟩ := own_G ho
  obtain ⟨_, hb1, hbx, _⟩ := ho
  exact ⟨b, rfl, g, h3, hb1, h1, hbx.lt, h2, hb⟩
/-- What an operation on a map that is new since w0 leaves. -/
def OnM (w0 : World) (l : List Int) (b : Nat) (w' : World) : Prop := ∃ g, MpG w' b g (runs l) ∧ w0.heap.size ≤ b ∧ w0.heap.size ≤ g ∧ b < w'.heap.size ∧ Below w0.heap.size w0 w'
theorem NewM.on {w w' : World} {l : List Int} {b : Nat} (h : NewM w l b w') : OnM w l b w' := by
  obtain ⟨g, h1, h2, h3, h4, _, h6⟩ := h
  exact ⟨g, h1, h2, h3, h4, h6⟩
theorem OnM.on {w0 w w' : World} {l l' : List Int} {b : Nat} (h : OnM w0 l b w) (H : ∀ g, MpG w b g (runs l) → MpR w b g (runs l') w') : OnM w0 l' b w' := by
  obtain ⟨g, h1, h2, h3, h4, h5⟩ := h
  obtain ⟨g', k1, k2, k3⟩ := H g h1
  refine ⟨g', k1, h2, ?_, Nat.lt_of_lt_of_le h4 k2.1.size, h5.trans (k2.below h2 h3 h5.size)⟩
  rcases k3 with k | k
  · omega
  · exact Nat.le_trans h5.size k
theorem OnM.below {w0 w w' : World} {l : List Int} {b : Nat} (h : OnM w0 l b w) (hb : Below w.heap.size w w') : OnM w0 l b w' := h.on fun _ hm => mpR_below hm hb
def SetO (w0 : World) (l : List Int) (f t v : Int) (b : Nat) (e : Ending) (w' : World) : Prop := e = .returned (.int .i64 (chkR l.length f t)) ∧ OnM w0 (setL l f t v) b w'
theorem set_on (w0 : World) (b : Nat) (l : List Int) (f t v : Int) (w : World) (h : OnM w0 l b w) (hl : l.length ≤ 400000) : Calls Try.prog 27 #[.pointer (some ⟨b, 0, none⟩), .int .i64 f, .int .i64 t, .int .i64 v] w (SetO w0 l f t v b) := by
  have h0 := h
  obtain ⟨g, h1, h2, h3, h4, h5⟩ := h
  refine (set_any b g l f t v w h1 hl).mono ?_
  rintro e w' ⟨rfl, hm⟩
  refine ⟨rfl, ?_⟩
  obtain ⟨g', k1, k2, k3⟩ := hm
  refine ⟨g', k1, h2, ?_, Nat.lt_of_lt_of_le h4 k2.1.size, h5.trans (k2.below h2 h3 h5.size)⟩
  rcases k3 with k | k
  · omega
  · exact Nat.le_trans h5.size k
/-- What Runs hands back. -/
def RunO (w0 : World) (l : List Int) (b : Nat) (e : Ending) (w' : World) : Prop := ∃ B c, e = .returned (.slice B (runs l).length c) ∧ RnAt w' B (runs l) ∧ OnM w0 l b w'
theorem runs_on (w0 : World) (b : Nat) (l : List Int) (w : World) (h : OnM w0 l b w) (hl : l.length ≤ 1048576) : Calls Try.prog 16 #[.pointer (some ⟨b, 0, none⟩)] w (RunO w0 l b) := by
  have h0 := h
  obtain ⟨g, h1, h2, h3, h4, h5⟩ := h
  have := runs_len l
  refine (runs_any b (runs l) w (mpG_at h1) (by omega)).mono ?_
  rintro e w' ⟨B, c, rfl, ho, hb⟩
  exact ⟨B, c, rfl, own_rnat ho rfl, h0.below hb⟩
theorem len_on (w0 : World) (b : Nat) (l : List Int) (w : World) (h : OnM w0 l b w) : Calls Try.prog 17 #[.pointer (some ⟨b, 0, none⟩)] w fun e w' => e = .returned (.int .i64 l.length) ∧ OnM w0 l b w' ∧ Below w.heap.size w w' := by
  have h0 := h
  obtain ⟨g, h1, h2, h3, h4, h5⟩ := h
  have := len_any b (runs l) w (mpG_at h1)
  rw [lenR_runs] at this
  refine this.mono ?_
  rintro e w' ⟨rfl, hb⟩
  exact ⟨rfl, h0.below hb, hb⟩
def BoolB (v : Bool) (w : World) (e : Ending) (w' : World) : Prop := e = .returned (.bool v) ∧ Below w.heap.size w w'
set_option maxRecDepth 100000 in
set_option maxHeartbeats 8000000 in
theorem known_any (w : World) : Calls Try.prog 13 #[] w (BoolB true w) := by
  have cN := new_map 10 0 w (by omega) (by omega)
  have e0 : List.replicate (10 : Int).toNat (0 : Int) = [0, 0, 0, 0, 0, 0, 0, 0, 0, 0] := by decide
  have e1 : setL [0, 0, 0, 0, 0, 0, 0, 0, 0, 0] 2 5 7 = [0, 0, 7, 7, 7, 0, 0, 0, 0, 0] := by decide
  have e2 : setL [0, 0, 7, 7, 7, 0, 0, 0, 0, 0] 4 8 7 = [0, 0, 7, 7, 7, 7, 7, 7, 0, 0] := by decide
  have e3 : runs [0, 0, 7, 7, 7, 7, 7, 7, 0, 0] = [(0, 2, 0), (2, 8, 7), (8, 10, 0)] := by decide
  have cS1 := fun b w' h => set_on w b [0, 0, 0, 0, 0, 0, 0, 0, 0, 0] 2 5 7 w' h (by decide)
  have cS2 := fun b w' h => set_on w b [0, 0, 7, 7, 7, 0, 0, 0, 0, 0] 4 8 7 w' h (by decide)
  have cR := fun b w' h => runs_on w b [0, 0, 7, 7, 7, 7, 7, 7, 0, 0] w' h (by decide)
  have cL := fun b w' h => len_on w b [0, 0, 7, 7, 7, 7, 7, 7, 0, 0] w' h
  unfold SetO at cS1 cS2
  unfold RunO at cR
  rw [e0] at cN
  rw [e1] at cS1
  rw [e2] at cS2
  rw [e3] at cR
  have k1 : chkR (([0, 0, 0, 0, 0, 0, 0, 0, 0, 0] : List Int).length : Int) 2 5 = 0 := by decide
  have k2 : chkR (([0, 0, 7, 7, 7, 0, 0, 0, 0, 0] : List Int).length : Int) 4 8 = 0 := by decide
  have k3 : ((([0, 0, 7, 7, 7, 7, 7, 7, 0, 0] : List Int).length : Nat) : Int) = 10 := by decide
  have k4 : ([(0, 2, 0), (2, 8, 7), (8, 10, 0)] : List Rn).length = 3 := rfl
  rw [k1] at cS1
  rw [k2] at cS2
  rw [k3] at cL
  rw [k4] at cR
  clear e0 e1 e2 e3 k1 k2 k3 k4
  go_enter Try.func13, Try.ntmps13
  go_wp2_with fail
  (with_reducible refine cN.mono ?_)
  rintro e w1 ⟨b, rfl, hN⟩
  have h1 := hN.on
  clear hN cN
  go_wp2_with fail
  (with_reducible refine (cS1 b _ h1).mono ?_)
  rintro e w2 ⟨rfl, h2⟩
  clear h1 cS1
  go_wp2_with fail
  (with_reducible refine (cS2 b _ h2).mono ?_)
  rintro e w3 ⟨rfl, h3⟩
  clear h2 cS2
  go_wp2_with fail
  (with_reducible refine (cR b _ h3).mono ?_)
  rintro e w4 ⟨B, c, rfl, hA, h4⟩
  clear h3 cR
  have cL4 := cL b _ h4
  rcases hA with hA | ⟨gg, oo, rfl, hg, hcl⟩
  · cases hA
  obtain ⟨c0, c1, c2⟩ := hcl 1 (by decide)
  have HG := Go.Lib.hid hg
  clear hcl hg cL
  dsimp only [List.getElem_cons_succ, List.getElem_cons_zero, Nat.one_mul] at c0 c1 c2
  go_wp2_with (go_at_call 17; (with_reducible refine cL4.mono ?_); rintro e w5 ⟨rfl, h5, hb5⟩; have d0 := (hb5.cell (p := ⟨gg, oo + 3, none⟩) HG.out).trans c0; have d1 := (hb5.cell (p := ⟨gg, oo + 3 + 1, none⟩) HG.out).trans c1; have d2 := (hb5.cell (p := ⟨gg, oo + 3 + 2, none⟩) HG.out).trans c2)
  go_ret
  obtain ⟨_, _, _, _, _, hb⟩ := h5
  exact ⟨by simp, hb⟩
end Go.Proofs.Ytioehncdkdfcmaa
