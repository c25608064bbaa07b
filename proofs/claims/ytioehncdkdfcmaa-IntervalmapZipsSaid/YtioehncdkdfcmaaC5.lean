/- Layer 5: replace whole: the map's values; what is left of them. -/
import Derived.Test.YtioehncdkdfcmaaC4
namespace Go.Proofs.Ytioehncdkdfcmaa
open Go.RowKit Go.Lib Im

theorem mpG_at {w : World} {b g : Nat} {R : List Rn} (h : MpG w b g R) : MpAt w b R := by
  obtain ⟨A, c, h1, h2, h3⟩ := h
  obtain ⟨c1, c2⟩ := own_caps h2
  exact ⟨A, R.length, c, h1, rfl, c1, c2, own_rnat h2 rfl⟩
theorem mpG_below {w w' : World} {b g : Nat} {R : List Rn} (h : MpG w b g R) (hb : Below w.heap.size w w') : MpG w' b g R := by
  obtain ⟨A, c, h1, h2, h3⟩ := h
  exact ⟨A, c, boxed_below h1 hb, row_below h2 hb, h3⟩
theorem mpR_below {w w' : World} {b g : Nat} {R : List Rn} (h : MpG w b g R) (hb : Below w.heap.size w w') : MpR w b g R w' := ⟨g, mpG_below h hb, fr_below hb, .inl rfl⟩
theorem runs_len (l : List Int) : (runs l).length ≤ l.length := by
  have := ch_count (runs_ok l).1
  omega
theorem runs_zero {l : List Int} (h : (runs l).length = 0) : l = [] := by
  have := (runs_ok l).2.2
  rw [List.eq_nil_of_length_eq_zero h] at this
  exact this.symm
theorem lenR_runs (l : List Int) : lenR (runs l) = l.length := by
  have hC := (runs_ok l).1
  rcases Nat.eq_zero_or_pos (runs l).length with h | h
  · rw [runs_zero h]; rfl
  · obtain ⟨k, hk⟩ : ∃ k, (runs l).length = k + 1 := ⟨(runs l).length - 1, by omega⟩
    rw [lenR_at hk]
    exact ch_end hC hk
/-- What replace says of the values. -/
def RepV (w : World) (b g : Nat) (l : List Int) (N : List Rn) (f t : Int) (e : Ending) (w' : World) : Prop :=
  e = .returned (.tuple #[]) ∧ MpR w b g (runs (l.take f.toNat ++ vals N ++ l.drop t.toNat)) w'
theorem replace_any (b g : Nat) (l : List Int) (N : List Rn) (f t d : Int) (NA : Option Addr) (nN cN : Nat) (w : World) (h : MpG w b g (runs l)) (hl : l.length ≤ 400000)
    (h0 : 0 ≤ f) (hft : f ≤ t) (htn : t ≤ l.length) (hd : -1048576 ≤ d) (hd' : d ≤ 1048576) (hN : RnAt w NA N) (hNl : N.length = nN) (hNc : nN ≤ 400000) (hF : Fits f N (t + d)) :
    Calls Try.prog 45 #[.pointer (some ⟨b, 0, none⟩), .int .i64 f, .int .i64 t, .int .i64 d, .slice NA nN cN] w (RepV w b g l N f t) := by
  obtain ⟨A, c, h1, h2, h3⟩ := h
  obtain ⟨hC, hD, hV⟩ := runs_ok l
  have hrl := runs_len l
  rcases Nat.eq_zero_or_pos (runs l).length with hz | hp
  · have hln := runs_zero hz
    subst hln
    obtain rfl : t = 0 := by simp at htn; omega
    obtain rfl : f = 0 := by omega
    refine (replace_none b g c A N d NA nN cN w h1 h2 h3 hN hNl hNc).mono ?_
    rintro e w' ⟨rfl, hm⟩
    refine ⟨rfl, ?_⟩
    obtain ⟨f1, f2, f3⟩ := fold_ok N (J := []) (show Ch 0 [] 0 from rfl) trivial hF
    rw [vals_nil, List.nil_append] at f3
    have e1 := runs_unique f1 f2
    rw [f3] at e1
    simpa [← e1] using hm
  · obtain ⟨gg, hA⟩ : ∃ gg, A = some ⟨gg, 0, none⟩ := by
      obtain ⟨k, hk⟩ : ∃ k, (runs l).length = k + 1 := ⟨(runs l).length - 1, by omega⟩
      rw [hk] at h2
      obtain ⟨g', cap', hv⟩ := ownsRow_succ h2
      exact ⟨g', by injection hv⟩
    subst hA
    obtain rfl := h3 gg rfl
    refine (replace_walk b gg (runs l).length c (runs l) N l.length f t d NA nN cN w h1 h2 rfl hp hC (by omega) h0 hft htn hd hd' (by omega) hN hNl hNc hF).mono ?_
    rintro e w' ⟨rfl, i, j, hP, hm⟩
    refine ⟨rfl, ?_⟩
    have hcut := cut3 (runs l) hP.hab
    have hC' := hC
    have hD' := hD
    rw [hcut] at hC' hD'
    obtain ⟨r1, r2, r3⟩ := replace_ok hC' hD' h0 hft htn hP.hA hP.hB hF
    rw [← hcut, hV] at r3
    have e1 := runs_unique r1 r2
    rw [r3] at e1
    rwa [e1] at hm
end Go.Proofs.Ytioehncdkdfcmaa
