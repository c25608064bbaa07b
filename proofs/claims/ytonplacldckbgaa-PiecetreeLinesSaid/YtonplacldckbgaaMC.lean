/- Layer 4: the play on a tree: one edit (Insert 23, Delete 34, Replace 32), Snapshot (29). -/
import Derived.Test.YtonplacldckbgaaMB
namespace Go.Proofs.Ytonplacldckbgaa
open Go.RowKit Go.Lib Pt

/-- The reference's code of a replacement. -/
def codR (x y : Int) (n k : Nat) : Int := if x < 0 ∨ y < x ∨ (n : Int) < y then 2 else if (65536 : Int) < (n : Int) - (y - x) + (k : Int) then 10 else 0
/-- The tree behind an edit that may fail. -/
def edT (t : Tr) (x y : Int) (s : List UInt8) : Tr := if codR x y t.bytes.length s.length ≠ 0 ∨ (x = y ∧ s = []) then t else repT t x.toNat (y - x).toNat s
/-- An edit's answer: the code, the tree, and what else may have changed. -/
def Edit (b : Nat) (t : Tr) (x y : Int) (s : List UInt8) (w : World) : Ending → World → Prop := fun e w' => e = .returned (.int .i64 (codR x y t.bytes.length s.length)) ∧ TAt w' b (edT t x y s) ∧ But b w w'
theorem rep_any {b : Nat} {t : Tr} (x y : Int) (s : List UInt8) (w : World) (h : TAt w b t) (ht : t.bytes.length ≤ 65536) (hp : t.pcs ≤ 100000) (hs : s.length ≤ 65536) :
    Calls Try.prog 32 #[.pointer (some ⟨b, 0, none⟩), .int .i64 x, .int .i64 y, .string (bs s)] w (Edit b t x y s w) := by
  unfold Edit edT
  by_cases h1 : x < 0 ∨ y < x ∨ ((t.bytes.length : Nat) : Int) < y
  · have hc : codR x y t.bytes.length s.length = 2 := if_pos h1
    rw [hc, if_pos (.inl (by decide))]
    refine (rep_bad x y (bs s) w h (if_pos h1)).mono ?_
    rintro e w' ⟨rfl, hb⟩
    exact ⟨rfl, h.below hb, But.of hb⟩
  · obtain ⟨f, rfl⟩ : ∃ f : Nat, x = (f : Int) := ⟨x.toNat, by omega⟩
    obtain ⟨g, rfl⟩ : ∃ g : Nat, y = (g : Int) := ⟨y.toNat, by omega⟩
    have k1 : f ≤ g := by omega
    have k2 : g ≤ t.bytes.length := by omega
    by_cases h2 : (65536 : Int) < ((t.bytes.length : Nat) : Int) - ((g : Int) - (f : Int)) + ((s.length : Nat) : Int)
    · have hc : codR (f : Int) (g : Int) t.bytes.length s.length = 10 := by unfold codR; rw [if_neg h1, if_pos h2]
      rw [hc, if_pos (.inl (by decide))]
      refine (rep_long f g s w h k1 k2 ht (by omega) (by omega)).mono ?_
      rintro e w' ⟨rfl, hb⟩
      exact ⟨rfl, h.below hb, But.of hb⟩
    · have hc : codR (f : Int) (g : Int) t.bytes.length s.length = 0 := by unfold codR; rw [if_neg h1, if_neg h2]
      rw [hc]
      by_cases h3 : f = g
      · subst h3
        by_cases h4 : s = []
        · subst h4
          rw [if_pos (.inr ⟨rfl, rfl⟩)]
          refine (rep_same f w h k2 ht).mono ?_
          rintro e w' ⟨rfl, hb⟩
          exact ⟨rfl, h.below hb, But.of hb⟩
        · rw [if_neg (by simp [h4]), show ((f : Int) - (f : Int)).toNat = 0 by omega, show (f : Int).toNat = f by omega]
          exact rep_at f s w h k2 h4 ht hp hs (by omega)
      · rw [if_neg (by simp; omega), show ((g : Int) - (f : Int)).toNat = g - f by omega, show (f : Int).toNat = f by omega]
        exact rep_span f g s w h (by omega) k2 ht hp hs (by omega)
set_option maxRecDepth 100000 in
set_option maxHeartbeats 4000000 in
theorem insert_any {b : Nat} {t : Tr} (x : Int) (s : List UInt8) (w : World) (h : TAt w b t) (ht : t.bytes.length ≤ 65536) (hp : t.pcs ≤ 100000) (hs : s.length ≤ 65536) :
    Calls Try.prog 23 #[.pointer (some ⟨b, 0, none⟩), .int .i64 x, .string (bs s)] w (Edit b t x x s w) := by
  go_enter Try.func23, Try.ntmps23
  go_wp2_with fail
  refine (rep_any x x s w h ht hp hs).mono ?_
  intro e w' h'
  unfold Edit at h'
  obtain ⟨rfl, h1, h2⟩ := h'
  go_wp2
  go_ret
  exact ⟨rfl, h1, h2⟩
set_option maxRecDepth 100000 in
set_option maxHeartbeats 4000000 in
theorem delete_any {b : Nat} {t : Tr} (x y : Int) (w : World) (h : TAt w b t) (ht : t.bytes.length ≤ 65536) (hp : t.pcs ≤ 100000) :
    Calls Try.prog 34 #[.pointer (some ⟨b, 0, none⟩), .int .i64 x, .int .i64 y] w (Edit b t x y [] w) := by
  go_enter Try.func34, Try.ntmps34
  go_wp2_with fail
  refine (rep_any x y [] w h ht hp (Nat.zero_le _)).mono ?_
  intro e w' h'
  unfold Edit at h'
  obtain ⟨rfl, h1, h2⟩ := h'
  go_wp2
  go_ret
  exact ⟨rfl, h1, h2⟩
set_option maxRecDepth 100000 in
set_option maxHeartbeats 4000000 in
theorem snap_any {b : Nat} {t : Tr} (w : World) (h : TAt w b t) :
    Calls Try.prog 29 #[.pointer (some ⟨b, 0, none⟩)] w fun e w' => ∃ g, e = .returned (.pointer (some ⟨g, 0, none⟩)) ∧ w.heap.size ≤ g ∧ TAt w' g t ∧ Below w.heap.size w w' := by
  obtain ⟨A, a0, a1, a2, a3, a4⟩ := h
  go_enter Try.func29, Try.ntmps29
  go_wp2
  go_ret
  exact ⟨w.heap.size, rfl, Nat.le_refl _, ⟨A, by rw [World.cell?_alloc_new]; rfl, by rw [World.cell?_alloc_new]; rfl, World.frozen?_alloc_new _ _ _ _, by rw [World.size_alloc]; exact Nat.lt_succ_self _, NAt.below ((Below.refl _ w).alloc (Nat.le_refl _) _) a4⟩, (Below.refl _ w).alloc (Nat.le_refl _) _⟩
theorem edT_bytes (t : Tr) (x y : Int) (s : List UInt8) (h : codR x y t.bytes.length s.length = 0) : (edT t x y s).bytes = t.bytes.take x.toNat ++ s ++ t.bytes.drop y.toNat := by
  have h0 : ¬ (x < 0 ∨ y < x ∨ ((t.bytes.length : Nat) : Int) < y) := by
    intro h1
    unfold codR at h
    rw [if_pos h1] at h
    cases h
  unfold edT
  by_cases h1 : x = y ∧ s = []
  · obtain ⟨rfl, rfl⟩ := h1
    rw [if_pos (.inr ⟨rfl, rfl⟩), List.append_nil, List.take_append_drop]
  · rw [if_neg (by simp only [h, ne_eq, not_true_eq_false, false_or]; exact h1), repT_bytes, show x.toNat + (y - x).toNat = y.toNat by omega]
theorem edT_pcs (t : Tr) (x y : Int) (s : List UInt8) : (edT t x y s).pcs ≤ t.pcs + 3 := by
  unfold edT
  split
  · omega
  · exact repT_pcs _ _ _ _
end Go.Proofs.Ytonplacldckbgaa
