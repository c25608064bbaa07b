import Derived.Test.YtigbmhddkcgjfaaDoorKn
namespace Go.Proofs.YtigbmhddkcgjfaaDoor
open Go.RowKit Go.Shelf
open Gc

theorem cp_pts (P : List Nat) : (ptsI P).map classOf = cp P := by
  unfold ptsI cp clsOf
  rw [List.map_map]; rfl
theorem bl_bnd (cs : List Int) : bl (cls cs) = (bnd cs).map fun n : Nat => (n : Int) := by
  unfold bl bnd
  rw [List.map_cons, List.map_map]; rfl
theorem bl_bounds (P : List Nat) : bounds ((ptsI P).map classOf) = bl (cls (cp P)) := by
  rw [cp_pts, bl_bnd, bnd_bounds]
theorem str_cut (s : ByteArray) : ∃ P bad, Str (cutS s) P bad := str_parts _ (by have := cutS_size s; omega)
theorem cp_len (P : List Nat) : (cp P).length = P.length := by simp [cp, clsOf]
theorem cls_len_le {s : ByteArray} {P : List Nat} {bad : List UInt8} (h : Str s P bad) : (cls (cp P)).length ≤ 100000 := by
  have h1 := bnd_length_le (cp P)
  have h2 := h.len
  rw [cp_len] at h1
  omega
/-- The boundaries in a block, from the reference. -/
def RefBlk (l : List Int) (w : World) (e : Ending) (w' : World) : Prop := ∃ g cap, e = .returned (.slice (some ⟨g, 0, none⟩) l.length cap) ∧ Cs w' g l ∧ Below w.heap.size w w'
theorem ref_blk {s : ByteArray} {P : List Nat} {bad : List UInt8} (h : Str s P bad) (base : Nat) (v : Value) (w : World) (hv : Ints w base v (ptsI P)) : Calls Tryd.prog 19 #[v] w (RefBlk (bl (cls (cp P))) w) := by
  have := refBounds_any (ptsI P) base v (by rw [ptsI_len]; exact h.len) w hv
  rw [bl_bounds] at this
  refine this.mono fun e w' ⟨u, he, hu, hb⟩ => ?_
  subst he
  rcases ints_cases hu with ⟨h0, _⟩ | ⟨g, cap, hg, rfl, hC⟩
  · exact absurd h0 (bl_ne _)
  · exact ⟨g, cap, rfl, hC, hb⟩
/-- The reference's points at a valid string, and at another. -/
def PtsOk (P : List Nat) (w : World) (e : Ending) (w' : World) : Prop := ∃ v1 v2, e = .returned (.tuple #[v1, v2, .bool true]) ∧ Ints w' w.heap.size v1 (ptsI P) ∧ Ints w' w.heap.size v2 (offs P) ∧ Below w.heap.size w w'
theorem points_ok {s : ByteArray} {P : List Nat} (h : Str s P []) (w : World) : Calls Tryd.prog 17 #[.string s] w (PtsOk P w) :=
  (points_any h w).mono fun e w' hp => by
    rcases hp with ⟨_, h1⟩ | ⟨h1, _⟩
    · exact h1
    · exact absurd rfl h1
def PtsBad (w : World) (e : Ending) (w' : World) : Prop := e = .returned (.tuple #[.slice none 0 0, .slice none 0 0, .bool false]) ∧ Below w.heap.size w w'
theorem points_bad {s : ByteArray} {P : List Nat} {bad : List UInt8} (h : Str s P bad) (hb : bad ≠ []) (w : World) : Calls Tryd.prog 17 #[.string s] w (PtsBad w) :=
  (points_any h w).mono fun e w' hp => by
    rcases hp with ⟨h1, _⟩ | ⟨_, h1⟩
    · exact absurd h1 hb
    · exact h1

set_option maxRecDepth 100000 in
set_option maxHeartbeats 4000000 in
theorem law_boundaries (s : ByteArray) (hs : s.size ≤ maxLen) (w : World) (hT : Tabs w) : Calls Tryd.prog 4 #[.string s] w (BoolPost true w) := by
  obtain ⟨P, bad, h⟩ := str_cut s
  have HT := Go.Lib.hid hT
  clear hT
  have cC := fun w => cut_any s hs w
  by_cases hb : bad = []
  · subst hb
    have cB := fun w' hT' => bounds_blk h w' hT'
    have cP := fun w' => points_ok h w'
    have cR := fun v base w' hv => ref_blk h base v w' hv
    have hl := cls_len_le h
    have hbl := bl_len (cls (cp P))
    generalize bl (cls (cp P)) = L at cB cR hbl
    have HLN := Go.Lib.hid (show L.length ≤ 1000000 by omega)
    clear hbl hl
    clear h
    go_enter Tryd.func4, Tryd.ntmps4
    go_wp2_with (first
      | (go_at_call 15; (with_reducible refine (cC _).mono ?_); rintro e w' ⟨rfl, rfl⟩)
      | (go_at_call 16; (with_reducible refine (cB _ HT.out).mono ?_); rintro e w1 ⟨g1, p1, rfl, hg1, C1, b1⟩; have K1 := Go.Lib.hid C1; have B1 := Go.Lib.hid b1; clear C1 b1)
      | (go_at_call 17; (with_reducible refine (cP _).mono ?_); rintro e w2 ⟨v1, v2, rfl, i1, i2, b2⟩; have I1 := Go.Lib.hid i1; have K2 := Go.Lib.hid (K1.out.below b2 K1.out.lt); have B2 := Go.Lib.hid (B1.out.trans (b2.mono B1.out.size)); clear i1 i2 b2)
      | (go_at_call 12; (with_reducible refine (known_any _ (HT.out.below B2.out)).mono ?_); rintro e w3 ⟨rfl, b3⟩; have I3 := Go.Lib.hid (I1.out.below b3); have K3 := Go.Lib.hid (K2.out.below b3 K2.out.lt); have B3 := Go.Lib.hid (B2.out.trans (b3.mono B2.out.size)); clear b3)
      | (go_at_call 19; (with_reducible refine (cR _ _ _ I3.out).mono ?_); rintro e w4 ⟨g4, p4, rfl, C4, b4⟩; have K4 := Go.Lib.hid C4; have K5 := Go.Lib.hid (K3.out.below b4 K3.out.lt); have B4 := Go.Lib.hid (B3.out.trans (b4.mono B3.out.size)); clear C4 b4)
      | (go_at_call 18; (with_reducible refine (same_any L L.length g1 p1 g4 p4 rfl HLN.out _ K5.out K4.out).mono ?_); rintro e w5 ⟨rfl, b5⟩; have B5 := Go.Lib.hid (B4.out.trans (b5.mono B4.out.size)); clear b5))
    go_ret
    exact ⟨rfl, B5.out⟩
  · have cB := fun w' hT' => boundaries_bad h hb w' hT'
    have cP := fun w' => points_bad h hb w'
    clear h
    go_enter Tryd.func4, Tryd.ntmps4
    go_wp2_with (first
      | (go_at_call 15; (with_reducible refine (cC _).mono ?_); rintro e w' ⟨rfl, rfl⟩)
      | (go_at_call 16; (with_reducible refine (cB _ HT.out).mono ?_); rintro e w1 ⟨rfl, b1⟩; have B1 := Go.Lib.hid b1; clear b1)
      | (go_at_call 17; (with_reducible refine (cP _).mono ?_); rintro e w2 ⟨rfl, b2⟩; have B2 := Go.Lib.hid (B1.out.trans (b2.mono B1.out.size)); clear b2)
      | (go_at_call 12; (with_reducible refine (known_any _ (HT.out.below B2.out)).mono ?_); rintro e w3 ⟨rfl, b3⟩; have B3 := Go.Lib.hid (B2.out.trans (b3.mono B2.out.size)); clear b3))
    go_ret
    exact ⟨rfl, B3.out⟩
end Go.Proofs.YtigbmhddkcgjfaaDoor
