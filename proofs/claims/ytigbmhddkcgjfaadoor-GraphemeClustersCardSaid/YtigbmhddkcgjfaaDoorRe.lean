import Derived.Test.YtigbmhddkcgjfaaDoorRd
namespace Go.Proofs.YtigbmhddkcgjfaaDoor
open Go.RowKit Go.Shelf
open Gc

theorem row_below {W W' : World} {base : Nat} {e : TypeId} {size : Nat} {v : Value} {k : Nat} {xs : List Value} (h : W.ownsRow base e size v k xs) (hb : Below W.heap.size W W') : W'.ownsRow base e size v k xs :=
  h.kept (grown_below hb rfl) (by cases v.ownBlock <;> simp)
theorem below_append {B : Nat} {A V w1 : World} {e : TypeId} {v : Value} {size k : Nat} {xs : List Value} {tmp : Obj} (hb : Below B A V) (hB : B ≤ V.heap.size) (hrow : V.ownsRow B e size v k xs) (hgrow : (V.alloc tmp).grownBy w1 v.ownBlock) : Below B A w1 :=
  (hb.alloc hB tmp).grown hgrow (by simp; omega) (fun g hg => (row_type hrow g hg).1)
/-- A row of ints that is not nil is a block of ints. -/
theorem ints_cases {w : World} {base : Nat} {v : Value} {l : List Int} (h : Ints w base v l) : (l = [] ∧ v = .slice none 0 0) ∨ ∃ g cap, base ≤ g ∧ v = .slice (some ⟨g, 0, none⟩) l.length cap ∧ Cs w g l := by
  obtain ⟨h1, h2⟩ := h
  rcases h2 with ⟨rfl, h0⟩ | ⟨g, cap, cur, rfl, hb, hgb, hle, hmx, hsz, htk⟩
  · exact .inl ⟨List.length_eq_zero_iff.1 h0, rfl⟩
  · refine .inr ⟨g, cap, hb, rfl, (Array.getElem?_eq_some_iff.1 hgb).1, fun k hk => ?_⟩
    have e1 : cur[k]? = some (.int .i64 l[k]) := by
      have e2 : (cur.toList.take (l.length * 1))[k]? = (l.map (Value.int .i64))[k]? := by rw [htk]
      rw [List.getElem?_take_of_lt (by omega), List.getElem?_map, List.getElem?_eq_getElem hk] at e2
      simpa using e2
    simp [World.cell?, hgb, e1]
theorem Ints.below {w w' : World} {base : Nat} {v : Value} {l : List Int} (h : Ints w base v l) (hb : Below w.heap.size w w') : Ints w' base v l := row_below h hb

def RowPost (l : List Int) (w : World) (e : Ending) (w' : World) : Prop := ∃ v, e = .returned v ∧ Ints w' w.heap.size v l ∧ Below w.heap.size w w'

theorem map_take_succ (l : List Int) (k : Nat) (h : k < l.length) : (l.take (k + 1)).map (Value.int .i64) = (l.take k).map (Value.int .i64) ++ [.int .i64 l[k]] := by
  rw [List.take_succ_eq_append_getElem h, List.map_append]; rfl

set_option maxRecDepth 100000 in
set_option maxHeartbeats 4000000 in
theorem classes_in (ps : List Int) (g cap n : Nat) (hn : ps.length = n) (hl : n ≤ 100000) (w : World) (hC : Cs w g ps) :
    Calls Tryd.prog 39 #[.slice (some ⟨g, 0, none⟩) n cap] w (RowPost (ps.map classOf) w) := by
  obtain ⟨i0, hi, hz0, hz1, hz2⟩ := info_parts info3
  have HC := Go.Lib.hid hC
  clear hC
  have N := Go.Lib.hid hn
  clear hn
  go_enter Tryd.func39, Tryd.ntmps39
  go_wp2
  go_loopw [3, 4] (fun o i wr => ∃ k : Nat, k ≤ n ∧ i = .int .i64 (k : Nat) ∧ Hid (Below w.heap.size w wr) ∧ Hid (wr.ownsRow w.heap.size 3 1 o k (((ps.map classOf).take k).map (Value.int .i64)))) (fun _ i _ => n - (intOf i).toNat)
  case atStart => exact ⟨0, Nat.zero_le _, rfl, Go.Lib.hid (Below.refl _ _), Go.Lib.hid (World.ownsRow_nil _ _ _ _)⟩
  case round =>
    obtain ⟨k, hk, rfl, HB, HO⟩ := hrel
    by_cases hlt : k < n
    · have hkl : k < ps.length := by have := N.out; omega
      have hck := ((HC.out.below HB.out HC.out.1).2 k hkl)
      have hsnoc := map_take_succ (ps.map classOf) k (by simpa using hkl)
      rw [List.getElem_map] at hsnoc
      generalize ps[k] = p at hck hsnoc
      have HS := Go.Lib.hid hsnoc
      clear hsnoc
      have hwr := HB.out.size
      go_wp2_with (first
        | (go_at_call 14; refine (refClass_any p _).mono ?_; rintro e w1 ⟨rfl, hb1⟩; have HO1 := Go.Lib.hid (row_below HO.out hb1); have HB1 := Go.Lib.hid (HB.out.trans (hb1.mono HB.out.size)); have hw1 := HB1.out.size)
        | (at_builtin; refine wpList_append_own _ rfl _ _ 26 rfl w.heap.size 3 i0 (.int .i64 0) 1 8 Tryd.underlying26 hi hz0 hz1 hz2 rfl (by decide) _ _ _ rfl (HO1.out.alloc _) ⟨w1.heap.size, 0, none⟩ 1 1 [.int .i64 (classOf p)] rfl rfl (cell_one_new _ _ _) (by simp [Value.oneCell']) (by unfold maxLen; omega) (by omega) (by simp; omega) ?_; intro v' w2 hown' hgrow _; have HO2 := Go.Lib.hid hown'; have HB2 := Go.Lib.hid (below_append HB1.out hw1 HO1.out hgrow); clear hown' hgrow))
      go_roundw
      case rel => exact ⟨k + 1, by omega, by go_num, HB2, Go.Lib.hid (by rw [HS.out]; exact HO2.out)⟩
      case measure => simp [intOf]; omega
    · obtain rfl : k = n := by omega
      go_wp2
      go_ret
      refine ⟨_, rfl, ?_, HB.out⟩
      have := HO.out
      rw [List.take_of_length_le (by have := N.out; simp; omega)] at this
      unfold Ints
      rw [List.length_map, N.out]
      exact this
end Go.Proofs.YtigbmhddkcgjfaaDoor
