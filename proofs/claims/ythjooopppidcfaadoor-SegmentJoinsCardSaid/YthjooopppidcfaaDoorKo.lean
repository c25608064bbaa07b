/- Layer 3: known. -/
import Derived.Test.YthjooopppidcfaaDoorKm
namespace Go.Proofs.YthjooopppidcfaaDoor
open Go.RowKit Go.Shelf
open Gc

def exS : ByteArray := ⟨#[73, 116, 39, 115, 32, 51, 46, 53, 32, 109, 44, 32, 110, 111, 63]⟩
theorem exS_str : Str exS exP [] := ⟨pts_of _ (by decide), by decide, rfl, by decide⟩
def ExTok (w : World) (e : Ending) (w' : World) : Prop := ∃ g cap, e = .returned (.tuple #[.slice (some ⟨g, 0, none⟩) 9 cap, .int .i64 0]) ∧ g < w'.heap.size ∧
  (w'.cell? ⟨g, 0, none⟩ = some (.int .i64 1) ∧ w'.cell? ⟨g, 1, none⟩ = some (.int .i64 0) ∧ w'.cell? ⟨g, 2, none⟩ = some (.int .i64 4)) ∧
  (w'.cell? ⟨g, 6, none⟩ = some (.int .i64 2) ∧ w'.cell? ⟨g, 7, none⟩ = some (.int .i64 5) ∧ w'.cell? ⟨g, 8, none⟩ = some (.int .i64 8)) ∧ w'.cell? ⟨g, 15, none⟩ = some (.int .i64 4) ∧ Below w.heap.size w w'
theorem ex_tokens (w : World) (hT : Tabs w) : Calls Tryd.prog 16 #[.string exS] w (ExTok w) := by
  refine (tokens_ok exS_str (by decide) w hT).mono ?_
  rintro e w' ⟨A, cap, rfl, hA, hb⟩
  rw [ex_tok] at hA ⊢
  rcases hA with h | ⟨g, rfl, hg, hc⟩
  · cases h
  · exact ⟨g, cap, rfl, hg, hc 0 (by decide), hc 2 (by decide), (hc 5 (by decide)).1, hb⟩
def ExBrk (w : World) (e : Ending) (w' : World) : Prop := ∃ g cap, e = .returned (.tuple #[.slice (some ⟨g, 0, none⟩) 3 cap, .int .i64 0]) ∧ g < w'.heap.size ∧
  (w'.cell? ⟨g, 0, none⟩ = some (.int .i64 5) ∧ w'.cell? ⟨g, 1, none⟩ = some (.int .i64 1)) ∧ w'.cell? ⟨g, 4, none⟩ = some (.int .i64 12) ∧ Below w.heap.size w w'
theorem ex_breaks (w : World) (hT : Tabs w) : Calls Tryd.prog 27 #[.string exS] w (ExBrk w) := by
  refine (breaks_ok exS_str (by decide) w hT).mono ?_
  rintro e w' ⟨A, cap, rfl, hA, hb⟩
  rw [ex_brk] at hA ⊢
  rcases hA with h | ⟨g, rfl, hg, hc⟩
  · cases h
  · exact ⟨g, cap, rfl, hg, hc 0 (by decide), (hc 2 (by decide)).1, hb⟩

set_option maxRecDepth 100000 in
set_option maxHeartbeats 4000000 in
theorem known_any (w : World) (hT : Tabs w) : Calls Tryd.prog 12 #[] w (BoolPost true w) := by
  have c1 := ex_tokens w hT
  have c2 := fun w' hT' => ex_breaks w' hT'
  unfold exS at c1 c2
  have HT := Go.Lib.hid hT
  clear hT
  go_enter Tryd.func12, Tryd.ntmps12
  go_wp2_with (first
    | (go_at_call 16; (with_reducible refine c1.mono ?_); rintro e w1 ⟨g1, p1, rfl, hg1, ⟨a0, a1, a2⟩, ⟨a6, a7, a8⟩, a15, b1⟩; have B1 := Go.Lib.hid b1; clear b1 c1)
    | (go_at_call 27; (with_reducible refine (c2 w1 (HT.out.below B1.out)).mono ?_); rintro e w2 ⟨g2, p2, rfl, hg2, ⟨d0, d1⟩, d4, b2⟩; (have k0 := (b2.cell (p := ⟨g1, 0, none⟩) hg1).trans a0; have k1 := (b2.cell (p := ⟨g1, 1, none⟩) hg1).trans a1; have k2 := (b2.cell (p := ⟨g1, 2, none⟩) hg1).trans a2; have k6 := (b2.cell (p := ⟨g1, 6, none⟩) hg1).trans a6; have k7 := (b2.cell (p := ⟨g1, 7, none⟩) hg1).trans a7; have k8 := (b2.cell (p := ⟨g1, 8, none⟩) hg1).trans a8; have k15 := (b2.cell (p := ⟨g1, 15, none⟩) hg1).trans a15; have B2 := Go.Lib.hid (B1.out.trans (b2.mono B1.out.size)); clear a0 a1 a2 a6 a7 a8 a15 b2 c2)))
  go_ret
  exact ⟨rfl, B2.out⟩
end Go.Proofs.YthjooopppidcfaaDoor
