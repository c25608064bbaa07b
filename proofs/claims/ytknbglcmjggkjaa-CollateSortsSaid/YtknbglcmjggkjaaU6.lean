/- Layer 6: Compare (23). -/
import Derived.Test.YtknbglcmjggkjaaU5
import Derived.Test.YtknbglcmjggkjaaShelf
namespace Go.Proofs.Ytknbglcmjggkjaa
open Go.RowKit Go.Shelf Go.Lib Co

/-- The error of Compare. -/
def errC (st : Int) (s : ByteArray) (bad : List UInt8) (s' : ByteArray) (bad' : List UInt8) : Int := if errS st s bad ≠ 0 then errS st s bad else errS st s' bad'
theorem errC_zero {st : Int} {s s' : ByteArray} {bad bad' : List UInt8} (h : errC st s bad s' bad' = 0) : errS st s bad = 0 ∧ errS st s' bad' = 0 := by
  unfold errC at h
  by_cases h1 : errS st s bad ≠ 0
  · rw [if_pos h1] at h; exact absurd h h1
  · rw [if_neg h1] at h; exact ⟨by simpa using h1, h⟩
/-- What Compare hands back. -/
def CmpAns (er : Int) (v : Int) (w : World) (e : Ending) (w' : World) : Prop := e = .returned (.tuple #[.int .i64 (if er = 0 then v else 0), .int .i64 er]) ∧ Below w.heap.size w w'
/-- The key of a string. -/
def keyS (st : Int) (nu ig uf : Bool) (s : ByteArray) (P : List Nat) : List UInt8 := keyB st.toNat s.data.toList (elems nu (upN uf) ig P)
set_option maxRecDepth 100000 in
set_option maxHeartbeats 8000000 in
theorem compare_any {s s' : ByteArray} {P P' : List Nat} {bad bad' : List UInt8} (hs : Cp.Str s P bad) (hs' : Cp.Str s' P' bad') (st : Int) (nu ig uf : Bool) (w : World) :
    Calls Try.prog 23 #[.string s, .string s', opV st nu ig uf] w (CmpAns (errC st s bad s' bad') (compareBytes (keyS st nu ig uf s P) (keyS st nu ig uf s' P')) w) := by
  have hB : Below w.heap.size w (w.alloc (.cells #[.int .i64 st, .bool nu, .bool ig, .bool uf] 23)) := (Below.refl _ w).alloc (Nat.le_refl _) _
  have hlW : w.heap.size < (w.alloc (.cells #[.int .i64 st, .bool nu, .bool ig, .bool uf] 23)).heap.size := by rw [World.size_alloc]; exact Nat.lt_succ_self _
  have zz : ∀ k, k < 4 → (w.alloc (.cells #[.int .i64 st, .bool nu, .bool ig, .bool uf] 23)).cell? ⟨w.heap.size, k, none⟩ = (#[Value.int .i64 st, .bool nu, .bool ig, .bool uf])[k]? := fun k _ => by rw [World.cell?_alloc_new]
  have z0 : _ = some (Value.int .i64 st) := zz 0 (by omega)
  have z1 : _ = some (Value.bool nu) := zz 1 (by omega)
  have z2 : _ = some (Value.bool ig) := zz 2 (by omega)
  have z3 : _ = some (Value.bool uf) := zz 3 (by omega)
  clear zz
  have cK := Go.Lib.hid (fun w' => key_any hs st nu ig uf w')
  have cK' := Go.Lib.hid (fun w' => key_any hs' st nu ig uf w')
  unfold opV at *
  go_enter Try.func23, Try.ntmps23
  go_wp2_with fail
  generalize w.alloc (.cells #[.int .i64 st, .bool nu, .bool ig, .bool uf] 23) = W at *
  refine (cK.out W).mono ?_
  rintro e w1 ⟨rfl, k1⟩
  have hB1 : Below w.heap.size w w1 := hB.trans (k1.mono (Nat.le_of_lt hlW))
  have y0 := (k1.cell (p := ⟨w.heap.size, 0, none⟩) hlW).trans z0
  have y1 := (k1.cell (p := ⟨w.heap.size, 1, none⟩) hlW).trans z1
  have y2 := (k1.cell (p := ⟨w.heap.size, 2, none⟩) hlW).trans z2
  have y3 := (k1.cell (p := ⟨w.heap.size, 3, none⟩) hlW).trans z3
  have hs1 := hB1.size
  clear z0 z1 z2 z3 hB k1 hlW
  by_cases h0 : errS st s bad = 0
  · have HE := Go.Lib.hid (show errC st s bad s' bad' = errS st s' bad' by unfold errC; rw [if_neg (by simpa using h0)])
    rw [h0, if_pos rfl]
    clear h0
    go_wp2_with fail
    refine (cK'.out w1).mono ?_
    rintro e w2 ⟨rfl, k2⟩
    have hB2 : Below w.heap.size w w2 := hB1.trans (k2.mono hs1)
    clear y0 y1 y2 y3 k2
    by_cases h1 : errS st s' bad' = 0
    · have HE2 := Go.Lib.hid (HE.out.trans h1)
      rw [h1, if_pos rfl]
      clear h1
      go_wp2_with (go_at_call 40; (with_reducible refine (Try.strings_Compare _ _ _).mono ?_); rintro e w4 ⟨rfl, rfl⟩)
      go_ret2
      exact ⟨by rw [HE2.out, if_pos rfl, bs_data, bs_data]; rfl, hB2⟩
    · have HE2 := Go.Lib.hid h1
      go_wp2
      go_ret2
      exact ⟨by rw [HE.out, if_neg HE2.out]; rfl, hB2⟩
  · have HE := Go.Lib.hid (show errC st s bad s' bad' = errS st s bad by unfold errC; rw [if_pos h0])
    have HE2 := Go.Lib.hid h0
    go_wp2
    go_ret2
    exact ⟨by rw [HE.out, if_neg HE2.out]; rfl, hB1⟩
end Go.Proofs.Ytknbglcmjggkjaa
