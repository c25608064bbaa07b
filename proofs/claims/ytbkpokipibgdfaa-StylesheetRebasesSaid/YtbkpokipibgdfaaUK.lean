/- Layer 8: Rebase (40) where there is an error. -/
import Derived.Test.YtbkpokipibgdfaaUD
import Derived.Test.YtbkpokipibgdfaaUJ
import Derived.Test.YtbkpokipibgdfaaNM
namespace Go.Proofs.Ytbkpokipibgdfaa
open Go.RowKit Go.Lib Go.Maps
set_option linter.unusedVariables false

theorem two_below {W w : World} {B C n : Nat} (h : Below n w W) (hB : n ≤ B) (hC : n ≤ C) (x y : Value) : Below n w ((W.setCell ⟨B, 0, none⟩ x).setCell ⟨C, 0, none⟩ y) :=
  (h.setCell (p := ⟨B, 0, none⟩) hB x).setCell (p := ⟨C, 0, none⟩) hC y
set_option maxRecDepth 100000 in
set_option maxHeartbeats 8000000 in
theorem rebase_bad (l : List St) (hok : LsOk l) (hnm : NmsOk l) (A : Option Addr) (n d : Nat) (hn : l.length = n) (hs : n ≤ 1000) (i base : Int) (hi : I64 i) (hbad : chkI l i ≠ 0) (w : World) (hA : LsAt w A l) :
    Calls Try.prog 40 #[.slice A n d, .int .i64 i, .int .i64 base] w fun e w' => e = .returned (.tuple #[.slice none 0 0, .int .i64 (chkI l i)]) ∧ Below w.heap.size w w' := by
  have kb := ((Below.refl w.heap.size w).alloc (Nat.le_refl _) (.cells #[.slice none 0 0] 22)).alloc (by simp) (.cells #[.int .i64 0] 29)
  have cO := openat_any l hok hnm A n d hn hs i hi _ (hA.below kb)
  have b6 := (Boxed.new w 22 (.slice none 0 0)).alloc (.cells #[.int .i64 0] 29)
  have b7 := Boxed.new (w.alloc (.cells #[.slice none 0 0] 22)) 29 (.int .i64 0)
  rw [World.size_alloc] at b7
  have KB := Go.Lib.hid kb
  have B6 := Go.Lib.hid b6
  have B7 := Go.Lib.hid b7
  have HBAD := Go.Lib.hid hbad
  have hz2 : ((w.alloc (.cells #[.slice none 0 0] 22)).alloc (.cells #[.int .i64 0] 29)).heap.size = w.heap.size + 2 := by simp
  clear hA hok hnm hbad kb b6 b7
  go_enter Try.func40, Try.ntmps40
  go_wp2_with fail
  (with_reducible refine cO.mono ?_)
  rintro e w1 ⟨(⟨hz, rfl⟩ | ⟨b, k, hz, hp, rfl, hsh⟩), k1⟩
  · have e1 : (chkI l i != 0) = true := by simpa using hz
    have r6 := ((boxed_below B6.out k1).alloc (.cells #[.slice none 0 0, .map none] 73)).alloc (.cells #[.int .i64 0] 3)
    have r7 := ((boxed_below B7.out k1).alloc (.cells #[.slice none 0 0, .map none] 73)).alloc (.cells #[.int .i64 0] 3)
    have s1 := k1.size
    rw [hz2] at s1
    have B1 := Go.Lib.hid (((KB.out.trans (k1.mono (by rw [hz2]; omega))).alloc (by omega) (.cells #[.slice none 0 0, .map none] 73)).alloc (by simp; omega) (.cells #[.int .i64 0] 3))
    have c6 := r6.cell
    have c7 := r7.cell
    have f6 := r6.frozen
    have f7 := r7.frozen
    have Q := two_boxes r6 r7 (by omega) (.slice none 0 0) (.int .i64 (chkI l i))
    have q6 := Q.1.cell
    have q7 := Q.2.cell
    clear cO hz k1 r6 r7
    go_wp2_with fail
    refine bodyPost_ret (v := .tuple #[.slice none 0 0, .int .i64 (chkI l i)]) (by simp [results, Try.results40, go_sem, q6, q7]) rfl ⟨rfl, ?_⟩
    exact two_below B1.out (by omega) (by omega) _ _
  · exact absurd hz HBAD.out
end Go.Proofs.Ytbkpokipibgdfaa
