/- Layer 4: the law Nil. -/
import Derived.Test.YtonplacldckbgaaMN
namespace Go.Proofs.Ytonplacldckbgaa
open Go.RowKit Go.Shelf Go.Lib Pt

set_option maxRecDepth 100000 in
set_option maxHeartbeats 16000000 in
theorem law_nil (n : Int) (s : ByteArray) (_hs : s.size ≤ maxLen) (w : World) : Calls Try.prog 12 #[.int .i64 n, .string s] w (BoolB true w) := by
  go_enter Try.func12, Try.ntmps12
  go_wp2_with fail
  (with_reducible refine (slice_nil n n w).mono ?_)
  rintro e w ⟨rfl, rfl⟩
  go_wp2_with fail
  (with_reducible refine (chunks_nil n n w).mono ?_)
  rintro e w ⟨rfl, rfl⟩
  go_wp2_with fail
  (with_reducible refine (line_nil n w).mono ?_)
  rintro e w ⟨rfl, rfl⟩
  go_wp2_with fail
  (with_reducible refine (lineAt_nil n w).mono ?_)
  rintro e w ⟨rfl, rfl⟩
  have c1 : Calls Try.prog 22 #[.string { data := #[] }] w _ := new_any [] w (by decide)
  go_wp2_with fail
  (with_reducible refine (c1).mono ?_)
  rintro e w1 ⟨b, rfl, hb, _, k1⟩
  clear c1
  go_wp2_with fail
  (with_reducible refine (known_any w1).mono ?_)
  rintro e w2 ⟨rfl, k2⟩
  have HB := chain k1 k2
  clear k1 k2
  go_wp2_with fail
  (with_reducible refine (len_nil w2).mono ?_)
  rintro e w3 ⟨rfl, k⟩
  have HB := chain HB k
  clear k
  go_wp2_with fail
  (with_reducible refine (pieces_nil w3).mono ?_)
  rintro e w4 ⟨rfl, k⟩
  have HB := chain HB k
  clear k
  go_wp2_with fail
  (with_reducible refine (depth_nil w4).mono ?_)
  rintro e w5 ⟨rfl, k⟩
  have HB := chain HB k
  clear k
  go_wp2_with fail
  (with_reducible refine (lines_nil w5).mono ?_)
  rintro e w5 ⟨rfl, rfl⟩
  go_wp2_with fail
  (with_reducible refine (str_nil w5).mono ?_)
  rintro e w5 ⟨rfl, rfl⟩
  go_wp2_with fail
  (with_reducible refine (insert_nil n s w5).mono ?_)
  rintro e w5 ⟨rfl, rfl⟩
  go_wp2_with fail
  (with_reducible refine (delete_nil n n w5).mono ?_)
  rintro e w5 ⟨rfl, rfl⟩
  go_wp2_with fail
  (with_reducible refine (repNil n n s w5).mono ?_)
  rintro e w5 ⟨rfl, rfl⟩
  go_wp2_with fail
  (with_reducible refine (snap_nil w5).mono ?_)
  rintro e w5 ⟨rfl, rfl⟩
  go_wp2_with fail
  (with_reducible refine (equal_nn w5).mono ?_)
  rintro e w5 ⟨rfl, rfl⟩
  go_wp2_with fail
  (with_reducible refine (equal_ns b w5).mono ?_)
  rintro e w5 ⟨rfl, rfl⟩
  go_wp2
  go_ret
  exact ⟨rfl, HB⟩
end Go.Proofs.Ytonplacldckbgaa
