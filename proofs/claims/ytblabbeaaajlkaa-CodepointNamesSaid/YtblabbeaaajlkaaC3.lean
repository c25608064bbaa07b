import Derived.Test.YtblabbeaaajlkaaC1
import Derived.Test.YtblabbeaaajlkaaD2
import Derived.Test.YtblabbeaaajlkaaD3
namespace Go.Proofs.Ytblabbeaaajlkaa
open Go.RowKit
open U

set_option maxRecDepth 100000 in
set_option maxHeartbeats 2000000 in
theorem law_names (s : ByteArray) (hs : s.size ≤ maxLen) (w : World) :
    Calls Try.prog 11 #[.string s] w (TrueRet w) := by
  have hsm := cutS_small s
  go_enter Try.func11, Try.ntmps11
  go_wp2_with (first | (go_at_call 12; refine (cut_any s hs _).mono ?_; rintro e w' ⟨rfl, rfl⟩) | (go_at_call 13; refine (known_any _).mono ?_; rintro e w1 ⟨rfl, hb1⟩) | (go_at_call 33; refine (fold_any _ hsm _).mono ?_; rintro e w2 ⟨rfl, hb2⟩) | (go_at_call 34; refine (refFold_any _ hsm _).mono ?_; rintro e w3 ⟨rfl, hb3⟩) | (go_at_call 35; refine (isName_any _ hsm _).mono ?_; rintro e w' ⟨rfl, rfl⟩) | (go_at_call 36; refine (refIsName_any _ hsm _).mono ?_; rintro e w' ⟨rfl, rfl⟩))
  go_ret
  exact ⟨ret_bool (by first | rfl | simp), chain (chain hb1 hb2) hb3⟩
end Go.Proofs.Ytblabbeaaajlkaa
