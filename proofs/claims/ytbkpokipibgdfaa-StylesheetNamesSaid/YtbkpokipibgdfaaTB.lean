/- Layer 8: the law of names (4). -/
import Derived.Test.YtbkpokipibgdfaaSU
import Derived.Test.YtbkpokipibgdfaaTA
namespace Go.Proofs.Ytbkpokipibgdfaa
open Go.RowKit Go.Lib
set_option linter.unusedVariables false

def TrueW (w : World) (e : Ending) (w' : World) : Prop := e = .returned (.bool true) ∧ Below w.heap.size w w'
set_option maxRecDepth 100000 in
set_option maxHeartbeats 8000000 in
theorem law_names (s : ByteArray) (hs : s.size ≤ maxLen) (w : World) : Calls Try.prog 4 #[.string s] w (TrueW w) := by
  unfold maxLen at hs
  have cK := Go.Lib.hid (fun w' => known_any w')
  obtain ⟨n, hn⟩ : ∃ n, s.size = n := ⟨_, rfl⟩
  rw [hn] at hs
  by_cases hz : n ≤ 100
  · have hm : min (n : Int) 100 = (n : Int) := by omega
    have hsz : (s.extract 0 n).size ≤ 1000000 := by rw [ByteArray.size_extract]; omega
    have cI := Go.Lib.hid (fun w' => isname_any (s.extract 0 n) hsz w')
    have cR := Go.Lib.hid (fun w' => risname_any (s.extract 0 n) hsz w')
    have p1 : (nmB (s.extract 0 n) == nmB (s.extract 0 n)) = true := by simp
    generalize nmB (s.extract 0 n) = N at cI cR p1
    clear hz hsz
    go_enter Try.func4, Try.ntmps4
    go_wp2_with fail
    (with_reducible refine (cK.out _).mono ?_)
    rintro e w1 ⟨rfl, k1⟩
    go_wp2_with fail
    (with_reducible refine (cI.out _).mono ?_)
    rintro e w2 ⟨rfl, rfl⟩
    go_wp2_with fail
    (with_reducible refine (cR.out _).mono ?_)
    rintro e w3 ⟨rfl, rfl⟩
    go_wp2
    go_ret
    exact ⟨by simp, k1⟩
  · have hm : min (n : Int) 100 = 100 := by omega
    have h40 : (100 : Int) ≤ (n : Int) := by omega
    have h41 : ¬ (n : Int) ≤ 100 := by omega
    have h42 : ¬ n ≤ 100 := by omega
    have hnm : (n : Int) ≤ 9223372036854775807 := by omega
    have hsz : (s.extract 0 100).size ≤ 1000000 := by rw [ByteArray.size_extract]; omega
    have cI := Go.Lib.hid (fun w' => isname_any (s.extract 0 100) hsz w')
    have cR := Go.Lib.hid (fun w' => risname_any (s.extract 0 100) hsz w')
    have p1 : (nmB (s.extract 0 100) == nmB (s.extract 0 100)) = true := by simp
    generalize nmB (s.extract 0 100) = N at cI cR p1
    clear hz hsz hs
    go_enter Try.func4, Try.ntmps4
    go_wp2_with fail
    (with_reducible refine (cK.out _).mono ?_)
    rintro e w1 ⟨rfl, k1⟩
    go_wp2_with fail
    (with_reducible refine (cI.out _).mono ?_)
    rintro e w2 ⟨rfl, rfl⟩
    go_wp2_with fail
    (with_reducible refine (cR.out _).mono ?_)
    rintro e w3 ⟨rfl, rfl⟩
    go_wp2
    go_ret
    exact ⟨by simp, k1⟩
end Go.Proofs.Ytbkpokipibgdfaa
