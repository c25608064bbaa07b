import Derived.Test.YtigbmhddkcgjfaaDoorCk
namespace Go.Proofs.YtigbmhddkcgjfaaDoor
open Go.RowKit Go.Shelf Go.Lib
open Gc

theorem err_cases (P : List Nat) (bad : List UInt8) (at' : Int) (h : errOf P bad at' ≠ 0) : errOf P bad at' = 12 ∨ errOf P bad at' = 2 := by
  unfold errOf at h ⊢
  split
  · exact .inl rfl
  · split
    · exact .inr rfl
    · simp_all
theorem err_ok (P : List Nat) (at' : Int) (h : 0 ≤ at' ∧ at' ≤ P.length) : errOf P [] at' = 0 := by
  unfold errOf
  rw [if_neg (fun h => h rfl), if_neg (by omega)]

set_option maxRecDepth 100000 in
set_option maxHeartbeats 2000000 in
theorem isB_err {s : ByteArray} {P : List Nat} {bad : List UInt8} (h : Str s P bad) (at' : Int) (w : World) (hT : Tabs w) (he : errOf P bad at' ≠ 0) :
    Calls Tryd.prog 23 #[.string s, .int .i64 at'] w (Pair2 (.bool false) (.int .i64 (errOf P bad at')) w) := by
  have cC := check_any h at' w hT
  rcases err_cases P bad at' he with e | e
  all_goals
    rw [e] at cC ⊢
    clear h e he
    go_enter Tryd.func23, Tryd.ntmps23
    go_wp2_with (go_at_call 42; (with_reducible refine cC.mono ?_); rintro e w1 ⟨rfl, hb1⟩)
    go_ret2
    exact ⟨rfl, hb1⟩
set_option maxRecDepth 100000 in
set_option maxHeartbeats 2000000 in
theorem prev_err {s : ByteArray} {P : List Nat} {bad : List UInt8} (h : Str s P bad) (at' : Int) (w : World) (hT : Tabs w) (he : errOf P bad at' ≠ 0) :
    Calls Tryd.prog 25 #[.string s, .int .i64 at'] w (Pair2 (.int .i64 0) (.int .i64 (errOf P bad at')) w) := by
  have cC := check_any h at' w hT
  rcases err_cases P bad at' he with e | e
  all_goals
    rw [e] at cC ⊢
    clear h e he
    go_enter Tryd.func25, Tryd.ntmps25
    go_wp2_with (go_at_call 42; (with_reducible refine cC.mono ?_); rintro e w1 ⟨rfl, hb1⟩)
    go_ret2
    exact ⟨rfl, hb1⟩
set_option maxRecDepth 100000 in
set_option maxHeartbeats 2000000 in
theorem floorE_err {s : ByteArray} {P : List Nat} {bad : List UInt8} (h : Str s P bad) (at' : Int) (w : World) (hT : Tabs w) (he : errOf P bad at' ≠ 0) :
    Calls Tryd.prog 26 #[.string s, .int .i64 at'] w (Pair2 (.int .i64 0) (.int .i64 (errOf P bad at')) w) := by
  have cC := check_any h at' w hT
  rcases err_cases P bad at' he with e | e
  all_goals
    rw [e] at cC ⊢
    clear h e he
    go_enter Tryd.func26, Tryd.ntmps26
    go_wp2_with (go_at_call 42; (with_reducible refine cC.mono ?_); rintro e w1 ⟨rfl, hb1⟩)
    go_ret2
    exact ⟨rfl, hb1⟩
set_option maxRecDepth 100000 in
set_option maxHeartbeats 2000000 in
theorem isB_ok {s : ByteArray} {P : List Nat} (h : Str s P []) (at' : Int) (w : World) (hT : Tabs w) (hr : 0 ≤ at' ∧ at' ≤ P.length) :
    Calls Tryd.prog 23 #[.string s, .int .i64 at'] w (Pair2 (.bool ((flo (cls (cp P)) at' : Int) == at')) (.int .i64 0) w) := by
  have cC := check_any h at' w hT
  rw [err_ok P at' hr] at cC
  have cF := fun w => floor_any h at' w
  generalize (flo (cls (cp P)) at' : Nat) = f at cF ⊢
  go_enter Tryd.func23, Tryd.ntmps23
  go_wp2_with (first
    | (go_at_call 42; (with_reducible refine cC.mono ?_); rintro e w1 ⟨rfl, hb1⟩)
    | (go_at_call 43; (with_reducible refine (cF _).mono ?_); rintro e w2 ⟨rfl, hb2⟩))
  go_ret2
  exact ⟨rfl, hb1.trans (hb2.mono hb1.size)⟩
set_option maxRecDepth 100000 in
set_option maxHeartbeats 2000000 in
theorem prev_ok {s : ByteArray} {P : List Nat} (h : Str s P []) (at' : Int) (w : World) (hT : Tabs w) (hr : 0 ≤ at' ∧ at' ≤ P.length) :
    Calls Tryd.prog 25 #[.string s, .int .i64 at'] w (Pair2 (.int .i64 (flo (cls (cp P)) (at' - 1) : Nat)) (.int .i64 0) w) := by
  have cC := check_any h at' w hT
  rw [err_ok P at' hr] at cC
  have cF := fun w => floor_any h (at' - 1) w
  generalize (flo (cls (cp P)) (at' - 1) : Nat) = f at cF ⊢
  have hl := h.len
  have h1 : 0 ≤ at' := hr.1
  have h2 : at' ≤ 100000 := by omega
  clear h
  go_enter Tryd.func25, Tryd.ntmps25
  go_wp2_with (first
    | (go_at_call 42; (with_reducible refine cC.mono ?_); rintro e w1 ⟨rfl, hb1⟩)
    | (go_at_call 43; (with_reducible refine (cF _).mono ?_); rintro e w2 ⟨rfl, hb2⟩))
  go_ret2
  exact ⟨rfl, hb1.trans (hb2.mono hb1.size)⟩
set_option maxRecDepth 100000 in
set_option maxHeartbeats 2000000 in
theorem floorE_ok {s : ByteArray} {P : List Nat} (h : Str s P []) (at' : Int) (w : World) (hT : Tabs w) (hr : 0 ≤ at' ∧ at' ≤ P.length) :
    Calls Tryd.prog 26 #[.string s, .int .i64 at'] w (Pair2 (.int .i64 (flo (cls (cp P)) at' : Nat)) (.int .i64 0) w) := by
  have cC := check_any h at' w hT
  rw [err_ok P at' hr] at cC
  have cF := fun w => floor_any h at' w
  generalize (flo (cls (cp P)) at' : Nat) = f at cF ⊢
  go_enter Tryd.func26, Tryd.ntmps26
  go_wp2_with (first
    | (go_at_call 42; (with_reducible refine cC.mono ?_); rintro e w1 ⟨rfl, hb1⟩)
    | (go_at_call 43; (with_reducible refine (cF _).mono ?_); rintro e w2 ⟨rfl, hb2⟩))
  go_ret2
  exact ⟨rfl, hb1.trans (hb2.mono hb1.size)⟩
end Go.Proofs.YtigbmhddkcgjfaaDoor
