/- Layer 23: the example. -/
import Derived.Test.YtjhppkjngifibaaEO
import Derived.Test.YtjhppkjngifibaaEP
namespace Go.Proofs.Ytjhppkjngifibaa
open Go.RowKit Go.Lib
set_option linter.unusedVariables false

def exH : Hd := ⟨[(4, 1)], 0, 0, [], [⟨1, 4, 0, true⟩, ⟨2, 4, 1, true⟩, ⟨3, 4, 2, true⟩]⟩
set_option maxRecDepth 100000 in
set_option maxHeartbeats 4000000 in
theorem example_any (w : World) : Calls Try.prog 50 #[] w (HRet w.heap.size exH w) := by
  obtain ⟨b, hbb⟩ : ∃ b, w.heap.size = b := ⟨_, rfl⟩
  have X := ((ObjAt.new w #[.slice (some ⟨b + 1, 0, none⟩) 1 1, .int .i64 0, .int .i64 0, .slice none 0 0, .slice (some ⟨b + 1 + 1, 0, none⟩) 3 3] 28).alloc (.cells #[.int .i64 4, .int .i64 1] 61)).alloc (.cells #[.int .i64 1, .int .i64 4, .int .i64 0, .bool true, .int .i64 2, .int .i64 4, .int .i64 1, .bool true, .int .i64 3, .int .i64 4, .int .i64 2, .bool true] 74)
  have P1 := (ObjAt.new (w.alloc (.cells #[.slice (some ⟨b + 1, 0, none⟩) 1 1, .int .i64 0, .int .i64 0, .slice none 0 0, .slice (some ⟨b + 1 + 1, 0, none⟩) 3 3] 28)) #[.int .i64 4, .int .i64 1] 61).alloc (.cells #[.int .i64 1, .int .i64 4, .int .i64 0, .bool true, .int .i64 2, .int .i64 4, .int .i64 1, .bool true, .int .i64 3, .int .i64 4, .int .i64 2, .bool true] 74)
  have P2 := ObjAt.new ((w.alloc (.cells #[.slice (some ⟨b + 1, 0, none⟩) 1 1, .int .i64 0, .int .i64 0, .slice none 0 0, .slice (some ⟨b + 1 + 1, 0, none⟩) 3 3] 28)).alloc (.cells #[.int .i64 4, .int .i64 1] 61)) #[.int .i64 1, .int .i64 4, .int .i64 0, .bool true, .int .i64 2, .int .i64 4, .int .i64 1, .bool true, .int .i64 3, .int .i64 4, .int .i64 2, .bool true] 74
  rw [World.size_alloc] at P1 P2
  rw [World.size_alloc] at P2
  have HB := Lib.hid ((((Below.refl w.heap.size w).alloc (Nat.le_refl _) (.cells #[.slice (some ⟨b + 1, 0, none⟩) 1 1, .int .i64 0, .int .i64 0, .slice none 0 0, .slice (some ⟨b + 1 + 1, 0, none⟩) 3 3] 28)).alloc (by simp) (.cells #[.int .i64 4, .int .i64 1] 61)).alloc (by simp; omega) (.cells #[.int .i64 1, .int .i64 4, .int .i64 0, .bool true, .int .i64 2, .int .i64 4, .int .i64 1, .bool true, .int .i64 3, .int .i64 4, .int .i64 2, .bool true] 74))
  rw [hbb] at X P1 P2 HB ⊢
  have HBB := Lib.hid hbb
  have HO := Lib.hid (show HOwn (((w.alloc (.cells #[.slice (some ⟨b + 1, 0, none⟩) 1 1, .int .i64 0, .int .i64 0, .slice none 0 0, .slice (some ⟨b + 1 + 1, 0, none⟩) 3 3] 28)).alloc (.cells #[.int .i64 4, .int .i64 1] 61)).alloc (.cells #[.int .i64 1, .int .i64 4, .int .i64 0, .bool true, .int .i64 2, .int .i64 4, .int .i64 1, .bool true, .int .i64 3, .int .i64 4, .int .i64 2, .bool true] 74)) b (some ⟨b + 1, 0, none⟩) none (some ⟨b + 1 + 1, 0, none⟩) 1 0 3 exH from
    ⟨⟨rfl, .inr ⟨b + 1, 1, _, rfl, Nat.le_succ _, P1, by decide, by unfold maxLen; omega, rfl, rfl⟩⟩, World.ownsRow_nil _ _ _ _, ⟨rfl, .inr ⟨b + 1 + 1, 3, _, rfl, Nat.le_add_right b 2, P2, by decide, by unfold maxLen; omega, rfl, rfl⟩⟩⟩)
  have q0 := X.get (k := 0) (v := .slice (some ⟨b + 1, 0, none⟩) 1 1) rfl
  have q1 := X.get (k := 1) (v := .int .i64 0) rfl
  have q2 := X.get (k := 2) (v := .int .i64 0) rfl
  have q3 := X.get (k := 3) (v := .slice none 0 0) rfl
  have q4 := X.get (k := 4) (v := .slice (some ⟨b + 1 + 1, 0, none⟩) 3 3) rfl
  clear X P1 P2
  go_enter Try.func50, Try.ntmps50
  go_wp2
  refine bodyPost_ret (v := .agg #[.slice (some ⟨b + 1, 0, none⟩) 1 1, .int .i64 0, .int .i64 0, .slice none 0 0, .slice (some ⟨b + 1 + 1, 0, none⟩) 3 3]) (by simp [results, Try.results50, go_sem, q0, q1, q2, q3, q4]) rfl ⟨some ⟨b + 1, 0, none⟩, none, some ⟨b + 1 + 1, 0, none⟩, 1, 0, 3, rfl, HO.out, ?_⟩
  rw [HBB.out]; exact HB.out
theorem exH_ord : Ord exH := by
  refine ⟨by simp [exH], by simp [exH], ?_, ?_, fun _ => rfl⟩
  · unfold KSrt exH; simp
  · intro x hx
    unfold exH at hx
    simp only [List.mem_cons, List.not_mem_nil, or_false] at hx
    rcases hx with rfl | rfl | rfl <;> exact fun h => by cases h
theorem exH_mod : Mod exH := ⟨by decide, by decide, by decide⟩
end Go.Proofs.Ytjhppkjngifibaa
