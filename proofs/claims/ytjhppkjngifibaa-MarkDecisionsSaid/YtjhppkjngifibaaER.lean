/- Layer 23: the decided examples, plainly. -/
import Derived.Test.YtjhppkjngifibaaEQ
namespace Go.Proofs.Ytjhppkjngifibaa
open Go.RowKit Go.Lib
set_option linter.unusedVariables false

def exA : Hd := ⟨[(4, 1)], 0, 0, [], [⟨1, 4, 0, true⟩, ⟨3, 4, 1, true⟩]⟩
def exB : Hd := ⟨[(4, 2)], 0, 0, [], []⟩
def exC : Hd := ⟨[], 3, 0, [⟨5, 0⟩], []⟩
theorem exA_eq : keptH (fun x => decide (x ∈ ([] : List Int))) (fun x => decide (x ∈ [(2 : Int)])) exH = exA := by decide
theorem exA_gone : goneH (fun x => decide (x ∈ ([] : List Int))) (fun x => decide (x ∈ [(2 : Int)])) exH = false := by decide
theorem exB_eq : keptH (fun x => decide (x ∈ [(2 : Int)])) (fun x => decide (x ∈ [(3 : Int)])) exH = exB := by decide
theorem exB_gone : goneH (fun x => decide (x ∈ [(2 : Int)])) (fun x => decide (x ∈ [(3 : Int)])) exH = false := by decide
theorem exC_gone : goneH (fun x => decide (x ∈ [(5 : Int)])) (fun x => decide (x ∈ ([] : List Int))) exC = true := by decide
theorem exC_ord : Ord exC := ⟨by simp [exC], by simp [exC], by unfold KSrt exC; simp, by simp [exC], fun h => by cases h⟩
theorem exC_mod : Mod exC := ⟨by decide, by decide, by decide⟩
theorem ns_one (w : World) (x : Int) : NsAt (w.alloc (.cells #[.int .i64 x] 3)) (some ⟨w.heap.size, 0, none⟩) [x] :=
  .inr ⟨w.heap.size, 0, rfl, by simp, fun k hk => by
    have : k = 0 := by simpa using hk
    subst this
    exact (ObjAt.new w #[.int .i64 x] 3).get (k := 0) (v := .int .i64 x) rfl⟩
theorem ns_none (w : World) : NsAt w none [] := .inl rfl
end Go.Proofs.Ytjhppkjngifibaa
