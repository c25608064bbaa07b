/- Layer 6: the table of pairs (48). -/
import Derived.Test.YtknbglcmjggkjaaRows
import Derived.Test.YtknbglcmjggkjaaLP
import Derived.WalkKit
import Derived.WalkSpells
import Derived.IntWalk
import Derived.Lib.Hide
import Derived.Deep.QuietTactic
import Derived.Deep.RegionHeld3
import Derived.BigQuiet
import Derived.Laws.Tables
import Derived.Laws.Rows
import Derived.Deep.WholeRow
import Derived.Deep.DeepCutAuto
import Derived.Deep.OwnRows
import Derived.Great.Walk
namespace Go.Proofs.Ytknbglcmjggkjaa
open Go.RowKit Go.Lib Co

/-- The rows of the literal: index, first, second. -/
def rowsP : List (Nat × Nat × Nat) := [(192, 65, 768), (193, 65, 769), (194, 65, 770), (195, 65, 771), (196, 65, 776), (197, 65, 778), (199, 67, 807), (200, 69, 768), (201, 69, 769), (202, 69, 770), (203, 69, 776), (204, 73, 768), (205, 73, 769), (206, 73, 770), (207, 73, 776), (209, 78, 771), (210, 79, 768), (211, 79, 769), (212, 79, 770), (213, 79, 771), (214, 79, 776), (216, 79, 824), (217, 85, 768), (218, 85, 769), (219, 85, 770), (220, 85, 776), (221, 89, 769), (255, 121, 776), (198, 65, 69), (230, 97, 101), (223, 115, 115)]
def prC (a b : Nat) : List Value := [.int .i64 (a : Nat), .int .i64 (b : Nat)]
def prV (x : Nat × Nat × Nat) : Value := .agg (prC x.2.1 x.2.2).toArray
/-- The table as the literal lays it: from 192 on. -/
def base64 : List (Nat × Nat) := [(65, 768), (65, 769), (65, 770), (65, 771), (65, 776), (65, 778), (65, 69), (67, 807), (69, 768), (69, 769), (69, 770), (69, 776), (73, 768), (73, 769), (73, 770), (73, 776), (0, 0), (78, 771), (79, 768), (79, 769), (79, 770), (79, 771), (79, 776), (0, 0), (79, 824), (85, 768), (85, 769), (85, 770), (85, 776), (89, 769), (0, 0), (115, 115), (0, 0), (0, 0), (0, 0), (0, 0), (0, 0), (0, 0), (97, 101), (0, 0), (0, 0), (0, 0), (0, 0), (0, 0), (0, 0), (0, 0), (0, 0), (0, 0), (0, 0), (0, 0), (0, 0), (0, 0), (0, 0), (0, 0), (0, 0), (0, 0), (0, 0), (0, 0), (0, 0), (0, 0), (0, 0), (0, 0), (0, 0), (121, 776)]
def baseP : List (Nat × Nat) := List.replicate 192 (0, 0) ++ base64
def cells0 : Array Value := (baseP.flatMap fun p => prC p.1 p.2).toArray
theorem built89 (a b : Int) : Program.built Try.prog 89 [(0, .int .i64 a), (1, .int .i64 b)] = some #[.int .i64 a, .int .i64 b] := by kernel_rfl
def mkPr (pos : String) (x : Nat × (Nat × Nat × Nat)) : Oper :=
  { dst := some x.1, op := .build 89 #[(0, .const (.int .i64 (x.2.2.1 : Nat))), (1, .const (.int .i64 (x.2.2.2 : Nat)))], type := 89, pos := pos, after := #[], guard := none }
def putAll (a : Act) (l : List (Nat × (Nat × Nat × Nat))) : Act := l.foldl (fun a x => a.put (some x.1) (prV x.2)) a
theorem wpList_rows {ops : Array Oper} {Q : Exit → Act → World → Prop} {rest : List Oper} {w : World} (pos : String)
    (l : List (Nat × (Nat × Nat × Nat))) (a : Act) (h : wpList Try.prog ops Q rest (putAll a l) w) : wpList Try.prog ops Q (l.map (mkPr pos) ++ rest) a w := by
  induction l generalizing a with
  | nil => exact h
  | cons x l ih =>
    obtain ⟨i, c, p, q⟩ := x
    have e := built89 (p : Nat) (q : Nat)
    refine wpList_build rfl 89 _ rfl (by simpa [Act.eval] using congrArg Option.isSome e) ?_
    have e' : (Program.built Try.prog 89 ((#[(0, Operand.const (.int .i64 (p : Nat))), (1, .const (.int .i64 (q : Nat)))] : Array (Nat × Operand)).map fun (i, x) => (i, a.eval x)).toList).getD #[] = (prC p q).toArray := by
      simpa [Act.eval, prC] using congrArg (·.getD #[]) e
    rw [e']
    exact ih _ h
theorem putAll_defers (a : Act) (l : List (Nat × (Nat × Nat × Nat))) : (putAll a l).defers = a.defers := by
  unfold putAll
  induction l generalizing a with
  | nil => rfl
  | cons x l ih => rw [List.foldl_cons, ih]; rfl
theorem putAll_size (a : Act) (l : List (Nat × (Nat × Nat × Nat))) : (putAll a l).tmps.size = a.tmps.size := by
  unfold putAll
  induction l generalizing a with
  | nil => rfl
  | cons x l ih => rw [List.foldl_cons, ih]; simp [Act.put]
noncomputable def opsT : List Oper := match Try.f48.body with
  | some (.seq _ (.seq (.region _ o _) _)) => o.toList
  | _ => []
def slotsT : List (Nat × (Nat × Nat × Nat)) := (rowsP.zipIdx 4).map fun x => (x.2, x.1)
noncomputable def opAt (k : Nat) : Oper := (opsT.drop k).headD { dst := none, op := .assign (.const undef), type := 0, pos := "", after := #[], guard := none }
set_option maxRecDepth 1000000 in
theorem opsT_eq : opsT = slotsT.map (mkPr "element.go:136") ++ [opAt 31, opAt 32, opAt 33] := by kernel_rfl
noncomputable def partsT : Array (Nat × Operand) := match (opAt 31).op with
  | .build _ p => p
  | _ => #[]
set_option maxRecDepth 1000000 in
theorem op31 : (opAt 31).op = .build 90 partsT := by kernel_rfl
theorem g31 : (opAt 31).guard = none := by kernel_rfl
theorem d31 : (opAt 31).dst = some 35 := by kernel_rfl
theorem op32 : (opAt 32).op = .alloc 90 := by kernel_rfl
theorem g32 : (opAt 32).guard = none := by kernel_rfl
theorem d32 : (opAt 32).dst = some 1 := by kernel_rfl
theorem op33 : (opAt 33).op = .store 90 (.tmp 1) (.tmp 35) := by kernel_rfl
theorem g33 : (opAt 33).guard = none := by kernel_rfl
theorem d33 : (opAt 33).dst = none := by kernel_rfl
set_option maxRecDepth 1000000 in
theorem partsT_eq : partsT.toList = (rowsP.zipIdx 4).map fun x => (x.1.1, Operand.tmp x.2) := by kernel_rfl
set_option maxRecDepth 1000000 in
theorem builtT : Program.built Try.prog 90 (rowsP.map fun x => (x.1, prV x)) = some cells0 := by kernel_rfl
set_option maxRecDepth 1000000 in
theorem sizeT : (Try.prog.info? 90).map (·.size) = some 512 := by kernel_rfl
set_option maxRecDepth 1000000 in
theorem cells0_size : cells0.size = 512 := by kernel_rfl
set_option maxRecDepth 1000000 in
theorem cells0_one : cells0.all (·.oneCell') = true := by kernel_rfl
end Go.Proofs.Ytknbglcmjggkjaa
