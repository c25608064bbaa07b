import Derived.Test.YtigbmhddkcgjfaaDoorT1
import Derived.Great.BuildSlice
namespace Go.Proofs.YtigbmhddkcgjfaaDoor
open Go.RowKit
open Gc
def rowOf (l : List Span) : Array Value := (l.flatMap fun s => [.int .i64 s.1, .int .i64 s.2.1, .int .i64 s.2.2]).toArray

theorem built73 (a b c : Int) : Program.built Tryd.prog 73 [(0, .int .i64 a), (1, .int .i64 b), (2, .int .i64 c)] = some #[.int .i64 a, .int .i64 b, .int .i64 c] := by kernel_rfl

def mkSpan (t : TypeId) (pos : String) (x : Nat × Span) : Oper :=
  { dst := some x.1, op := .build t #[(0, .const (.int .i64 x.2.1)), (1, .const (.int .i64 x.2.2.1)), (2, .const (.int .i64 x.2.2.2))], type := t, pos := pos, after := #[], guard := none }

def putAll (a : Act) (l : List (Nat × Span)) : Act := l.foldl (fun a x => a.put (some x.1) (spanV x.2)) a

theorem wpList_spans {P : Program} {ops : Array Oper} {Q : Exit → Act → World → Prop} {rest : List Oper} {w : World} (t : TypeId) (pos : String)
    (hb : ∀ a b c : Int, Program.built P t [(0, .int .i64 a), (1, .int .i64 b), (2, .int .i64 c)] = some #[.int .i64 a, .int .i64 b, .int .i64 c])
    (l : List (Nat × Span)) (a : Act) (h : wpList P ops Q rest (putAll a l) w) : wpList P ops Q (l.map (mkSpan t pos) ++ rest) a w := by
  induction l generalizing a with
  | nil => exact h
  | cons x l ih =>
    obtain ⟨k, p, q, r⟩ := x
    have e := hb p q r
    refine wpList_build rfl t _ rfl (by simpa [Act.eval] using congrArg Option.isSome e) ?_
    have e' : (Program.built P t ((#[(0, Operand.const (.int .i64 p)), (1, .const (.int .i64 q)), (2, .const (.int .i64 r))] : Array (Nat × Operand)).map fun (i, x) => (i, a.eval x)).toList).getD #[] = #[.int .i64 p, .int .i64 q, .int .i64 r] := by
      simpa [Act.eval] using congrArg (·.getD #[]) e
    rw [e']
    exact ih _ h

theorem putAll_defers (a : Act) (l : List (Nat × Span)) : (putAll a l).defers = a.defers := by
  unfold putAll
  induction l generalizing a with
  | nil => rfl
  | cons x l ih => rw [List.foldl_cons, ih]; rfl
theorem putAll_size (a : Act) (l : List (Nat × Span)) : (putAll a l).tmps.size = a.tmps.size := by
  unfold putAll
  induction l generalizing a with
  | nil => rfl
  | cons x l ih => rw [List.foldl_cons, ih]; simp [Act.put]

/-- Behind the builds into the slots from i0 on, slot i0 + k holds span k. -/
theorem putAll_get (l : List Span) (i0 : Nat) (a : Act) (h : i0 + l.length ≤ a.tmps.size) (k : Nat) :
    (putAll a ((l.zipIdx i0).map fun x => (x.2, x.1))).tmps[k]? = if i0 ≤ k ∧ k < i0 + l.length then (l[k - i0]?).map spanV else a.tmps[k]? := by
  induction l generalizing i0 a with
  | nil =>
    rw [if_neg (by simp only [List.length_nil]; omega)]; rfl
  | cons s l ih =>
    have hl : (s :: l).length = l.length + 1 := rfl
    have e : putAll a (((s :: l).zipIdx i0).map fun x => (x.2, x.1)) = putAll (a.put (some i0) (spanV s)) ((l.zipIdx (i0 + 1)).map fun x => (x.2, x.1)) := rfl
    have hsz : (a.put (some i0) (spanV s)).tmps.size = a.tmps.size := by simp [Act.put]
    rw [e, ih (i0 + 1) _ (by rw [hsz]; omega)]
    by_cases h1 : k = i0
    · subst h1
      rw [if_neg (by omega), if_pos (by omega), Nat.sub_self]
      simp [Act.put, Array.getElem?_setIfInBounds]
      omega
    · by_cases h2 : i0 + 1 ≤ k ∧ k < i0 + 1 + l.length
      · rw [if_pos h2, if_pos (by omega)]
        have e2 : k - i0 = (k - (i0 + 1)) + 1 := by omega
        rw [e2, List.getElem?_cons_succ]
      · rw [if_neg h2, if_neg (by omega)]
        simp [Act.put, Ne.symm h1]
end Go.Proofs.YtigbmhddkcgjfaaDoor
