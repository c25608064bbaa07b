import Derived.Test.YtigbmhddkcgjfaaDoorT6
namespace Go.Proofs.YtigbmhddkcgjfaaDoor
open Go.RowKit
open Gc

theorem rowOf_get (l : List Span) (k : Nat) (h : k < l.length) (j : Nat) (hj : j < 3) : (rowOf l)[k * 3 + j]? = [Value.int .i64 l[k].1, .int .i64 l[k].2.1, .int .i64 l[k].2.2][j]? := by
  have e : rowOf l = ((l.map spanV).flatMap fun v => v.cells.toList).toArray := by
    unfold rowOf
    rw [List.flatMap_map]; rfl
  rw [e, List.getElem?_toArray, Great.flat_get (s := 3) (by decide) (l.map spanV) (fun v hv => by obtain ⟨s, _, rfl⟩ := List.mem_map.1 hv; rfl)]
  have e1 : (k * 3 + j) / 3 = k := by omega
  have e2 : (k * 3 + j) % 3 = j := by omega
  rw [e1, e2, List.getElem?_map, List.getElem?_eq_getElem h]
  simp only [Option.map_some, Option.bind_some]
  obtain ⟨a, b, c⟩ := l[k]
  match j, hj with
  | 0, _ => rfl
  | 1, _ => rfl
  | 2, _ => rfl

theorem row_alloc (w : World) (l : List Span) (t : TypeId) : Row (w.alloc (.cells (rowOf l) t)) w.heap.size l := by
  refine ⟨by simp, fun k h => ?_⟩
  have h0 := rowOf_get l k h 0 (by decide)
  have h1 := rowOf_get l k h 1 (by decide)
  have h2 := rowOf_get l k h 2 (by decide)
  simp only [Nat.add_zero, List.getElem?_cons_zero, List.getElem?_cons_succ] at h0 h1 h2
  refine ⟨?_, ?_, ?_⟩
  · simp [h0]
  · simp [h1]
  · simp [h2]

theorem Row.below {n : Nat} {w w' : World} {g : Nat} {l : List Span} (h : Row w g l) (hb : Below n w w') (hg : g < n) : Row w' g l :=
  ⟨Nat.lt_of_lt_of_le h.1 hb.size, fun k hk => ⟨(hb.cell (p := ⟨g, k * 3, none⟩) hg).trans (h.2 k hk).1, (hb.cell (p := ⟨g, k * 3 + 1, none⟩) hg).trans (h.2 k hk).2.1, (hb.cell (p := ⟨g, k * 3 + 2, none⟩) hg).trans (h.2 k hk).2.2⟩⟩

theorem refClass_plain (p : Int) : (if 44032 ≤ p ∧ p ≤ 55203 then hangul p else if within tabM p ≠ 0 then within tabM p else within tabL p) = classOf p := by
  unfold classOf
  rw [within_ref]
end Go.Proofs.YtigbmhddkcgjfaaDoor
