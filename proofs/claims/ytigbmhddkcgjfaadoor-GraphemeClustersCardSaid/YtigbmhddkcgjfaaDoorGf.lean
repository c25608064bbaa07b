/- The reference's floor and next on the boundaries, plainly. -/
import Derived.Test.YtigbmhddkcgjfaaDoorLb
namespace Go.Proofs.YtigbmhddkcgjfaaDoor
open Gc

theorem foldl_keep (at' : Int) : ∀ (xs : List Int) (o : Int), (∀ x ∈ xs, at' < x) → xs.foldl (fun o x => if x ≤ at' then x else o) o = o
  | [], _, _ => rfl
  | x :: xs, o, h => by
    rw [List.foldl_cons, if_neg (by have := h x (by simp); omega)]
    exact foldl_keep at' xs o (fun y hy => h y (by simp [hy]))
theorem foldl_floor (at' : Int) : ∀ (xs : List Int) (o : Int), xs.Pairwise (· < ·) → xs.foldl (fun o x => if x ≤ at' then x else o) o = ((xs.takeWhile fun x => decide (x ≤ at')).getLast?).getD o
  | [], _, _ => rfl
  | x :: xs, o, h => by
    rw [List.pairwise_cons] at h
    rw [List.foldl_cons]
    by_cases hx : x ≤ at'
    · rw [if_pos hx, foldl_floor at' xs x h.2, List.takeWhile_cons_of_pos (by simpa using hx), List.getLast?_cons]
      rfl
    · rw [if_neg hx, foldl_keep at' xs o (fun y hy => by have := h.1 y hy; omega), List.takeWhile_cons_of_neg (by simpa using hx)]
      rfl
theorem takeWhile_snd (l : List (Nat × Nat)) (at' : Int) : (l.map fun x => (x.2 : Int)).takeWhile (fun x => decide (x ≤ at')) = (l.takeWhile fun x => decide ((x.2 : Int) ≤ at')).map fun x => (x.2 : Int) := by
  induction l with
  | nil => rfl
  | cons x l ih =>
    rw [List.map_cons]
    by_cases hx : (x.2 : Int) ≤ at'
    · rw [List.takeWhile_cons_of_pos (by simpa using hx), List.takeWhile_cons_of_pos (by simpa using hx), ih, List.map_cons]
    · rw [List.takeWhile_cons_of_neg (by simpa using hx), List.takeWhile_cons_of_neg (by simpa using hx)]; rfl
theorem bl_up (cs : List Int) : (bl (cls cs)).Pairwise (· < ·) := by
  rw [bl_bnd, List.pairwise_map]
  exact (bnd_up cs).imp (fun h => by omega)
theorem floor_flo (cs : List Int) (at' : Int) : floorR (bl (cls cs)) at' = (flo (cls cs) at' : Nat) := by
  have hu := bl_up cs
  unfold floorR bl at *
  rw [List.pairwise_cons] at hu
  rw [List.foldl_cons]
  have e : (if (0 : Int) ≤ at' then (0 : Int) else 0) = 0 := by split <;> rfl
  rw [e, foldl_floor at' _ 0 hu.2, takeWhile_snd]
  unfold flo lastOf
  rw [List.getLast?_map]
  cases ((cls cs).takeWhile fun x => decide ((x.2 : Int) ≤ at')).getLast? <;> rfl
theorem next_nxt (cs : List Int) (at' : Int) (h0 : 0 ≤ at') (h1 : at' ≤ cs.length) : nextR (bl (cls cs)) at' = nxt (cls cs) at' := by
  have hlast : (bl (cls cs)).getLastD 0 = (cs.length : Int) := by
    rw [bl_bnd, List.getLastD_eq_getLast?, List.getLast?_map, bnd_last]; rfl
  have hf : (bl (cls cs)).find? (fun x => decide (at' < x)) = ((cls cs).find? fun x => decide (at' < (x.2 : Int))).map fun x => (x.2 : Int) := by
    unfold bl
    rw [List.find?_cons_of_neg (by simp; omega), List.find?_map]; rfl
  unfold nextR nxt
  rw [hf]
  cases hc : (cls cs).find? fun x => decide (at' < (x.2 : Int)) with
  | some x => rfl
  | none =>
    simp only [Option.map_none]
    rw [hlast]
    rw [List.find?_eq_none] at hc
    have h2 : (cs.length : Int) ≤ at' := by
      have hm : cs.length ∈ bnd cs := List.mem_of_getLast? (bnd_last cs)
      unfold bnd at hm
      rcases List.mem_cons.1 hm with h | h
      · omega
      · obtain ⟨y, hy, hyl⟩ := List.mem_map.1 h
        have := hc y hy
        simp at this
        omega
    omega
end Go.Proofs.YtigbmhddkcgjfaaDoor
