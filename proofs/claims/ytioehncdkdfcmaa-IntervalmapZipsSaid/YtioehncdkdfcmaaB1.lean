/- Layer 5: slices.Replace: copies, clears, and the cells behind them. -/
import Derived.Test.YtioehncdkdfcmaaA7
import Derived.Shelf.Spec.SlicesInsert
import Derived.Lib.AppendZerosOnto
import Derived.Laws.CopyOwn
import Derived.Deep.RegionLaw
import Derived.Lib.Overlaps
namespace Go.Proofs.Ytioehncdkdfcmaa
open Go.RowKit Go.Lib

theorem rowR_append (a b : List Rn) : rowR (a ++ b) = rowR a ++ rowR b := by simp [rowR]
theorem rowR_take (l : List Rn) (i : Nat) : (rowR l).take (i * 3) = rowR (l.take i) := by
  rcases Nat.lt_or_ge l.length i with h | h
  · rw [List.take_of_length_le (by rw [rowR_len]; omega), List.take_of_length_le (by omega)]
  · have e : rowR l = rowR (l.take i) ++ rowR (l.drop i) := by rw [← rowR_append, List.take_append_drop]
    rw [e, List.take_left' (by rw [rowR_len, List.length_take]; omega)]
theorem rowR_drop (l : List Rn) (i : Nat) : (rowR l).drop (i * 3) = rowR (l.drop i) := by
  rcases Nat.lt_or_ge l.length i with h | h
  · rw [List.drop_eq_nil_of_le (by rw [rowR_len]; omega), List.drop_eq_nil_of_le (by omega)]; rfl
  · have e : rowR l = rowR (l.take i) ++ rowR (l.drop i) := by rw [← rowR_append, List.take_append_drop]
    rw [e, List.drop_left' (by rw [rowR_len, List.length_take]; omega)]
theorem run_copy3 (w : World) (ty : TypeId) (g o dLen dCap : Nat) (a : Addr) (sLen sCap m : Nat) (cur : List Value) (t : TypeId) (cs : List Value)
    (hg : w.heap[g]? = some (.cells cur.toArray t (0, 0))) (hm : Nat.min sLen dLen = m) (hn : cs.length = m * 3)
    (hsrc : ∀ j v, cs[j]? = some v → w.cell? (a.add j) = some v) (hfit : o + cs.length ≤ cur.length) (h1 : ∀ v ∈ cs, v.oneCell' = true) :
    (Builtin.copy_ #[31, 31] ty #[.slice (some ⟨g, o, none⟩) dLen dCap, .slice (some a) sLen sCap]).run Try.prog w =
      .ok (goInt m) (w.setRow g (cur.take o ++ cs ++ cur.drop (o + cs.length)).toArray) := by
  have hl := run_loadCells_list (P := Try.prog) w a cs hsrc
  have hst := run_storeCells_at Try.prog g o t cs 0 cur.toArray w hg (by simpa using hfit) h1
  obtain ⟨i0, hi, hz0, hz1, hz2⟩ := info_parts info34
  rw [hn] at hl hst
  simp [Builtin.copy_, run_underlying Try.underlying31, Builtin.lenOf, Builtin.firstCells, sizeOf, typeInfo, hi, hz1, hm, hl, hst, hn]
/-- The row behind both copies: what stands behind first. -/
theorem ins_cells {α : Type} (cur L M R : List α) (h1 : cur.take L.length = L) (hl : L.length + M.length + R.length ≤ cur.length) :
    (let c1 := cur.take (L.length + M.length) ++ R ++ cur.drop (L.length + M.length + R.length); c1.take L.length ++ M ++ c1.drop (L.length + M.length)) = L ++ M ++ R ++ cur.drop (L.length + M.length + R.length) := by
  dsimp only
  have hA : (cur.take (L.length + M.length)).length = L.length + M.length := by rw [List.length_take]; omega
  have h2 : (cur.take (L.length + M.length) ++ R ++ cur.drop (L.length + M.length + R.length)).take L.length = L := by
    rw [List.append_assoc, List.take_append_of_le_length (by omega), List.take_take, Nat.min_eq_left (by omega), h1]
  have h3 : (cur.take (L.length + M.length) ++ R ++ cur.drop (L.length + M.length + R.length)).drop (L.length + M.length) = R ++ cur.drop (L.length + M.length + R.length) := by
    rw [List.append_assoc, List.drop_append_of_le_length (by omega), List.drop_eq_nil_of_le (by omega), List.nil_append]
  rw [h2, h3]
  simp [List.append_assoc]
/-- The row behind both copies: what is new first. -/
theorem grow_cells {α : Type} (cur L M R : List α) (h : cur.take L.length = L) :
    (let c1 := cur.take L.length ++ M ++ cur.drop (L.length + M.length); c1.take (L.length + M.length) ++ R ++ c1.drop (L.length + M.length + R.length)) = L ++ M ++ R ++ cur.drop (L.length + M.length + R.length) := by
  dsimp only
  rw [h]
  have hA : (L ++ M).length = L.length + M.length := List.length_append
  rw [List.take_left' hA, ← hA, List.drop_append, List.drop_drop, List.drop_eq_nil_of_le (by omega : (L ++ M).length ≤ (L ++ M).length + R.length), List.nil_append]
  congr 2
  omega
theorem own_row3 {g tot cap base : Nat} {L : List Rn} {rest : List Value} {W : World} (hL : L.length = tot) (hcap : tot ≤ cap) (hcm : cap ≤ maxLen) (hb : base ≤ g) (hsz : tot * 3 + rest.length = cap * 3)
    (hg : W.heap[g]? = some (.cells (rowR L ++ rest).toArray 34 (0, 0))) : W.ownsRow base 34 3 (.slice (some ⟨g, 0, none⟩) tot cap) tot (rowR L) := by
  have hlen : (rowR L).length = tot * 3 := by rw [rowR_len, hL]
  refine ⟨hlen, .inr ⟨g, cap, _, rfl, hb, hg, hcap, hcm, ?_, ?_⟩⟩
  · simp only [List.size_toArray, List.length_append, hlen]; omega
  · show ((rowR L) ++ rest).take (tot * 3) = _
    exact List.take_left' hlen
/-- All blocks but one keep. -/
def Kp (g : Nat) (w w' : World) : Prop := w.heap.size ≤ w'.heap.size ∧ ∀ k, k < w.heap.size → k ≠ g → w'.heap[k]? = w.heap[k]?
theorem Kp.refl (g : Nat) (w : World) : Kp g w w := ⟨Nat.le_refl _, fun _ _ _ => rfl⟩
theorem Kp.trans {g : Nat} {w w' w'' : World} (h : Kp g w w') (h' : Kp g w' w'') : Kp g w w'' := ⟨Nat.le_trans h.1 h'.1, fun k hk hn => (h'.2 k (Nat.lt_of_lt_of_le hk h.1) hn).trans (h.2 k hk hn)⟩
theorem kp_below {g : Nat} {w w' : World} (h : Below w.heap.size w w') : Kp g w w' := ⟨h.size, fun k hk _ => h.block k hk⟩
theorem kp_heap {g : Nat} {w w' w'' : World} (h : Kp g w w') (e : w''.heap = w'.heap) : Kp g w w'' := ⟨by rw [e]; exact h.1, fun k hk hn => by rw [e]; exact h.2 k hk hn⟩
theorem kp_set {g : Nat} {w w' : World} (h : Kp g w w') (cs : Array Value) : Kp g w (w'.setRow g cs) := ⟨by rw [setRow_size]; exact h.1, fun k hk hn => (setRow_other w' g k cs hn).trans (h.2 k hk hn)⟩
theorem kp_grown {g : Nat} {w w' w'' : World} {row : Option Nat} (h : Kp g w w') (hg : w'.grownBy w'' row) (hr : ∀ k, row = some k → k = g) : Kp g w w'' :=
  ⟨Nat.le_trans h.1 hg.size, fun k hk hn => (hg.block k (Nat.lt_of_lt_of_le hk h.1) (fun e => hn (hr k e.symm))).trans (h.2 k hk hn)⟩
/-- What is handed back lies where it lay, or in a new block. -/
def Whr (g : Nat) (w : World) (e : Ending) : Prop := ∀ a n c, e = .returned (.slice (some a) n c) → a.block = g ∨ w.heap.size ≤ a.block
theorem whr_at {g : Nat} {w : World} {a : Addr} {n c : Nat} (h : a.block = g ∨ w.heap.size ≤ a.block) : Whr g w (.returned (.slice (some a) n c)) := by
  intro a' n' c' e
  injection e with e
  injection e with e _ _
  injection e with e
  rw [← e]; exact h
theorem whr_none {g : Nat} {w : World} {n c : Nat} : Whr g w (.returned (.slice none n c)) := by
  intro a' n' c' e
  injection e with e
  injection e with e _ _
  cases e
theorem whr_own {g : Nat} {w : World} {A B : Option Addr} {n c n' c' : Nat} (hA : ∀ k, (Value.slice A n c).ownBlock = some k → k = g) (h : (Value.slice B n' c').ownBlock = (Value.slice A n c).ownBlock ∨ (Value.slice B n' c').ownBlock = some w.heap.size) : Whr g w (.returned (.slice B n' c')) := by
  cases B with
  | none => exact whr_none
  | some a =>
    refine whr_at ?_
    rcases h with h | h
    · exact .inl (hA _ h.symm)
    · injection h with h
      exact .inr (Nat.le_of_eq h.symm)
/-- Runs of one's own, handed back; all but one block keep. -/
def OwnX (base g : Nat) (L : List Rn) (w : World) (e : Ending) (w' : World) : Prop := OwnR base L w e w' ∧ Kp g w w' ∧ Whr g w e
/-- What a clearing from o on leaves. -/
def Clr (g o : Nat) (cur : List Value) (w w' : World) : Prop := (∃ cur' : List Value, w'.heap[g]? = some (.cells cur'.toArray 34 (0, 0)) ∧ cur'.length = cur.length ∧ cur'.take o = cur.take o) ∧ (∀ base w0, base ≤ g → Below base w0 w → Below base w0 w') ∧ ∀ w0, Kp g w0 w → Kp g w0 w'
theorem run_clear3 (w : World) (g o k c : Nat) (A : Addr) (cur : List Value) (hA : k = 0 ∨ A = ⟨g, o, none⟩) (hg : w.heap[g]? = some (.cells cur.toArray 34 (0, 0))) (hfit : o + k * 3 ≤ cur.length) :
    ∃ w', (∀ ty, (Builtin.clear_ #[31] ty #[.slice (some A) k c]).run Try.prog w = .ok (.tuple #[]) w') ∧ Clr g o cur w w' := by
  by_cases hk : k = 0
  · subst hk
    refine ⟨w, fun ty => ?_, ⟨cur, hg, rfl, rfl⟩, fun _ _ _ h => h, fun _ h => h⟩
    simp [Builtin.clear_, run_underlying Try.underlying31]
  · obtain rfl := hA.resolve_left hk
    have hz := Try.zeroValue34 w
    obtain ⟨Z, hZ⟩ : ∃ Z, Z = (Builtin.zeroCells (Value.agg #[.int .i64 0, .int .i64 0, .int .i64 0]).cells k).toList := ⟨_, rfl⟩
    have hZl : Z.length = k * 3 := by rw [hZ]; simp [Builtin.zeroCells, Value.cells]
    have hZ1 : ∀ u ∈ Z, u.oneCell' = true := by
      intro u hu
      rw [hZ] at hu
      simp only [Builtin.zeroCells, Value.cells, Array.toList_map, List.mem_map] at hu
      obtain ⟨i, _, rfl⟩ := hu
      have h3 : i % 3 = 0 ∨ i % 3 = 1 ∨ i % 3 = 2 := by omega
      rcases h3 with h | h | h <;> simp [h, Value.oneCell']
    have e1 := run_storeCells_at Try.prog g o 34 Z 0 cur.toArray w hg (by rw [hZl]; simpa using hfit) hZ1
    refine ⟨w.setRow g (cur.take o ++ Z ++ cur.drop (o + k * 3)).toArray, fun ty => ?_, ⟨_, setRow_heap w g _ _ 34 _ hg, ?_, ?_⟩, fun base w0 hb h => below_setRow h hb _, fun w0 h => kp_set h _⟩
    · obtain ⟨k', rfl⟩ : ∃ k', k = k' + 1 := ⟨k - 1, by omega⟩
      rw [hZl] at e1
      simp [Builtin.clear_, run_underlying Try.underlying31, hz, ← hZ, e1]
    · simp only [List.length_append, List.length_take, List.length_drop, hZl]; omega
    · rw [List.append_assoc, List.take_append_of_le_length (by rw [List.length_take]; omega), List.take_take, Nat.min_self]
end Go.Proofs.Ytioehncdkdfcmaa
