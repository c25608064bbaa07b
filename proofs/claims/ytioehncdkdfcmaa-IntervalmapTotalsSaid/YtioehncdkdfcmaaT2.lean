/- Layer 5: the values seen, in a map; how much they cover. -/
import Derived.Test.YtioehncdkdfcmaaJ6
import Derived.Maps.Own
import Derived.Maps.OwnSet
import Derived.Maps.Views
namespace Go.Proofs.Ytioehncdkdfcmaa
open Go.RowKit Go.Lib Im Go.Maps

/-- A map from numbers to bools that reads as f. -/
def SeenAt (w : World) (b n : Nat) (f : Int → Bool) : Prop := ∃ D : DataW Unit, w.ownsMap Try.prog 3 (plainElem Try.prog 4) b n D ∧ ∀ a, I64 a → D.atKey (.int .i64 a) (.lit (.bool false)) = .lit (.bool (f a))
theorem key_i {x : Int} (h : I64 x) : keyOf Try.prog 3 (.int .i64 x) = some (.int .i64 x) := keyOf_int_mk Try.underlying3 (i64_wf h)
theorem seen_new (w : World) : SeenAt (w.alloc (.map #[] 0)) w.heap.size 0 (fun _ => false) := ⟨.map [], World.ownsMap_made w _ _ _, fun a _ => WideAt.atKey_none _ (by simp)⟩
set_option maxRecDepth 100000 in
theorem bool_inv {v : Value} {z : DataW Unit × List MemPlace} (h : plainElem Try.prog 4 v = some z) : ∃ x, v = .bool x ∧ z = (.lit (.bool x), []) := by
  unfold plainElem at h
  rw [Try.underlying4] at h
  cases v <;> simp at h
  exact ⟨_, rfl, h.symm⟩
theorem seen_look {w : World} {b n : Nat} {f : Int → Bool} (h : SeenAt w b n f) {a : Int} (ha : I64 a) : (Instr.lookup 55 (.map (some b)) (.int .i64 a) false).run Try.prog w = .ok (.bool (f a)) w := by
  obtain ⟨D, hD, hf⟩ := h
  obtain ⟨v, ps, hr, hv⟩ := hD.lookup (int_keyed Try.underlying3) Try.underlying55 (Try.zeroValue4 w) (plainElem_bool Try.underlying4 false) (key_i ha)
  rw [hf a ha] at hv
  obtain ⟨x, rfl, hx⟩ := bool_inv hv
  simp only [Prod.mk.injEq, DataW.lit.injEq, Lit.bool.injEq] at hx
  rw [hx.1]; exact hr
theorem seen_put {w : World} {b n : Nat} {f : Int → Bool} {D : DataW Unit} (hf : ∀ a, I64 a → D.atKey (.int .i64 a) (.lit (.bool false)) = .lit (.bool (f a))) (hM : IsMap D) {a : Int} (ha : I64 a) (h : w.ownsMap Try.prog 3 (plainElem Try.prog 4) b n (D.put (.int .i64 a) (.lit (.bool true)))) :
    SeenAt w b n (fun z => if z = a then true else f z) := by
  refine ⟨_, h, fun z hz => ?_⟩
  by_cases e : z = a
  · subst e
    rw [atKey_put_same hM ((int_keyed Try.underlying3).key (key_i ha))]
    simp
  · rw [atKey_put_other (by simpa using e), hf z hz]
    simp [e]
theorem seen_below {w w' : World} {b n : Nat} {f : Int → Bool} (h : SeenAt w b n f) (hb : Below w.heap.size w w') : SeenAt w' b n f := by
  obtain ⟨D, hD, hf⟩ := h
  exact ⟨D, hD.kept (grown_below hb rfl) (by simp), hf⟩
theorem seen_congr {w : World} {b n : Nat} {f f' : Int → Bool} (h : SeenAt w b n f) (e : ∀ z, f z = f' z) : SeenAt w b n f' := by
  obtain ⟨D, hD, hf⟩ := h
  exact ⟨D, hD, fun a ha => by rw [hf a ha, e]⟩
theorem seen_mono {w : World} {b n n' : Nat} {f : Int → Bool} (h : SeenAt w b n f) (e : n ≤ n') : SeenAt w b n' f := by
  obtain ⟨D, hD, hf⟩ := h
  exact ⟨D, hD.mono e, hf⟩
/-- How many of S are among T. -/
def cov (S T : List Int) : Nat := S.countP fun x => decide (x ∈ T)
theorem cov_nil (S : List Int) : cov S [] = 0 := by
  unfold cov
  rw [List.countP_eq_zero]
  intro x _
  simp
theorem cov_old {S T : List Int} {a : Int} (h : a ∈ T) : cov S (T ++ [a]) = cov S T := by
  unfold cov
  apply List.countP_congr
  intro x _
  simp only [decide_eq_true_eq, List.mem_append, List.mem_singleton]
  constructor
  · rintro (h1 | rfl)
    · exact h1
    · exact h
  · exact .inl
theorem cov_new {S T : List Int} {a : Int} (h : a ∉ T) : cov S (T ++ [a]) = cov S T + S.count a := by
  unfold cov
  induction S with
  | nil => rfl
  | cons x S ih =>
    rw [List.countP_cons, List.countP_cons, List.count_cons, ih]
    by_cases hx : x = a
    · subst hx
      simp [h]
      omega
    · by_cases hT : x ∈ T
      · simp [hT, hx]
        omega
      · simp [hT, hx]
theorem cov_all (S : List Int) : cov S S = S.length := by
  unfold cov
  rw [List.countP_eq_length]
  intro x hx
  simpa using hx
theorem cov_le (S T : List Int) : cov S T ≤ S.length := List.countP_le_length
end Go.Proofs.Ytioehncdkdfcmaa
