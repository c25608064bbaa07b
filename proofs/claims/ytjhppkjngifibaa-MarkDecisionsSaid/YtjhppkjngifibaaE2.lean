/- Layer 23: numbers in memory; comparing; always and never. -/
import Derived.Test.YtjhppkjngifibaaE1
namespace Go.Proofs.Ytjhppkjngifibaa
open Go.RowKit Go.Lib
set_option linter.unusedVariables false

abbrev encZ (x : Int) : Value := .int .i64 x
/-- Numbers in memory. -/
def NsAt (w : World) (A : Option Addr) (l : List Int) : Prop := l = [] ∨ ∃ g o, A = some ⟨g, o, none⟩ ∧ g < w.heap.size ∧ ∀ k (h : k < l.length), w.cell? ⟨g, o + k, none⟩ = some (.int .i64 l[k])
theorem NsAt.below {w w' : World} {A : Option Addr} {l : List Int} (h : NsAt w A l) {n : Nat} (hb : Below n w w') (hn : w.heap.size ≤ n) : NsAt w' A l := by
  rcases h with h | ⟨g, o, h1, h2, h3⟩
  · exact .inl h
  · exact .inr ⟨g, o, h1, Nat.lt_of_lt_of_le h2 hb.size, fun k hk => (hb.cell (p := ⟨g, o + k, none⟩) (Nat.lt_of_lt_of_le h2 hn)).trans (h3 k hk)⟩
theorem NsAt.pos {w : World} {A : Option Addr} {l : List Int} (h : NsAt w A l) (hp : 0 < l.length) : ∃ g o, A = some ⟨g, o, none⟩ ∧ g < w.heap.size ∧ ∀ k (h : k < l.length), w.cell? ⟨g, o + k, none⟩ = some (.int .i64 l[k]) := by
  rcases h with h | h
  · rw [h] at hp; exact absurd hp (Nat.lt_irrefl _)
  · exact h
theorem NsAt.take {w : World} {A : Option Addr} {l : List Int} (h : NsAt w A l) (m : Nat) : NsAt w A (l.take m) := by
  rcases h with h | ⟨g, o, h1, h2, h3⟩
  · left; rw [h]; exact List.take_nil
  · refine .inr ⟨g, o, h1, h2, fun k hk => ?_⟩
    rw [List.getElem_take]
    exact h3 k (by rw [List.length_take] at hk; omega)
theorem info3 : (Try.prog.info? 3).map (fun i => (i.zero, i.size, i.bytes)) = some (some (.int .i64 0), 1, 8) := by kernel_rfl
theorem encZ_one (L : List Int) : ∀ u ∈ L.map encZ, u.oneCell' = true := by
  intro u hu
  obtain ⟨x, _, rfl⟩ := List.mem_map.1 hu
  rfl
theorem NsAt.cells {w : World} {g o : Nat} {l : List Int} (h : NsAt w (some ⟨g, o, none⟩) l) : ∀ j u, (l.map encZ)[j]? = some u → w.cell? ⟨g, o + j, none⟩ = some u := by
  intro j u hj
  rcases h with h | ⟨g', o', hg, _, hc⟩
  · subst h; simp at hj
  · injection hg with hg; injection hg with h1 h2 _
    subst h1 h2
    have hlt : j < l.length := by have := (List.getElem?_eq_some_iff.1 hj).1; simpa using this
    rw [hc j hlt]
    rw [List.getElem?_map, List.getElem?_eq_getElem hlt] at hj
    exact hj
theorem NsAt.of_cells {w : World} {g o : Nat} {l : List Int} (hg : g < w.heap.size) (h : ∀ j u, (l.map encZ)[j]? = some u → w.cell? ⟨g, o + j, none⟩ = some u) : NsAt w (some ⟨g, o, none⟩) l :=
  .inr ⟨g, o, rfl, hg, fun k hk => h k _ (by rw [List.getElem?_map, List.getElem?_eq_getElem hk]; rfl)⟩
theorem NsAt.drop {w : World} {g o : Nat} {l : List Int} (h : NsAt w (some ⟨g, o, none⟩) l) (m : Nat) : NsAt w (some ⟨g, o + m, none⟩) (l.drop m) := by
  rcases h with h | ⟨g', o', h1, h2, h3⟩
  · left; rw [h]; exact List.drop_nil
  · injection h1 with h1; injection h1 with e1 e2 _
    subst e1 e2
    refine .inr ⟨g, _, rfl, h2, fun k hk => ?_⟩
    rw [List.getElem_drop]
    have := h3 (m + k) (by rw [List.length_drop] at hk; omega)
    rw [show o + m + k = o + (m + k) by omega]
    exact this
theorem row_ns {w : World} {base n : Nat} {v : Value} {l : List Int} (h : w.ownsRow base 3 1 v n (l.map encZ)) (hn : l.length = n) : ∃ A cb, v = .slice A n cb ∧ n ≤ cb ∧ cb ≤ maxLen ∧ NsAt w A l := by
  have h0 := h
  rcases h.2 with ⟨hv, hz⟩ | ⟨g, cap, cur, hv, hb, hg, hcap, hcm, _⟩
  · subst hz
    exact ⟨none, 0, hv, Nat.le_refl _, by decide, .inl (List.eq_nil_of_length_eq_zero hn)⟩
  · subst hv
    refine ⟨some ⟨g, 0, none⟩, cap, rfl, hcap, hcm, NsAt.of_cells (Array.getElem?_eq_some_iff.1 hg).1 fun j u hj => ?_⟩
    rw [Nat.zero_add]
    exact (h0.cellAt j (by have := (List.getElem?_eq_some_iff.1 hj).1; rw [List.length_map] at this; omega)).trans hj
theorem nan_any (x : Int) (w : World) : Calls Try.prog 104 #[.int .i64 x] w fun e w' => e = .returned (.bool false) ∧ w = w' := by
  go_enter Try.func104, Try.ntmps104
  go_wp2
  go_ret
  exact ⟨by simp, rfl⟩
def cmpI (x y : Int) : Int := if x < y then -1 else if y < x then 1 else 0
theorem cmpI_neg (x y : Int) : cmpI x y < 0 ↔ x < y := by unfold cmpI; split <;> (try split) <;> omega
theorem cmpI_zero (x y : Int) : cmpI x y = 0 ↔ x = y := by unfold cmpI; split <;> (try split) <;> omega
set_option maxRecDepth 100000 in
theorem cmp_any (x y : Int) (w : World) : Calls Try.prog 80 #[.int .i64 x, .int .i64 y] w fun e w' => e = .returned (.int .i64 (cmpI x y)) ∧ w = w' := by
  unfold cmpI
  by_cases h1 : x < y
  · rw [if_pos h1]
    go_enter Try.func80, Try.ntmps80
    go_wp2_with (go_at_call 104; refine (nan_any _ _).mono ?_; rintro e w' ⟨rfl, rfl⟩)
    go_ret
    exact ⟨rfl, rfl⟩
  · rw [if_neg h1]
    by_cases h2 : y < x
    · rw [if_pos h2]
      go_enter Try.func80, Try.ntmps80
      go_wp2_with (go_at_call 104; refine (nan_any _ _).mono ?_; rintro e w' ⟨rfl, rfl⟩)
      go_ret
      exact ⟨rfl, rfl⟩
    · rw [if_neg h2]
      go_enter Try.func80, Try.ntmps80
      go_wp2_with (go_at_call 104; refine (nan_any _ _).mono ?_; rintro e w' ⟨rfl, rfl⟩)
      go_ret
      exact ⟨rfl, rfl⟩
theorem always_any (x : Int) (w : World) : Calls Try.prog 61 #[.int .i64 x] w fun e w' => e = .returned (.bool true) ∧ w = w' := by
  go_enter Try.func61, Try.ntmps61
  go_wp2
  go_ret
  exact ⟨by simp, rfl⟩
theorem never_any (x : Int) (w : World) : Calls Try.prog 60 #[.int .i64 x] w fun e w' => e = .returned (.bool false) ∧ w = w' := by
  go_enter Try.func60, Try.ntmps60
  go_wp2
  go_ret
  exact ⟨by simp, rfl⟩
end Go.Proofs.Ytjhppkjngifibaa
