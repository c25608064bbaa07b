/- Layer 7: the document's examples, one by one. -/
import Derived.Test.YtjdjfokfilnnoaaHb
import Derived.Test.YtjdjfokfilnnoaaH5
namespace Go.Proofs.Ytjdjfokfilnnoaa
open Go.RowKit Go.Lib

theorem prat1 {W : World} {g : Nat} {a b : Int} {t : TypeId} (h : W.heap[g]? = some (.cells #[.int .i64 a, .int .i64 b] t (0, 0))) : PrAt W (some ⟨g, 0, none⟩) [(a, b)] := by
  refine .inr ⟨g, 0, rfl, (Array.getElem?_eq_some_iff.1 h).1, fun k hk => ?_⟩
  obtain rfl : k = 0 := by simpa using hk
  exact ⟨by simp [World.cell?, h], by simp [World.cell?, h]⟩
theorem prat2 {W : World} {g : Nat} {a b c d : Int} {t : TypeId} (h : W.heap[g]? = some (.cells #[.int .i64 a, .int .i64 b, .int .i64 c, .int .i64 d] t (0, 0))) : PrAt W (some ⟨g, 0, none⟩) [(a, b), (c, d)] := by
  refine .inr ⟨g, 0, rfl, (Array.getElem?_eq_some_iff.1 h).1, fun k hk => ?_⟩
  have hk2 : k < 2 := hk
  match k, hk2 with
  | 0, _ => exact ⟨by simp [World.cell?, h], by simp [World.cell?, h]⟩
  | 1, _ => exact ⟨by simp [World.cell?, h], by simp [World.cell?, h]⟩
theorem pairs_ex1 : pairs [(2, 1), (5, 24)] [(5, 20), (21, 3)] = [(2, 1, 0, true, false), (5, 24, 20, true, true), (21, 0, 3, false, true)] := by simp [pairs]
theorem pairs_ex2 : pairs [(2, 1)] [(5, 24)] = [(2, 1, 0, true, false), (5, 0, 24, false, true)] := by simp [pairs]
theorem merge_ex (A B : Option Addr) (w : World) (hA : PrAt w A [(2, 1), (5, 24)]) (hB : PrAt w B [(5, 20), (21, 3)]) : Calls Try.prog 40 #[.slice A 2 2, .slice B 2 2] w fun e w' =>
    (∃ v, e = .returned v ∧ w'.ownsRow w.heap.size 57 2 v 3 [.int .i64 2, .int .i64 1, .int .i64 5, .int .i64 20, .int .i64 21, .int .i64 3]) ∧ Below w.heap.size w w' :=
  (merge_any A B 2 2 _ _ (by decide) (by decide) (by decide) (by decide) w hA hB).mono fun e w' h => by
    unfold MergeRet at h
    rw [pairs_ex1] at h
    obtain ⟨v, he, ho, hb⟩ := h
    exact ⟨⟨v, he, ho⟩, hb⟩
theorem diff_ex (A B : Option Addr) (w : World) (hA : PrAt w A [(2, 1)]) (hB : PrAt w B [(5, 24)]) : Calls Try.prog 42 #[.slice A 1 1, .slice B 1 1] w fun e w' =>
    (∃ v, e = .returned v ∧ w'.ownsRow w.heap.size 64 5 v 2 [.int .i64 2, .int .i64 1, .int .i64 0, .bool true, .bool false, .int .i64 5, .int .i64 0, .int .i64 24, .bool false, .bool true]) ∧ Below w.heap.size w w' :=
  (diff_any A B 1 1 _ _ (by decide) (by decide) (by decide) (by decide) w hA hB).mono fun e w' h => by
    unfold DiffRet at h
    rw [pairs_ex2] at h
    obtain ⟨v, he, ho, hb⟩ := h
    exact ⟨⟨v, he, ho⟩, hb⟩
theorem key21 : ∃ r ∈ tabP, r.1 = 21 := ⟨tabP[11]'(by decide), List.getElem_mem _, by decide +kernel⟩
theorem key21_group : ∀ r ∈ tabP, r.1 = 21 → r.2.2.1 = 2 := by
  intro r hr h
  obtain ⟨k, hk, rfl⟩ := List.mem_iff_getElem.1 hr
  have hall : ∀ i : Fin 45, (tabP[i.val]'i.isLt).1 = 21 → (tabP[i.val]'i.isLt).2.2.1 = 2 := by decide +kernel
  exact hall ⟨k, hk⟩ h
theorem fits_ex (w : World) : Calls Try.prog 25 #[.int .i64 1, .int .i64 21] w fun e w' => e = .returned (.bool false) ∧ Below w.heap.size w w' :=
  (fits_yes 1 21 key21 w).mono fun e w' ⟨⟨r, hr, hk, he⟩, hb⟩ => ⟨by rw [he, key21_group r hr hk]; rfl, hb⟩
theorem elem_ex (w : World) : Calls Try.prog 50 #[.int .i64 1] w fun e w' => e = .returned (.bool true) ∧ w = w' := elem_any 1 w

set_option maxRecDepth 100000 in
set_option maxHeartbeats 2000000 in
theorem check_ex (g c : Nat) (w : World) (h0 : w.cell? ⟨g, 0, none⟩ = some (.int .i64 21)) (h1 : w.cell? ⟨g, 1, none⟩ = some (.int .i64 3)) :
    Calls Try.prog 27 #[.int .i64 1, .slice (some ⟨g, 0, none⟩) 1 c] w fun e w' => e = .returned (.int .i64 4) ∧ Below w.heap.size w w' := by
  have cF := fun w' => fits_ex w'
  go_enter Try.func27, Try.ntmps27
  go_wp2_with (go_at_call 50; refine (elem_ex _).mono ?_; rintro e w1 ⟨rfl, rfl⟩)
  refine wp_loop_rounds 1 ?_
  rw [rounds_succ]
  go_wp2_with (go_at_call 25; (with_reducible refine (cF _).mono ?_); rintro e w2 ⟨rfl, hb2⟩)
  go_ret
  exact ⟨rfl, ((Below.refl _ w).alloc (Nat.le_refl _) _).trans (hb2.mono (by simp))⟩
end Go.Proofs.Ytjdjfokfilnnoaa
