/- Layer 5: runAt, At. -/
import Derived.Test.YtioehncdkdfcmaaA8
import Derived.Test.YtioehncdkdfcmaaA3
namespace Go.Proofs.Ytioehncdkdfcmaa
open Go.RowKit Go.Lib

theorem ret_int' {a b : Int} (h : a = b) : Ending.returned (.int .i64 a) = .returned (.int .i64 b) := by rw [h]
/-- i is the run that has p, or their number. -/
def AtR (R : List Rn) (p : Int) (i : Nat) : Prop := i ≤ R.length ∧ (∀ k (h : k < R.length), k < i → R[k].2.1 ≤ p) ∧ (∀ k (h : k < R.length), i ≤ k → p < R[k].2.1)
theorem at_found {R : List Rn} {p : Int} {i : Nat} (hs : SortT R) (h : PartT R p i) (hf : ∃ h : i < R.length, R[i].2.1 = p) : AtR R p (i + 1) := by
  obtain ⟨h1, h2, h3⟩ := h
  obtain ⟨hi, he⟩ := hf
  refine ⟨by omega, fun k hk hlt => ?_, fun k hk hle => ?_⟩
  · have := hs.le k i hk hi (by omega); omega
  · have := hs i k hi hk (by omega); omega
theorem at_lost {R : List Rn} {p : Int} {i : Nat} (hs : SortT R) (h : PartT R p i) (hf : ¬ ∃ h : i < R.length, R[i].2.1 = p) : AtR R p i := by
  obtain ⟨h1, h2, h3⟩ := h
  refine ⟨h1, fun k hk hlt => Int.le_of_lt (h2 k hk hlt), fun k hk hle => ?_⟩
  have a1 := h3 k hk hle
  by_cases hki : k = i
  · subst hki
    have : R[k].2.1 ≠ p := fun e => hf ⟨hk, e⟩
    omega
  · have hi : i < R.length := by omega
    have a2 := h3 i hi (Nat.le_refl _)
    have := hs i k hi hk (by omega)
    omega
set_option maxRecDepth 100000 in
set_option maxHeartbeats 4000000 in
theorem runAt_any (b : Nat) (R : List Rn) (p : Int) (w : World) (h : MpAt w b R) (hs : SortT R) (hl : R.length ≤ 2000000) : Calls Try.prog 40 #[.pointer (some ⟨b, 0, none⟩), .int .i64 p] w fun e w' => ∃ i : Nat, AtR R p i ∧ e = .returned (.int .i64 i) ∧ Below w.heap.size w w' := by
  obtain ⟨A, n, c, h1, h2, h3, h4, h5⟩ := h
  subst h2
  have cS := search_T R hs A c p w hl h5
  have hbc := h1.cell
  have HS := Go.Lib.hid hs
  clear h1 h5 hs
  go_enter Try.func40, Try.ntmps40
  go_wp2_with fail
  refine cS.mono ?_
  rintro e w1 ⟨i, hp, hb1, rfl⟩
  have HP := Go.Lib.hid hp
  have hi := hp.1
  clear hp cS
  by_cases hf : ∃ h : i < R.length, R[i].2.1 = p
  · rw [decide_eq_true hf]
    have HA := Go.Lib.hid (at_found HS.out HP.out hf)
    clear hf
    go_wp2
    go_ret
    exact ⟨i + 1, HA.out, ret_int' (by go_num), hb1⟩
  · rw [decide_eq_false hf]
    have HA := Go.Lib.hid (at_lost HS.out HP.out hf)
    clear hf
    go_wp2
    go_ret
    exact ⟨i, HA.out, rfl, hb1⟩
/-- What At says. -/
def AtRet (R : List Rn) (p : Int) (w : World) (e : Ending) (w' : World) : Prop :=
  if 0 ≤ p ∧ p < lenR R then ∃ (i : Nat) (h : i < R.length), AtR R p i ∧ e = .returned (.tuple #[.int .i64 R[i].2.2, .int .i64 0]) ∧ Below w.heap.size w w'
  else e = .returned (.tuple #[.int .i64 0, .int .i64 2]) ∧ Below w.heap.size w w'
theorem at_in {R : List Rn} {p : Int} {i : Nat} (h : AtR R p i) (h0 : 0 ≤ p) (hp : p < lenR R) : i < R.length := by
  rcases Nat.lt_or_ge i R.length with h1 | h1
  · exact h1
  · obtain ⟨h2, h3, _⟩ := h
    rcases R.eq_nil_or_concat with hE | ⟨L, q, hE⟩
    · subst hE; rw [lenR_nil] at hp; omega
    · rw [List.concat_eq_append] at hE
      have hl : R.length = L.length + 1 := by rw [hE]; simp
      have := h3 L.length (by omega) (by omega)
      rw [lenR_at hl] at hp
      omega
end Go.Proofs.Ytioehncdkdfcmaa
