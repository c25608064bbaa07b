/- Layer 22: the full table, plainly. -/
import Derived.Test.YtmpklkhjipclmaaVZ
namespace Go.Proofs.Ytmpklkhjipclmaa
open Go.RowKit Go.Lib
set_option linter.unusedVariables false

theorem v_a : vld ⟨#[65]⟩ = true := vld_ok [65] (by intro p hp; simp at hp; rcases hp with rfl; exact ⟨by decide, .inl (by decide)⟩) (by decide)
theorem v_b : vld ⟨#[66]⟩ = true := vld_ok [66] (by intro p hp; simp at hp; rcases hp with rfl; exact ⟨by decide, .inl (by decide)⟩) (by decide)
def fulF (s st : Int) (i : Nat) : Rv := ⟨1 + s + (i : Int) * (1 + st), ⟨#[65]⟩, (i : Int)⟩
def fulL (s st : Int) (k : Nat) : List Rv := (List.range k).map (fulF s st)
def moreR (s st : Int) : Rv := ⟨(fulF s st 255).id + 1, ⟨#[66]⟩, 0⟩
theorem fulL_len (s st : Int) (k : Nat) : (fulL s st k).length = k := by simp [fulL]
theorem fulL_snoc (s st : Int) (k : Nat) : fulL s st (k + 1) = fulL s st k ++ [fulF s st k] := by simp [fulL, List.range_succ]
theorem fulL_get (s st : Int) (k j : Nat) (h : j < (fulL s st k).length) : (fulL s st k)[j] = fulF s st j := by simp [fulL]
theorem fulL_mem (s st : Int) (k : Nat) (x : Rv) : x ∈ fulL s st k ↔ ∃ j, j < k ∧ fulF s st j = x := by simp [fulL]
theorem fulL_take (s st : Int) : (fulL s st 256).take 10 = fulL s st 10 := by
  apply List.ext_getElem
  · rw [List.length_take, fulL_len, fulL_len]; rfl
  · intro i h1 h2
    rw [List.getElem_take, fulL_get, fulL_get]
section
variable {s st : Int} (hs : 0 ≤ s ∧ s ≤ 65535) (ht : 0 ≤ st ∧ st ≤ 255)
include ht in
theorem mulb (i : Nat) (hi : i ≤ 256) : 0 ≤ (i : Int) * (1 + st) ∧ (i : Int) * (1 + st) ≤ 65536 := by
  refine ⟨Int.mul_nonneg (by omega) (by omega), ?_⟩
  have := Int.mul_le_mul (show (i : Int) ≤ 256 by omega) (show 1 + st ≤ 256 by omega) (by omega) (by omega)
  omega
include ht in
theorem mull (i j : Nat) (h : i < j) : (i : Int) * (1 + st) < (j : Int) * (1 + st) := Int.mul_lt_mul_of_pos_right (by omega) (by omega)
include ht in
theorem ful_sort (k : Nat) : SortP (fulL s st k) := fun i j hi hj hij => by
  rw [fulL_get, fulL_get]
  have := mull ht i j hij
  show 1 + s + (i : Int) * (1 + st) < 1 + s + (j : Int) * (1 + st)
  omega
include hs ht in
theorem ful_r (i : Nat) (hi : i < 256) : chkR vld (fulF s st i) = 0 := by
  have := mulb ht i (by omega)
  unfold chkR fulF
  dsimp only
  rw [if_neg (by omega), if_neg (by decide), if_neg (by decide), if_neg (by rw [v_a]; decide), if_neg (by omega)]
include hs ht in
theorem more_r : chkR vld (moreR s st) = 0 := by
  have := mulb ht 255 (by omega)
  unfold chkR moreR fulF
  dsimp only
  rw [if_neg (by omega), if_neg (by decide), if_neg (by decide), if_neg (by rw [v_b]; decide), if_neg (by omega)]
include hs ht in
theorem ful_chk (k : Nat) (hk : k ≤ 256) : chkL vld (fulL s st k) = 0 :=
  chk_of_sort (fun x hx => by obtain ⟨j, hj, rfl⟩ := (fulL_mem s st k x).1 hx; exact ful_r hs ht j (by omega)) (ful_sort ht k) (by rw [fulL_len]; exact hk)
include hs ht in
theorem more_chk : chkL vld [moreR s st] = 0 :=
  chk_of_sort (fun x hx => by rw [List.mem_singleton.1 hx]; exact more_r hs ht) (fun i j hi hj hij => by simp at hi hj; omega) (by simp)
include ht in
theorem more_no : ∀ y ∈ fulL s st 256, y.id ≠ (moreR s st).id := by
  intro y hy e
  obtain ⟨j, hj, rfl⟩ := (fulL_mem s st 256 y).1 hy
  have e' : 1 + s + (j : Int) * (1 + st) = 1 + s + ((255 : Nat) : Int) * (1 + st) + 1 := e
  by_cases h : j = 255
  · subst h; omega
  · have := mull ht j 255 (by omega); omega
include ht in
theorem more_fnd : fnd (moreR s st).id (fulL s st 256) = -1 := fnd_no fun j hj => more_no ht _ (List.getElem_mem hj)
include hs ht in
theorem ful_add : addE (fulL s st 256) (moreR s st) = 9 := by
  unfold addE
  rw [if_neg (by simp [ful_chk hs ht 256 (Nat.le_refl _)]), if_neg (by simp [more_r hs ht]), if_neg (by rw [more_fnd ht]; decide), if_pos (by rw [fulL_len]; exact Nat.le_refl _)]
include hs ht in
theorem ful_m1 : mrgE (fulL s st 256) [moreR s st] = 9 := by
  have h1 : mrg (fulL s st 256) [moreR s st] = some (putR (fulL s st 256) (moreR s st)) := by
    show stepM (fulL s st 256) (moreR s st) = _
    unfold stepM
    rw [if_neg (fun h => more_no ht _ h rfl), if_neg (fun ⟨y, hy, e⟩ => more_no ht y hy e)]
  unfold mrgE
  rw [if_neg (by simp [ful_chk hs ht 256 (Nat.le_refl _)]), if_neg (by simp [more_chk hs ht]), h1]
  dsimp only
  rw [if_pos (by rw [putR_len (ful_sort ht 256) (more_no ht), fulL_len]; omega)]
include hs ht in
theorem ful_m2 : mrg (fulL s st 256) (fulL s st 10) = some (fulL s st 256) ∧ mrgE (fulL s st 256) (fulL s st 10) = 0 := by
  have hsub : ∀ x, x ∈ fulL s st 10 → x ∈ fulL s st 256 := fun x hx => by
    obtain ⟨j, hj, rfl⟩ := (fulL_mem s st 10 x).1 hx
    exact (fulL_mem s st 256 _).2 ⟨j, by omega, rfl⟩
  obtain ⟨M, h1, h2⟩ := mrg_yes (ful_sort (s := s) ht 256) (ful_sort ht 10) (fun x hx y hy e => sort_inj (ful_sort ht 256) hx (hsub y hy) e)
  have hM : M = fulL s st 256 := sorted_eq h2.1 (ful_sort ht 256) fun x => (h2.2.1 x).trans ⟨fun h => h.elim id (hsub x), .inl⟩
  subst hM
  exact ⟨h1, mrgE_yes (ful_chk hs ht 256 (Nat.le_refl _)) (ful_chk hs ht 10 (by omega)) h1 (by rw [fulL_len]; omega)⟩
theorem ful_long (s st : Int) : chkL vld (fulL s st 256 ++ [moreR s st]) = 9 := chkL_long (by rw [List.length_append, fulL_len]; simp)
theorem ful_sz (k : Nat) : SzOk (fulL s st k) := fun x hx => by
  obtain ⟨j, hj, rfl⟩ := (fulL_mem s st k x).1 hx
  show (⟨#[65]⟩ : ByteArray).size ≤ _
  decide
theorem more_sz : SzOk [moreR s st] := fun x hx => by
  rw [List.mem_singleton.1 hx]
  show (⟨#[66]⟩ : ByteArray).size ≤ _
  decide
theorem long_sz : SzOk (fulL s st 256 ++ [moreR s st]) := fun x hx => by
  rcases List.mem_append.1 hx with h | h
  · exact ful_sz 256 x h
  · exact more_sz x h
end
end Go.Proofs.Ytmpklkhjipclmaa
