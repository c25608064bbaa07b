/- Layer 12: At (21). -/
import Derived.Test.YtkdhffidkopmcaaM1
namespace Go.Proofs.Ytkdhffidkopmcaa
open Go.RowKit Go.Lib Go.Maps
set_option linter.unusedVariables false

def retP (a b : Int) : Ending := .returned (.tuple #[.int .i64 a, .int .i64 b])
/-- What At hands back. -/
def GAtR (T : List (List Cl)) (row q : Int) (e : Ending) : Prop :=
  (((∀ i : Nat, row = (i : Nat) → ¬ i < T.length) ∨ q < 0 ∨ 32 ≤ q) ∧ e = retP 0 2) ∨
  (∃ (i : Nat) (hi : i < T.length), row = (i : Nat) ∧ 0 ≤ q ∧ q < 32 ∧ ((∃ (k : Nat) (h : k < (plR T[i]).length), q < ((plR T[i])[k].2.1 : Int) ∧ (∀ j (h : j < (plR T[i]).length), j < k → ((plR T[i])[j].2.1 : Int) ≤ q) ∧ e = retP k 0) ∨
    ((∀ j (h : j < (plR T[i]).length), ((plR T[i])[j].2.1 : Int) ≤ q) ∧ e = retP 0 8)))

set_option maxRecDepth 100000 in
set_option maxHeartbeats 8000000 in
theorem gat_any (T : List (List Cl)) (hT : GoodT T) (A : Option Addr) (N c : Nat) (hN : T.length = N) (hc : N ≤ c ∧ c ≤ maxLen) (row q : Int) (w : World) (hA : TbAt w A T) :
    Calls Try.prog 21 #[.slice A N c, .int .i64 row, .int .i64 q] w fun e w' => GAtR T row q e ∧ Below w.heap.size w w' := by
  have hB : Below w.heap.size w (w.alloc (.cells #[.int .i64 q] 3)) := (Below.refl _ w).alloc (Nat.le_refl _) _
  have x0 : (w.alloc (.cells #[.int .i64 q] 3)).cell? ⟨w.heap.size, 0, none⟩ = some (.int .i64 q) := by rw [World.cell?_alloc_new]; rfl
  have hbl : w.heap.size < (w.alloc (.cells #[.int .i64 q] 3)).heap.size := by simp
  have cS := spansAt_any T hT A N c hN hc row _ (hA.below hB)
  have HB := Go.Lib.hid hB
  have HT := Go.Lib.hid hT
  have hsz := hB.size
  clear hB hA
  go_enter Try.func21, Try.ntmps21
  go_wp2_with fail
  generalize w.alloc (.cells #[.int .i64 q] 3) = W at *
  (with_reducible refine cS.mono ?_)
  rintro e w1 ⟨hR, k1⟩
  have z0 := (k1.cell (p := ⟨w.heap.size, 0, none⟩) hbl).trans x0
  have HK := Go.Lib.hid (HB.out.trans (k1.mono hsz))
  have hs1 := HK.out.size
  clear cS k1 x0
  rcases hR with ⟨hno, rfl⟩ | ⟨i, hi, s, rfl, hsp, rfl⟩
  · have HX := Go.Lib.hid hno
    clear hno
    go_wp2
    go_ret2
    exact ⟨.inl ⟨.inl HX.out, rfl⟩, HK.out⟩
  · by_cases h0 : q < 0
    · go_wp2
      go_ret2
      exact ⟨.inl ⟨.inr (.inl h0), rfl⟩, HK.out⟩
    · by_cases h32 : 32 ≤ q
      · go_wp2
        go_ret2
        exact ⟨.inl ⟨.inr (.inr h32), rfl⟩, HK.out⟩
      · have HLP := Go.Lib.hid (plR_len T[i])
        have hl40 := (HT.out.2 _ (List.getElem_mem hi)).1
        obtain ⟨gs, rfl⟩ : ∃ gs, s = .slice (some ⟨gs, 0, none⟩) T[i].length T[i].length := by
          obtain ⟨gs, h1, _⟩ := id hsp
          exact ⟨gs, by rw [h1, HLP.out]⟩
        have HH := Go.Lib.hid (⟨by omega, by omega⟩ : 0 ≤ q ∧ q < 32)
        have cI := index_any (plR T[i]) T[i].length gs HLP.out hl40 _ q w.heap.size w1 hsp z0
        have HI := Go.Lib.hid hi
        clear hsp
        generalize T[i].length = ln at *
        go_wp2_with fail
        (with_reducible refine cI.mono ?_)
        rintro e w2 ⟨hX, k2⟩
        have HK2 := Go.Lib.hid (HK.out.trans (k2.mono hs1))
        clear cI k2 z0
        rcases hX with ⟨k, hk, h1, h2, rfl⟩ | ⟨hno, rfl⟩
        · have HX := Go.Lib.hid (⟨hk, h1, h2⟩ : ∃ h : k < (plR T[i]).length, q < ((plR T[i])[k].2.1 : Int) ∧ ∀ j (h : j < (plR T[i]).length), j < k → ((plR T[i])[j].2.1 : Int) ≤ q)
          have r0 : ¬ (k : Int) < 0 := by omega
          clear hk h1 h2
          go_wp2
          go_ret2
          refine ⟨.inr ⟨i, hi, rfl, HH.out.1, HH.out.2, .inl ?_⟩, HK2.out⟩
          obtain ⟨h, a, b⟩ := HX.out
          exact ⟨k, h, a, b, rfl⟩
        · have HX := Go.Lib.hid hno
          clear hno
          go_wp2
          go_ret2
          refine ⟨.inr ⟨i, hi, rfl, HH.out.1, HH.out.2, .inr ?_⟩, HK2.out⟩
          exact ⟨HX.out, rfl⟩
end Go.Proofs.Ytkdhffidkopmcaa
