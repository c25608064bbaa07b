/- Layer 6: the reference's accented (57), number (37). -/
import Derived.Test.YtknbglcmjggkjaaR2
namespace Go.Proofs.Ytknbglcmjggkjaa
open Go.RowKit Go.Shelf Go.Lib Co

/-- What a call answers that hands back two numbers. -/
def TwoR (p : Nat × Nat) (w : World) (e : Ending) (w' : World) : Prop := e = .returned (.tuple #[.int .i64 (p.1 : Nat), .int .i64 (p.2 : Nat)]) ∧ Below w.heap.size w w'
theorem accC_at : ∀ k, k < 30 → accC[k * 2]? = some (.int .i64 ((accL.getD k (0, 0)).1 : Nat)) ∧ accC[k * 2 + 1]? = some (.int .i64 ((accL.getD k (0, 0)).2 : Nat)) := by
  intro k hk
  have h : k = 0 ∨ k = 1 ∨ k = 2 ∨ k = 3 ∨ k = 4 ∨ k = 5 ∨ k = 6 ∨ k = 7 ∨ k = 8 ∨ k = 9 ∨ k = 10 ∨ k = 11 ∨ k = 12 ∨ k = 13 ∨ k = 14 ∨ k = 15 ∨ k = 16 ∨ k = 17 ∨ k = 18 ∨ k = 19 ∨ k = 20 ∨ k = 21 ∨ k = 22 ∨ k = 23 ∨ k = 24 ∨ k = 25 ∨ k = 26 ∨ k = 27 ∨ k = 28 ∨ k = 29 := by omega
  rcases h with rfl | rfl | rfl | rfl | rfl | rfl | rfl | rfl | rfl | rfl | rfl | rfl | rfl | rfl | rfl | rfl | rfl | rfl | rfl | rfl | rfl | rfl | rfl | rfl | rfl | rfl | rfl | rfl | rfl | rfl <;> exact ⟨rfl, rfl⟩
theorem acc_any (w : World) : Calls Try.prog 77 #[] w fun e w' => e = .returned (.slice (some ⟨w.heap.size, 0, none⟩) 30 30) ∧ ObjAt w' w.heap.size accC 114 ∧ Below w.heap.size w w' :=
  (accents_any w).mono fun e w' ⟨h1, h2⟩ => ⟨h1, by rw [h2]; exact ObjAt.new w accC 114, by rw [h2]; exact (Below.refl _ w).alloc (Nat.le_refl _) _⟩
/-- A letter and its mark. -/
def accP (c : Nat) : Nat × Nat :=
  if c = 255 then (121, 776) else if 192 ≤ c ∧ c ≤ 221 then accL.getD (c - 192) (0, 0) else if 224 ≤ c ∧ c ≤ 253 ∧ 0 < (accL.getD (c - 224) (0, 0)).1 then ((accL.getD (c - 224) (0, 0)).1 + 32, (accL.getD (c - 224) (0, 0)).2) else (0, 0)
theorem acc_le : ∀ k, k < 30 → (accL.getD k (0, 0)).1 ≤ 1000 ∧ (accL.getD k (0, 0)).2 ≤ 1000 := by decide
set_option maxRecDepth 100000 in
set_option maxHeartbeats 8000000 in
theorem accented_any (c : Nat) (w : World) (hc : c ≤ 1114111) : Calls Try.prog 57 #[.int .i64 (c : Nat)] w (TwoR (accP c) w) := by
  by_cases h1 : c = 255
  · subst h1
    go_enter Try.func57, Try.ntmps57
    go_wp2
    go_ret2
    exact ⟨rfl, Below.refl _ _⟩
  · have n1 : ¬ (c : Int) = 255 := by omega
    by_cases h2 : 192 ≤ c ∧ c ≤ 221
    · obtain ⟨k, rfl⟩ : ∃ k, c = k + 192 := ⟨c - 192, by omega⟩
      have HE := Go.Lib.hid (show accP (k + 192) = accL.getD k (0, 0) by unfold accP; rw [if_neg h1, if_pos h2, Nat.add_sub_cancel])
      obtain ⟨a1, a2⟩ := accC_at k (by omega)
      generalize accL.getD k (0, 0) = p at *
      obtain ⟨pa, pb⟩ := p
      have e0 : ((k : Int) + 192 - 192) = (k : Int) := by omega
      have e1 : (k : Int) < 30 := by omega
      have e2 : (0 : Int) ≤ (k : Int) := by omega
      have e3 : k < 30 := by omega
      have e6 : IntKind.i64.wrap ((k : Int) + 192 - 192) = (k : Int) := by rw [e0, IntKind.wrap_i64]; omega
      have e8 : IntKind.i64.wrap (k : Int) = (k : Int) := by rw [IntKind.wrap_i64]; omega
      have e7 : IntKind.i64.wrap ((k : Int) + 192) = (k : Int) + 192 := by rw [IntKind.wrap_i64]; omega
      have e4 : ¬ 30 ≤ (k : Int) := by omega
      have e5 : ¬ (k : Int) < 0 := by omega
      clear h1 h2
      go_enter Try.func57, Try.ntmps57
      go_wp2_with fail
      go_region_with (first
        | (go_at_call 77; (with_reducible refine (acc_any _).mono ?_); rintro e w4 ⟨rfl, p4, k4⟩; have x1' : w4.cell? ⟨w.heap.size, k * 2, none⟩ = some (.int .i64 (pa : Nat)) := (k4.cell (p := ⟨w.heap.size, k * 2, none⟩) p3.lt).trans x1; have x2' : w4.cell? ⟨w.heap.size, k * 2 + 1, none⟩ = some (.int .i64 (pb : Nat)) := (k4.cell (p := ⟨w.heap.size, k * 2 + 1, none⟩) p3.lt).trans x2; have x3 : w4.cell? ⟨w3.heap.size, k * 2, none⟩ = some (.int .i64 (pa : Nat)) := p4.get a1; have x4 : w4.cell? ⟨w3.heap.size, k * 2 + 1, none⟩ = some (.int .i64 (pb : Nat)) := p4.get a2)
        | (go_at_call 77; (with_reducible refine (acc_any _).mono ?_); rintro e w3 ⟨rfl, p3, k3⟩; have x1 : w3.cell? ⟨w.heap.size, k * 2, none⟩ = some (.int .i64 (pa : Nat)) := p3.get a1; have x2 : w3.cell? ⟨w.heap.size, k * 2 + 1, none⟩ = some (.int .i64 (pb : Nat)) := p3.get a2))
      all_goals
        have HB := Go.Lib.hid (show Below w.heap.size w w4 from ((Below.refl w.heap.size w).drew.trans k3).trans (k4.mono k3.size))
        clear k3 k4 p3 p4
        go_wp2
        go_ret2
        exact ⟨by rw [HE.out]; rfl, HB.out⟩
    · by_cases h3 : 224 ≤ c ∧ c ≤ 253
      · obtain ⟨k, rfl⟩ : ∃ k, c = k + 224 := ⟨c - 224, by omega⟩
        have HE := Go.Lib.hid (show accP (k + 224) = if 0 < (accL.getD k (0, 0)).1 then ((accL.getD k (0, 0)).1 + 32, (accL.getD k (0, 0)).2) else (0, 0) by
          unfold accP; rw [if_neg h1, if_neg h2, Nat.add_sub_cancel]
          by_cases h : 0 < (accL.getD k (0, 0)).1
          · rw [if_pos ⟨h3.1, h3.2, h⟩, if_pos h]
          · rw [if_neg (fun q => h q.2.2), if_neg h])
        obtain ⟨a1, a2⟩ := accC_at k (by omega)
        have hle := (acc_le k (by omega)).1
        generalize accL.getD k (0, 0) = p at *
        obtain ⟨pa, pb⟩ := p
        simp only at hle
        have e0 : ((k : Int) + 224 - 224) = (k : Int) := by omega
        have e1 : (k : Int) < 30 := by omega
        have e2 : (0 : Int) ≤ (k : Int) := by omega
        have e3 : k < 30 := by omega
        have e8 : IntKind.i64.wrap (k : Int) = (k : Int) := by rw [IntKind.wrap_i64]; omega
        have e7 : IntKind.i64.wrap ((k : Int) + 224) = (k : Int) + 224 := by rw [IntKind.wrap_i64]; omega
        have n2 : ¬ (k : Int) + 224 ≤ 221 := by omega
        have n3 : (224 : Int) ≤ (k : Int) + 224 := by omega
        have n4 : (192 : Int) ≤ (k : Int) + 224 := by omega
        have n5 : (k : Int) + 224 ≤ 253 := by omega
        have e9 : IntKind.i64.wrap ((pa : Int) + 32) = (pa : Int) + 32 := by rw [IntKind.wrap_i64]; omega
        clear h1 h2 h3
        by_cases hp : 0 < pa
        · have hpi : (0 : Int) < (pa : Int) := by omega
          rw [if_pos hp] at HE
          go_enter Try.func57, Try.ntmps57
          go_wp2_with (go_at_call 77; (with_reducible refine (acc_any _).mono ?_); rintro e w1 ⟨rfl, p1, k1⟩; have y1 : w1.cell? ⟨w.heap.size, k * 2, none⟩ = some (.int .i64 (pa : Nat)) := p1.get a1)
          go_region_with (first
            | (go_at_call 77; (with_reducible refine (acc_any _).mono ?_); rintro e w4 ⟨rfl, p4, k4⟩; have x1' : w4.cell? ⟨w1.heap.size, k * 2, none⟩ = some (.int .i64 (pa : Nat)) := (k4.cell (p := ⟨w1.heap.size, k * 2, none⟩) p3.lt).trans x1; have x2' : w4.cell? ⟨w1.heap.size, k * 2 + 1, none⟩ = some (.int .i64 (pb : Nat)) := (k4.cell (p := ⟨w1.heap.size, k * 2 + 1, none⟩) p3.lt).trans x2; have x3 : w4.cell? ⟨w3.heap.size, k * 2, none⟩ = some (.int .i64 (pa : Nat)) := p4.get a1; have x4 : w4.cell? ⟨w3.heap.size, k * 2 + 1, none⟩ = some (.int .i64 (pb : Nat)) := p4.get a2)
            | (go_at_call 77; (with_reducible refine (acc_any _).mono ?_); rintro e w3 ⟨rfl, p3, k3⟩; have x1 : w3.cell? ⟨w1.heap.size, k * 2, none⟩ = some (.int .i64 (pa : Nat)) := p3.get a1; have x2 : w3.cell? ⟨w1.heap.size, k * 2 + 1, none⟩ = some (.int .i64 (pb : Nat)) := p3.get a2))
          all_goals
            have HB := Go.Lib.hid (show Below w.heap.size w w4 from (k1.drew.trans (k3.mono k1.size)).trans (k4.mono (Nat.le_trans k1.size k3.size)))
            clear k1 k3 k4 p1 p3 p4
            go_wp2
            go_ret2
            exact ⟨by rw [HE.out]; rfl, HB.out⟩
        · have hpi : ¬ (0 : Int) < (pa : Int) := by omega
          rw [if_neg hp] at HE
          go_enter Try.func57, Try.ntmps57
          go_wp2_with (go_at_call 77; (with_reducible refine (acc_any _).mono ?_); rintro e w1 ⟨rfl, p1, k1⟩; have y1 : w1.cell? ⟨w.heap.size, k * 2, none⟩ = some (.int .i64 (pa : Nat)) := p1.get a1)
          have HB := Go.Lib.hid k1
          clear k1 p1
          go_ret2
          exact ⟨by rw [HE.out]; rfl, HB.out⟩
      · have HE := Go.Lib.hid (show accP c = (0, 0) by
          unfold accP; rw [if_neg h1, if_neg h2, if_neg (fun q => h3 ⟨q.1, q.2.1⟩)])
        rcases (show c < 192 ∨ (221 < c ∧ c < 224) ∨ 253 < c by omega) with h | ⟨h, h'⟩ | h
        · clear h1 h2 h3
          go_enter Try.func57, Try.ntmps57
          go_wp2
          go_ret2
          exact ⟨by rw [HE.out]; rfl, Below.refl _ _⟩
        · clear h1 h2 h3
          go_enter Try.func57, Try.ntmps57
          go_wp2
          go_ret2
          exact ⟨by rw [HE.out]; rfl, Below.refl _ _⟩
        · have n6 : ¬ (c : Int) ≤ 253 := by omega
          have n7 : ¬ (c : Int) ≤ 221 := by omega
          clear h1 h2 h3
          go_enter Try.func57, Try.ntmps57
          go_wp2
          go_ret2
          exact ⟨by rw [HE.out]; rfl, Below.refl _ _⟩
end Go.Proofs.Ytknbglcmjggkjaa
