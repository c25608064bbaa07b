/- Layer 4: takeFirst (53). -/
import Derived.Test.YtonplacldckbgaaM3
namespace Go.Proofs.Ytonplacldckbgaa
open Go.RowKit Go.Lib Pt

theorem takeF_bp (t : Tr) (hn : t ≠ .nil) : (takeF t).1 ++ (takeF t).2.bytes = t.bytes ∧ (takeF t).2.pcs + 1 = t.pcs := by
  induction t with
  | nil => exact absurd rfl hn
  | node l p r il _ =>
    cases l with
    | nil => exact ⟨by simp [takeF, Tr.bytes], by simp only [takeF, Tr.pcs]; omega⟩
    | node a q b =>
      obtain ⟨i1, i2⟩ := il (by simp)
      simp only [takeF]
      refine ⟨?_, ?_⟩
      · rw [joinT_bytes, show (Tr.node (Tr.node a q b) p r).bytes = (Tr.node a q b).bytes ++ p ++ r.bytes from rfl, ← i1]
        simp [List.append_assoc]
      · rw [joinT_pcs]; simp only [Tr.pcs] at i2 ⊢; omega
/-- A store into a block that holds no pointer first is in no tree's way. -/
theorem NAt.setCell {w : World} {n i : Nat} {v u : Value} (hv : w.cell? ⟨n, 0, none⟩ = some v) (hp : ∀ q, v ≠ .pointer q) {t : Tr} : ∀ {A}, NAt w t A → NAt (w.setCell ⟨n, i, none⟩ u) t A := by
  induction t with
  | nil => exact fun h => h
  | node l p r il ir =>
    rintro A ⟨b, L, R, rfl, h1, ⟨c0, c1, c2, c3, c4, c5, c6, c7⟩, h3, h4⟩
    have hne : b ≠ n := by
      rintro rfl
      rw [hv] at c0
      exact hp L (Option.some.inj c0)
    have k : ∀ j, (w.setCell ⟨n, i, none⟩ u).cell? ⟨b, j, none⟩ = w.cell? ⟨b, j, none⟩ := fun j => World.cell?_setCell_far _ _ _ _ (fun e => hne e.symm)
    refine ⟨b, L, R, rfl, by rw [World.size_setCell]; exact h1, ?_, il h3, ir h4⟩
    unfold NdAt
    rw [k, k, k, k, k, k, k, k]
    exact ⟨c0, c1, c2, c3, c4, c5, c6, c7⟩
/-- A piece and a tree. -/
def RetPN (p : List UInt8) (t : Tr) (w : World) : Ending → World → Prop := fun e w' => ∃ A, e = .returned (.tuple #[pcV p, .pointer A]) ∧ NAt w' t A ∧ Below w.heap.size w w'
set_option maxRecDepth 100000 in
set_option maxHeartbeats 8000000 in
theorem first_leaf {r : Tr} {p : List UInt8} {A : Option Addr} (w : World) (h : NAt w (.node .nil p r) A) : Calls Try.prog 53 #[.pointer A] w (RetPN p r w) := by
  obtain ⟨b, L, R, rfl, hb, ⟨c0, c1, c2, c3, _⟩, hL, hR⟩ := h
  obtain rfl : L = none := hL
  go_enter Try.func53, Try.ntmps53
  have hne : w.heap.size ≠ b := by omega
  go_wp2_with fail
  go_region_held3 (fun w' => w'.cell? ⟨b, 1, none⟩ = some (.pointer R) ∧ w'.cell? ⟨b, 2, none⟩ = some (.string (bs p)) ∧ w'.cell? ⟨b, 3, none⟩ = some (.int .i64 (lf p : Nat))) (go_keep) (fail)
  all_goals
    go_wp2
    refine bodyPost_ret (v := .tuple #[pcV p, .pointer R]) ?_ rfl ⟨R, rfl, ?_, ?_⟩
    · simp [results, Try.results53, go_sem, *]
    · exact NAt.below ((Below.refl _ w).alloc (Nat.le_refl _) _).drew hR
    · exact ((Below.refl _ w).alloc (Nat.le_refl _) _).drew
set_option maxRecDepth 100000 in
set_option maxHeartbeats 8000000 in
theorem first_rec {l r : Tr} {p : List UInt8} {A : Option Addr} (w : World) (hf : Fine (.node l p r)) (h : NAt w (.node l p r) A) (hn : l ≠ .nil)
    (ih : ∀ (L : Option Addr) (w' : World), NAt w' l L → Calls Try.prog 53 #[.pointer L] w' (RetPN (takeF l).1 (takeF l).2 w')) : Calls Try.prog 53 #[.pointer A] w (RetPN (takeF l).1 (joinT (takeF l).2 p r) w) := by
  obtain ⟨b, L, R, rfl, hb, ⟨c0, c1, c2, c3, _⟩, hL, hR⟩ := h
  obtain ⟨g, rfl⟩ : ∃ g, L = some g := by
    cases l with
    | nil => exact absurd rfl hn
    | node _ _ _ => obtain ⟨g, _, _, e, _⟩ := hL; exact ⟨_, e⟩
  obtain ⟨u1, u2⟩ := takeF_bp l hn
  generalize (takeF l).1 = f at *
  generalize (takeF l).2 = s at *
  have f1 : Fine (.node s p r) := hf.of (by simp only [Tr.bytes, List.length_append]; rw [← u1]; simp only [List.length_append]; omega) (by simp only [Tr.pcs]; omega)
  have hB0 : Below w.heap.size w (w.alloc (.cells #[.string ⟨#[]⟩, .int .i64 0] 92)) := (Below.refl _ w).alloc (Nat.le_refl _) _
  have z0 : (w.alloc (.cells #[.string ⟨#[]⟩, .int .i64 0] 92)).cell? ⟨w.heap.size, 0, none⟩ = some (.string ⟨#[]⟩) := by rw [World.cell?_alloc_new]; rfl
  have z1 : (w.alloc (.cells #[.string ⟨#[]⟩, .int .i64 0] 92)).cell? ⟨w.heap.size, 1, none⟩ = some (.int .i64 0) := by rw [World.cell?_alloc_new]; rfl
  have hz : (w.alloc (.cells #[.string ⟨#[]⟩, .int .i64 0] 92)).heap.size = w.heap.size + 1 := World.size_alloc _ _
  have hne : w.heap.size ≠ b := by omega
  have fz : ∀ i, (w.alloc (.cells #[.string ⟨#[]⟩, .int .i64 0] 92)).frozen? ⟨w.heap.size, i, none⟩ = false := fun i => World.frozen?_alloc_new _ _ _ i
  go_enter Try.func53, Try.ntmps53
  go_wp2_with fail
  generalize w.alloc (.cells #[.string ⟨#[]⟩, .int .i64 0] 92) = W at *
  have hbW : b < W.heap.size := by omega
  have hwW : w.heap.size < W.heap.size := by omega
  refine (ih (some g) _ (NAt.below hB0 hL)).mono ?_
  intro e w1 h1
  unfold RetPN at h1
  obtain ⟨A1, rfl, n1, k1⟩ := h1
  unfold pcV
  have y0 := (k1.cell (p := ⟨w.heap.size, 0, none⟩) hwW).trans z0
  have y1 := (k1.cell (p := ⟨w.heap.size, 1, none⟩) hwW).trans z1
  have g0 := (k1.frozen (p := ⟨w.heap.size, 0, none⟩) hwW).trans (fz 0)
  have g1 := (k1.frozen (p := ⟨w.heap.size, 1, none⟩) hwW).trans (fz 1)
  have hB1 : Below w.heap.size w w1 := hB0.trans (k1.mono (by omega))
  have D1 := (hB1.cell (p := ⟨b, 1, none⟩) hb).trans c1
  have D2 := (hB1.cell (p := ⟨b, 2, none⟩) hb).trans c2
  have D3 := (hB1.cell (p := ⟨b, 3, none⟩) hb).trans c3
  have hR1 := NAt.below hB1 hR
  have hw1 : w.heap.size < w1.heap.size := Nat.lt_of_lt_of_le hwW k1.size
  clear z0 z1 fz ih k1
  have hx : ∀ x : ByteArray, ∀ q, Value.string x ≠ .pointer q := fun x q h => by cases h
  go_wp2_with fail
  have m0 : (w1.setCell ⟨w.heap.size, 0, none⟩ (.string (bs f))).cell? ⟨w.heap.size, 0, none⟩ = some (.string (bs f)) := by simp [go_sem, y0]
  have m1 : ((w1.setCell ⟨w.heap.size, 0, none⟩ (.string (bs f))).setCell ⟨w.heap.size, 1, none⟩ (.int .i64 (lf f : Nat))).cell? ⟨w.heap.size, 0, none⟩ = some (.string (bs f)) := by simp [go_sem, y0]
  have m2 : ((w1.setCell ⟨w.heap.size, 0, none⟩ (.string (bs f))).setCell ⟨w.heap.size, 1, none⟩ (.int .i64 (lf f : Nat))).cell? ⟨w.heap.size, 1, none⟩ = some (.int .i64 (lf f : Nat)) := by simp [go_sem, y1]
  have e1 : ((w1.setCell ⟨w.heap.size, 0, none⟩ (.string (bs f))).setCell ⟨w.heap.size, 1, none⟩ (.int .i64 (lf f : Nat))).cell? ⟨b, 1, none⟩ = some (.pointer R) := by rw [World.cell?_setCell_far _ _ _ _ hne, World.cell?_setCell_far _ _ _ _ hne]; exact D1
  have e2 : ((w1.setCell ⟨w.heap.size, 0, none⟩ (.string (bs f))).setCell ⟨w.heap.size, 1, none⟩ (.int .i64 (lf f : Nat))).cell? ⟨b, 2, none⟩ = some (.string (bs p)) := by rw [World.cell?_setCell_far _ _ _ _ hne, World.cell?_setCell_far _ _ _ _ hne]; exact D2
  have e3 : ((w1.setCell ⟨w.heap.size, 0, none⟩ (.string (bs f))).setCell ⟨w.heap.size, 1, none⟩ (.int .i64 (lf f : Nat))).cell? ⟨b, 3, none⟩ = some (.int .i64 (lf p : Nat)) := by rw [World.cell?_setCell_far _ _ _ _ hne, World.cell?_setCell_far _ _ _ _ hne]; exact D3
  have n2 := NAt.setCell (i := 1) (u := .int .i64 (lf f : Nat)) m0 (hx _) (NAt.setCell (i := 0) (u := .string (bs f)) y0 (hx _) n1)
  have hR2 := NAt.setCell (i := 1) (u := .int .i64 (lf f : Nat)) m0 (hx _) (NAt.setCell (i := 0) (u := .string (bs f)) y0 (hx _) hR1)
  have hB4 : Below w.heap.size w ((w1.setCell ⟨w.heap.size, 0, none⟩ (.string (bs f))).setCell ⟨w.heap.size, 1, none⟩ (.int .i64 (lf f : Nat))) := (hB1.setCell (Nat.le_refl _) _).setCell (Nat.le_refl _) _
  have hw4 : w.heap.size < ((w1.setCell ⟨w.heap.size, 0, none⟩ (.string (bs f))).setCell ⟨w.heap.size, 1, none⟩ (.int .i64 (lf f : Nat))).heap.size := by rw [World.size_setCell, World.size_setCell]; exact hw1
  have j0 : ((w1.setCell ⟨w.heap.size, 0, none⟩ (.string (bs f))).setCell ⟨w.heap.size, 1, none⟩ (.int .i64 (lf f : Nat))).frozen? ⟨w.heap.size, 0, none⟩ = false := by simp [go_sem, g0]
  have j1 : ((w1.setCell ⟨w.heap.size, 0, none⟩ (.string (bs f))).setCell ⟨w.heap.size, 1, none⟩ (.int .i64 (lf f : Nat))).frozen? ⟨w.heap.size, 1, none⟩ = false := by simp [go_sem, g1]
  generalize (w1.setCell ⟨w.heap.size, 0, none⟩ (.string (bs f))).setCell ⟨w.heap.size, 1, none⟩ (.int .i64 (lf f : Nat)) = W4 at *
  clear y0 y1 g0 g1 D1 D2 D3 n1 hR1 hB1 m0 hw1
  have hb4 : b < W4.heap.size := by omega
  go_region_held3 (fun w' => w'.cell? ⟨b, 1, none⟩ = some (.pointer R) ∧ w'.cell? ⟨b, 2, none⟩ = some (.string (bs p)) ∧ w'.cell? ⟨b, 3, none⟩ = some (.int .i64 (lf p : Nat)) ∧ w'.cell? ⟨w.heap.size, 0, none⟩ = some (.string (bs f)) ∧ w'.cell? ⟨w.heap.size, 1, none⟩ = some (.int .i64 (lf f : Nat)))
    (first
      | exact ⟨e1, e2, e3, m1, m2⟩
      | exact ⟨(q1.cell hb4).trans e1, (q1.cell hb4).trans e2, (q1.cell hb4).trans e3, y0, y1⟩
      | exact ⟨(World.cell?_setCell_far _ _ _ _ hne).trans ((World.cell?_setCell_far _ _ _ _ hne).trans ((q1.cell hb4).trans e1)), (World.cell?_setCell_far _ _ _ _ hne).trans ((World.cell?_setCell_far _ _ _ _ hne).trans ((q1.cell hb4).trans e2)), (World.cell?_setCell_far _ _ _ _ hne).trans ((World.cell?_setCell_far _ _ _ _ hne).trans ((q1.cell hb4).trans e3)), by simp [go_sem, y0], by simp [go_sem, y1]⟩)
    (first
      | (go_at_call 51; (with_reducible refine (join_any (l := s) (p := p) (r := r) _ f1 n2.drew hR2.drew).mono ?_); intro e v1 h1; unfold RetN at h1; obtain ⟨A3, rfl, n3, q1⟩ := h1; have g0 : v1.frozen? ⟨w.heap.size, 0, none⟩ = false := (q1.frozen hw4).trans j0; have g1 : v1.frozen? ⟨w.heap.size, 1, none⟩ = false := (q1.frozen hw4).trans j1; have y0 : v1.cell? ⟨w.heap.size, 0, none⟩ = some (.string (bs f)) := (q1.cell hw4).trans m1; have y1 : v1.cell? ⟨w.heap.size, 1, none⟩ = some (.int .i64 (lf f : Nat)) := (q1.cell hw4).trans m2))
  go_wp2
  have m0 : (v1.setCell ⟨w.heap.size, 0, none⟩ (.string (bs f))).cell? ⟨w.heap.size, 0, none⟩ = some (.string (bs f)) := by simp [go_sem, y0]
  refine bodyPost_ret (v := .tuple #[pcV f, .pointer A3]) ?_ rfl ⟨A3, rfl, NAt.setCell (i := 1) m0 (hx _) (NAt.setCell (i := 0) y0 (hx _) n3), ((hB4.drew.trans (q1.mono (Nat.le_of_lt hw4))).setCell (Nat.le_refl _) _).setCell (Nat.le_refl _) _⟩
  simp [results, Try.results53, go_sem, y0, y1]
theorem first_any (t : Tr) : ∀ (A : Option Addr) (w : World), Fine t → t ≠ .nil → NAt w t A → Calls Try.prog 53 #[.pointer A] w (RetPN (takeF t).1 (takeF t).2 w) := by
  induction t with
  | nil => exact fun _ _ _ h => absurd rfl h
  | node l p r il _ =>
    intro A w hf _ h
    cases l with
    | nil => exact first_leaf w h
    | node a q b => exact first_rec w hf h (by simp) (fun L w' h' => il L w' hf.left (by simp) h')
end Go.Proofs.Ytonplacldckbgaa
