/- Layer 4: strings.Clone (38), newPiece (52), cut (56). -/
import Derived.Test.YtonplacldckbgaaM4
import Derived.Test.YtonplacldckbgaaShelf
namespace Go.Proofs.Ytonplacldckbgaa
open Go.RowKit Go.Lib Pt

theorem countByte_lf (l : List UInt8) : Lib.countByte l 10 = lf l := by
  unfold Lib.countByte lf
  rfl
set_option maxRecDepth 100000 in
set_option maxHeartbeats 4000000 in
theorem clone_any (s : ByteArray) (w : World) (hs : s.size ≤ 281474976710656) : Calls Try.prog 38 #[.string s] w fun e w' => e = .returned (.string s) ∧ Below w.heap.size w w' := by
  go_enter Try.func38, Try.ntmps38
  go_wp2_with (go_at_call 49; refine (Try.stringslite_Clone s _ hs).mono ?_; rintro e w1 ⟨rfl, k1⟩)
  go_ret
  exact ⟨rfl, k1⟩
set_option maxRecDepth 100000 in
set_option maxHeartbeats 4000000 in
theorem piece_any (p : List UInt8) (w : World) : Calls Try.prog 52 #[.string (bs p)] w fun e w' => e = .returned (pcV p) ∧ Below w.heap.size w w' := by
  have hc := fun w' => Try.strings_Count_one (bs p) 10 w'
  rw [bs_list, countByte_lf] at hc
  go_enter Try.func52, Try.ntmps52
  go_wp2_with (go_at_call 55; refine (hc _).mono ?_; rintro e w1 ⟨rfl, rfl⟩)
  refine bodyPost_ret (v := pcV p) ?_ rfl ⟨rfl, (Below.refl _ w).alloc (Nat.le_refl _) _⟩
  simp [results, Try.results52, go_sem, *]
theorem ext_take (p : List UInt8) (k : Nat) : (bs p).extract 0 k = bs (p.take k) := by
  apply ByteArray.ext
  simp [bs]
theorem ext_drop (p : List UInt8) (k : Nat) : (bs p).extract k p.length = bs (p.drop k) := by
  apply ByteArray.ext
  simp only [bs, ByteArray.data_extract, List.extract_toArray]
  congr 1
  simp [List.take_of_length_le]
set_option maxRecDepth 100000 in
set_option maxHeartbeats 8000000 in
theorem cut_any (p : List UInt8) (k : Nat) (hk : k ≤ p.length) (hp : p.length ≤ 200000) (w : World) : Calls Try.prog 56 #[pcV p, .int .i64 (k : Nat)] w fun e w' => e = .returned (.tuple #[pcV (p.take k), pcV (p.drop k)]) ∧ Below w.heap.size w w' := by
  have hs : (bs p).size = p.length := bs_size p
  have hk1 : k ≤ (bs p).size := by omega
  have hs1 : (bs p).size ≤ 200000 := by omega
  have hB0 : Below w.heap.size w (((w.alloc (.cells #[.string (bs p), .int .i64 (lf p : Nat)] 92)).alloc (.cells #[.string ⟨#[]⟩, .int .i64 0] 92)).alloc (.cells #[.string ⟨#[]⟩, .int .i64 0] 92)) := (((Below.refl _ w).alloc (Nat.le_refl _) _).alloc (by rw [World.size_alloc]; omega) _).alloc (by rw [World.size_alloc, World.size_alloc]; omega) _
  have hz : (((w.alloc (.cells #[.string (bs p), .int .i64 (lf p : Nat)] 92)).alloc (.cells #[.string ⟨#[]⟩, .int .i64 0] 92)).alloc (.cells #[.string ⟨#[]⟩, .int .i64 0] 92)).heap.size = w.heap.size + 3 := by rw [World.size_alloc, World.size_alloc, World.size_alloc]
  have z0 : (((w.alloc (.cells #[.string (bs p), .int .i64 (lf p : Nat)] 92)).alloc (.cells #[.string ⟨#[]⟩, .int .i64 0] 92)).alloc (.cells #[.string ⟨#[]⟩, .int .i64 0] 92)).cell? ⟨w.heap.size, 0, none⟩ = some (.string (bs p)) := by simp [go_sem]
  have z1 : (((w.alloc (.cells #[.string (bs p), .int .i64 (lf p : Nat)] 92)).alloc (.cells #[.string ⟨#[]⟩, .int .i64 0] 92)).alloc (.cells #[.string ⟨#[]⟩, .int .i64 0] 92)).cell? ⟨w.heap.size, 1, none⟩ = some (.int .i64 (lf p : Nat)) := by simp [go_sem]
  have z2 : (((w.alloc (.cells #[.string (bs p), .int .i64 (lf p : Nat)] 92)).alloc (.cells #[.string ⟨#[]⟩, .int .i64 0] 92)).alloc (.cells #[.string ⟨#[]⟩, .int .i64 0] 92)).cell? ⟨w.heap.size + 1, 0, none⟩ = some (.string ⟨#[]⟩) := by simp [go_sem]
  have z3 : (((w.alloc (.cells #[.string (bs p), .int .i64 (lf p : Nat)] 92)).alloc (.cells #[.string ⟨#[]⟩, .int .i64 0] 92)).alloc (.cells #[.string ⟨#[]⟩, .int .i64 0] 92)).cell? ⟨w.heap.size + 1, 1, none⟩ = some (.int .i64 0) := by simp [go_sem]
  have z4 : (((w.alloc (.cells #[.string (bs p), .int .i64 (lf p : Nat)] 92)).alloc (.cells #[.string ⟨#[]⟩, .int .i64 0] 92)).alloc (.cells #[.string ⟨#[]⟩, .int .i64 0] 92)).cell? ⟨w.heap.size + 1 + 1, 0, none⟩ = some (.string ⟨#[]⟩) := by simp [go_sem]
  have z5 : (((w.alloc (.cells #[.string (bs p), .int .i64 (lf p : Nat)] 92)).alloc (.cells #[.string ⟨#[]⟩, .int .i64 0] 92)).alloc (.cells #[.string ⟨#[]⟩, .int .i64 0] 92)).cell? ⟨w.heap.size + 1 + 1, 1, none⟩ = some (.int .i64 0) := by simp [go_sem]
  have f2 : (((w.alloc (.cells #[.string (bs p), .int .i64 (lf p : Nat)] 92)).alloc (.cells #[.string ⟨#[]⟩, .int .i64 0] 92)).alloc (.cells #[.string ⟨#[]⟩, .int .i64 0] 92)).frozen? ⟨w.heap.size + 1, 0, none⟩ = false := by simp [go_sem]
  have f3 : (((w.alloc (.cells #[.string (bs p), .int .i64 (lf p : Nat)] 92)).alloc (.cells #[.string ⟨#[]⟩, .int .i64 0] 92)).alloc (.cells #[.string ⟨#[]⟩, .int .i64 0] 92)).frozen? ⟨w.heap.size + 1, 1, none⟩ = false := by simp [go_sem]
  have f4 : (((w.alloc (.cells #[.string (bs p), .int .i64 (lf p : Nat)] 92)).alloc (.cells #[.string ⟨#[]⟩, .int .i64 0] 92)).alloc (.cells #[.string ⟨#[]⟩, .int .i64 0] 92)).frozen? ⟨w.heap.size + 1 + 1, 0, none⟩ = false := by simp [go_sem]
  have f5 : (((w.alloc (.cells #[.string (bs p), .int .i64 (lf p : Nat)] 92)).alloc (.cells #[.string ⟨#[]⟩, .int .i64 0] 92)).alloc (.cells #[.string ⟨#[]⟩, .int .i64 0] 92)).frozen? ⟨w.heap.size + 1 + 1, 1, none⟩ = false := by simp [go_sem]
  unfold pcV
  go_enter Try.func56, Try.ntmps56
  go_wp2_with fail
  rw [ext_take]
  generalize (((w.alloc (.cells #[.string (bs p), .int .i64 (lf p : Nat)] 92)).alloc (.cells #[.string ⟨#[]⟩, .int .i64 0] 92)).alloc (.cells #[.string ⟨#[]⟩, .int .i64 0] 92)) = W at *
  have l0 : w.heap.size < W.heap.size := by omega
  have l1 : w.heap.size + 1 < W.heap.size := by omega
  have l2 : w.heap.size + 1 + 1 < W.heap.size := by omega
  refine (piece_any (p.take k) _).mono ?_
  rintro e w1 ⟨rfl, k1⟩
  unfold pcV
  have y0 := (k1.cell (p := ⟨w.heap.size, 0, none⟩) l0).trans z0
  have y1 := (k1.cell (p := ⟨w.heap.size, 1, none⟩) l0).trans z1
  have y2 := (k1.cell (p := ⟨w.heap.size + 1, 0, none⟩) l1).trans z2
  have y3 := (k1.cell (p := ⟨w.heap.size + 1, 1, none⟩) l1).trans z3
  have y4 := (k1.cell (p := ⟨w.heap.size + 1 + 1, 0, none⟩) l2).trans z4
  have y5 := (k1.cell (p := ⟨w.heap.size + 1 + 1, 1, none⟩) l2).trans z5
  have g2 := (k1.frozen (p := ⟨w.heap.size + 1, 0, none⟩) l1).trans f2
  have g3 := (k1.frozen (p := ⟨w.heap.size + 1, 1, none⟩) l1).trans f3
  have g4 := (k1.frozen (p := ⟨w.heap.size + 1 + 1, 0, none⟩) l2).trans f4
  have g5 := (k1.frozen (p := ⟨w.heap.size + 1 + 1, 1, none⟩) l2).trans f5
  have hB1 : Below w.heap.size w w1 := hB0.trans (k1.mono (by omega))
  clear z0 z1 z2 z3 z4 z5 f2 f3 f4 f5 k1 hB0
  go_wp2_with fail
  have x0 : ((w1.setCell ⟨w.heap.size + 1, 0, none⟩ (.string (bs (p.take k)))).setCell ⟨w.heap.size + 1, 1, none⟩ (.int .i64 (lf (p.take k) : Nat))).cell? ⟨w.heap.size, 0, none⟩ = some (.string (bs p)) := by simp [go_sem, y0]
  have x1 : ((w1.setCell ⟨w.heap.size + 1, 0, none⟩ (.string (bs (p.take k)))).setCell ⟨w.heap.size + 1, 1, none⟩ (.int .i64 (lf (p.take k) : Nat))).cell? ⟨w.heap.size, 1, none⟩ = some (.int .i64 (lf p : Nat)) := by simp [go_sem, y1]
  have x2 : ((w1.setCell ⟨w.heap.size + 1, 0, none⟩ (.string (bs (p.take k)))).setCell ⟨w.heap.size + 1, 1, none⟩ (.int .i64 (lf (p.take k) : Nat))).cell? ⟨w.heap.size + 1, 0, none⟩ = some (.string (bs (p.take k))) := by simp [go_sem, y2]
  have x3 : ((w1.setCell ⟨w.heap.size + 1, 0, none⟩ (.string (bs (p.take k)))).setCell ⟨w.heap.size + 1, 1, none⟩ (.int .i64 (lf (p.take k) : Nat))).cell? ⟨w.heap.size + 1, 1, none⟩ = some (.int .i64 (lf (p.take k) : Nat)) := by simp [go_sem, y3]
  have x4 : ((w1.setCell ⟨w.heap.size + 1, 0, none⟩ (.string (bs (p.take k)))).setCell ⟨w.heap.size + 1, 1, none⟩ (.int .i64 (lf (p.take k) : Nat))).cell? ⟨w.heap.size + 1 + 1, 0, none⟩ = some (.string ⟨#[]⟩) := by simp [go_sem, y4]
  have x5 : ((w1.setCell ⟨w.heap.size + 1, 0, none⟩ (.string (bs (p.take k)))).setCell ⟨w.heap.size + 1, 1, none⟩ (.int .i64 (lf (p.take k) : Nat))).cell? ⟨w.heap.size + 1 + 1, 1, none⟩ = some (.int .i64 0) := by simp [go_sem, y5]
  have h2 : ((w1.setCell ⟨w.heap.size + 1, 0, none⟩ (.string (bs (p.take k)))).setCell ⟨w.heap.size + 1, 1, none⟩ (.int .i64 (lf (p.take k) : Nat))).frozen? ⟨w.heap.size + 1, 0, none⟩ = false := by simp [go_sem, g2]
  have h3 : ((w1.setCell ⟨w.heap.size + 1, 0, none⟩ (.string (bs (p.take k)))).setCell ⟨w.heap.size + 1, 1, none⟩ (.int .i64 (lf (p.take k) : Nat))).frozen? ⟨w.heap.size + 1, 1, none⟩ = false := by simp [go_sem, g3]
  have h4 : ((w1.setCell ⟨w.heap.size + 1, 0, none⟩ (.string (bs (p.take k)))).setCell ⟨w.heap.size + 1, 1, none⟩ (.int .i64 (lf (p.take k) : Nat))).frozen? ⟨w.heap.size + 1 + 1, 0, none⟩ = false := by simp [go_sem, g4]
  have h5 : ((w1.setCell ⟨w.heap.size + 1, 0, none⟩ (.string (bs (p.take k)))).setCell ⟨w.heap.size + 1, 1, none⟩ (.int .i64 (lf (p.take k) : Nat))).frozen? ⟨w.heap.size + 1 + 1, 1, none⟩ = false := by simp [go_sem, g5]
  have hB4 : Below w.heap.size w ((w1.setCell ⟨w.heap.size + 1, 0, none⟩ (.string (bs (p.take k)))).setCell ⟨w.heap.size + 1, 1, none⟩ (.int .i64 (lf (p.take k) : Nat))) := (hB1.setCell (Nat.le_succ _) _).setCell (Nat.le_succ _) _
  generalize ((w1.setCell ⟨w.heap.size + 1, 0, none⟩ (.string (bs (p.take k)))).setCell ⟨w.heap.size + 1, 1, none⟩ (.int .i64 (lf (p.take k) : Nat))) = W4 at *
  clear y0 y1 y2 y3 y4 y5 g2 g3 g4 g5 hB1
  have e1 : lf (p.take k) + lf (p.drop k) = lf p := by rw [← lf_append, List.take_append_drop]
  have e2 : lf p ≤ p.length := List.count_le_length
  have e3 : ((lf p : Nat) : Int) - (lf (p.take k) : Nat) = (lf (p.drop k) : Nat) := by omega
  have e4 : (lf (p.take k)) ≤ 200000 := by omega
  have e5 : (lf p) ≤ 200000 := by omega
  have e7 : IntKind.i64.wrap ((lf (p.drop k) : Nat) : Int) = ((lf (p.drop k) : Nat) : Int) := IntWalk.i64_in _ (by omega)
  have e8 := ext_drop p k
  go_region_held3 (fun w' => w'.cell? ⟨w.heap.size, 0, none⟩ = some (.string (bs p)) ∧ w'.cell? ⟨w.heap.size, 1, none⟩ = some (.int .i64 (lf p : Nat)) ∧ w'.cell? ⟨w.heap.size + 1, 0, none⟩ = some (.string (bs (p.take k))) ∧ w'.cell? ⟨w.heap.size + 1, 1, none⟩ = some (.int .i64 (lf (p.take k) : Nat)))
    (first
      | exact ⟨x0, x1, x2, x3⟩
      | (refine ⟨?_, ?_, ?_, ?_⟩ <;> (simp [go_sem, x0, x1, x2, x3]; done)))
    (fail)
  all_goals
    go_wp2
    refine bodyPost_ret (v := .tuple #[pcV (p.take k), pcV (p.drop k)]) ?_ rfl ⟨rfl, ?_⟩
    · simp [results, Try.results56, go_sem, *]
    · first
        | exact ((((hB4.setCell (Nat.le_succ _) _).setCell (Nat.le_succ _) _).setCell (Nat.le_succ_of_le (Nat.le_succ _)) _).setCell (Nat.le_succ_of_le (Nat.le_succ _)) _).drew
        | exact ((((hB4.drew.setCell (Nat.le_succ _) _).setCell (Nat.le_succ _) _).setCell (Nat.le_succ_of_le (Nat.le_succ _)) _).setCell (Nat.le_succ_of_le (Nat.le_succ _)) _)
end Go.Proofs.Ytonplacldckbgaa
