/- Layer 6: the table of pairs (48): the walk. -/
import Derived.Test.YtknbglcmjggkjaaT1
import Derived.Laws.CopyOwn
namespace Go.Proofs.Ytknbglcmjggkjaa
open Go.RowKit Go.Lib Co

theorem store_tab (w : World) : (storeCells ⟨w.heap.size, 0, none⟩ cells0.toList 0).run Try.prog (w.alloc (.cells Try.zeroCells90 90)) = .ok () (w.alloc (.cells cells0 90)) :=
  run_storeCells_new w 90 _ cells0 (by rw [sizeT, cells0_size]) (by rw [cells0_size]; kernel_rfl) cells0_one
set_option maxRecDepth 1000000 in
theorem builtL : Program.built Try.prog 90 [(192, .agg #[.int .i64 65, .int .i64 768]), (193, .agg #[.int .i64 65, .int .i64 769]), (194, .agg #[.int .i64 65, .int .i64 770]), (195, .agg #[.int .i64 65, .int .i64 771]), (196, .agg #[.int .i64 65, .int .i64 776]), (197, .agg #[.int .i64 65, .int .i64 778]), (199, .agg #[.int .i64 67, .int .i64 807]), (200, .agg #[.int .i64 69, .int .i64 768]), (201, .agg #[.int .i64 69, .int .i64 769]), (202, .agg #[.int .i64 69, .int .i64 770]), (203, .agg #[.int .i64 69, .int .i64 776]), (204, .agg #[.int .i64 73, .int .i64 768]), (205, .agg #[.int .i64 73, .int .i64 769]), (206, .agg #[.int .i64 73, .int .i64 770]), (207, .agg #[.int .i64 73, .int .i64 776]), (209, .agg #[.int .i64 78, .int .i64 771]), (210, .agg #[.int .i64 79, .int .i64 768]), (211, .agg #[.int .i64 79, .int .i64 769]), (212, .agg #[.int .i64 79, .int .i64 770]), (213, .agg #[.int .i64 79, .int .i64 771]), (214, .agg #[.int .i64 79, .int .i64 776]), (216, .agg #[.int .i64 79, .int .i64 824]), (217, .agg #[.int .i64 85, .int .i64 768]), (218, .agg #[.int .i64 85, .int .i64 769]), (219, .agg #[.int .i64 85, .int .i64 770]), (220, .agg #[.int .i64 85, .int .i64 776]), (221, .agg #[.int .i64 89, .int .i64 769]), (255, .agg #[.int .i64 121, .int .i64 776]), (198, .agg #[.int .i64 65, .int .i64 69]), (230, .agg #[.int .i64 97, .int .i64 101]), (223, .agg #[.int .i64 115, .int .i64 115])] = some cells0 := builtT
/-- The literal's entries. -/
def basP (q : Nat) : Nat × Nat := baseP.getD q (0, 0)
/-- A cell's number when the capitals before c are done. -/
def stg (c i : Nat) : Nat :=
  if 224 ≤ i / 2 ∧ i / 2 < c + 32 ∧ 768 ≤ (basP (i / 2 - 32)).2 then (if i % 2 = 0 then (basP (i / 2 - 32)).1 + 32 else (basP (i / 2 - 32)).2)
  else if i % 2 = 0 then (basP (i / 2)).1 else (basP (i / 2)).2
set_option maxRecDepth 100000 in
set_option maxHeartbeats 4000000 in
theorem putAll_get (l : List (Nat × Nat × Nat)) (i0 : Nat) (a : Act) (h : i0 + l.length ≤ a.tmps.size) (k : Nat) :
    (putAll a ((l.zipIdx i0).map fun x => (x.2, x.1))).tmps[k]? = if i0 ≤ k ∧ k < i0 + l.length then (l[k - i0]?).map prV else a.tmps[k]? := by
  induction l generalizing i0 a with
  | nil =>
    rw [if_neg (by simp only [List.length_nil]; omega)]; rfl
  | cons s l ih =>
    have hl : (s :: l).length = l.length + 1 := rfl
    have e : putAll a (((s :: l).zipIdx i0).map fun x => (x.2, x.1)) = putAll (a.put (some i0) (prV s)) ((l.zipIdx (i0 + 1)).map fun x => (x.2, x.1)) := rfl
    have hsz : (a.put (some i0) (prV s)).tmps.size = a.tmps.size := by simp [Act.put]
    rw [e, ih (i0 + 1) _ (by rw [hsz]; omega)]
    by_cases h1 : k = i0
    · subst h1
      rw [if_neg (by omega), if_pos (by omega), Nat.sub_self]
      simp [Act.put, Array.getElem?_setIfInBounds]
      omega
    · by_cases h2 : i0 + 1 ≤ k ∧ k < i0 + 1 + l.length
      · rw [if_pos h2, if_pos (by omega)]
        have e2 : k - i0 = (k - (i0 + 1)) + 1 := by omega
        rw [e2, List.getElem?_cons_succ]
      · rw [if_neg h2, if_neg (by omega)]
        simp [Act.put, Ne.symm h1]
theorem parts_rows (a : Act) (ha : a.tmps.size = 56) : (partsT.map fun (i, x) => (i, (putAll a slotsT).eval x)).toList = rowsP.map fun x => (x.1, prV x) := by
  rw [Array.toList_map, partsT_eq]
  apply List.ext_getElem
  · simp
  · intro k h1 h2
    have hk : k < rowsP.length := by simpa using h2
    have hk31 : rowsP.length = 31 := rfl
    have e : (putAll a slotsT).tmps[4 + k]? = some (prV rowsP[k]) := by
      unfold slotsT
      rw [putAll_get rowsP 4 a (by rw [ha, hk31]; omega) (4 + k), if_pos ⟨by omega, by omega⟩, show 4 + k - 4 = k by omega, List.getElem?_eq_getElem hk]
      rfl
    simp only [List.getElem_map, List.getElem_zipIdx]
    have : (putAll a slotsT).eval (Operand.tmp (4 + k)) = prV rowsP[k] := by simp [Act.eval, e]
    rw [this]
/-- A cell of the table. -/
def tabF (i : Nat) : Nat := if i % 2 = 0 then (pairN (i / 2)).1 else (pairN (i / 2)).2
set_option maxRecDepth 1000000 in
theorem bas_le : ∀ q, q < 256 → (basP q).1 ≤ 200 ∧ (basP q).2 ≤ 900 := by
  have h : ((List.range 256).all fun q => decide ((basP q).1 ≤ 200 ∧ (basP q).2 ≤ 900)) = true := by kernel_rfl
  intro q hq
  have := List.all_eq_true.1 h q (List.mem_range.2 hq)
  simpa using this
set_option maxRecDepth 1000000 in
theorem stg_end : ∀ i, i < 512 → stg 222 i = tabF i := by
  have h : ((List.range 512).all fun i => stg 222 i == tabF i) = true := by kernel_rfl
  intro i hi
  have := List.all_eq_true.1 h i (List.mem_range.2 hi)
  simpa using this
set_option maxRecDepth 1000000 in
theorem stg_start : ∀ i, i < 512 → cells0[i]? = some (.int .i64 (stg 192 i : Nat)) := by
  have h : (cells0.toList) = (List.range 512).map fun i => Value.int .i64 (stg 192 i : Nat) := by kernel_rfl
  intro i hi
  rw [← Array.getElem?_toList, h, List.getElem?_map, List.getElem?_range hi]
  rfl
theorem stg_low (c : Nat) (h1 : 192 ≤ c) (h2 : c < 222) : stg c (c * 2) = (basP c).1 ∧ stg c (c * 2 + 1) = (basP c).2 := by
  unfold stg
  rw [show c * 2 / 2 = c by omega, show (c * 2 + 1) / 2 = c by omega]
  constructor
  · rw [if_neg (by omega), if_pos (by omega)]
  · rw [if_neg (by omega), if_neg (by omega)]
theorem stg_skip (c i : Nat) (h1 : 192 ≤ c) (h3 : ¬ 768 ≤ (basP c).2) : stg (c + 1) i = stg c i := by
  unfold stg
  by_cases h : i / 2 = c + 32
  · have e1 : ¬ (224 ≤ i / 2 ∧ i / 2 < c + 1 + 32 ∧ 768 ≤ (basP (i / 2 - 32)).2) := fun h5 => h3 (by have := h5.2.2; rwa [h, show c + 32 - 32 = c by omega] at this)
    have e2 : ¬ (224 ≤ i / 2 ∧ i / 2 < c + 32 ∧ 768 ≤ (basP (i / 2 - 32)).2) := fun h5 => by omega
    rw [if_neg e1, if_neg e2]
  · by_cases h4 : 224 ≤ i / 2 ∧ i / 2 < c + 32 ∧ 768 ≤ (basP (i / 2 - 32)).2
    · rw [if_pos h4, if_pos ⟨h4.1, by omega, h4.2.2⟩]
    · rw [if_neg h4, if_neg (fun h5 => h4 ⟨h5.1, by omega, h5.2.2⟩)]
theorem stg_put (c i : Nat) (h1 : 192 ≤ c) (h3 : 768 ≤ (basP c).2) : stg (c + 1) i = if i = (c + 32) * 2 + 1 then (basP c).2 else if i = (c + 32) * 2 then (basP c).1 + 32 else stg c i := by
  by_cases h : i / 2 = c + 32
  · have hi : stg (c + 1) i = if i % 2 = 0 then (basP c).1 + 32 else (basP c).2 := by
      unfold stg
      rw [h, show c + 32 - 32 = c by omega, if_pos ⟨by omega, by omega, h3⟩]
    rw [hi]
    by_cases h2 : i % 2 = 0
    · rw [if_pos h2, if_neg (by omega), if_pos (by omega)]
    · rw [if_neg h2, if_pos (by omega)]
  · rw [if_neg (by omega), if_neg (by omega)]
    unfold stg
    by_cases h4 : 224 ≤ i / 2 ∧ i / 2 < c + 32 ∧ 768 ≤ (basP (i / 2 - 32)).2
    · rw [if_pos h4, if_pos ⟨h4.1, by omega, h4.2.2⟩]
    · rw [if_neg h4, if_neg (fun h5 => h4 ⟨h5.1, by omega, h5.2.2⟩)]
/-- The table's block when the capitals before c are done. -/
def TabW (w : World) (b c : Nat) : Prop := w.rowIs b 90 512 (fun i => .int .i64 (stg c i : Nat))
set_option maxRecDepth 1000000 in
set_option maxHeartbeats 4000000 in
theorem table_any (w : World) : Calls Try.prog 48 #[] w fun e w' => ∃ cs : Array Value, e = .returned (.agg cs) ∧ cs.size = 512 ∧ (∀ i, i < 512 → cs[i]? = some (.int .i64 (tabF i : Nat))) ∧ Below w.heap.size w w' := by
  go_enter Try.func48, Try.ntmps48
  go_upto_region 1 with (fail)
  refine wp_region_list ?_
  change wpList Try.prog _ _ opsT _ _
  rw [opsT_eq]
  refine wpList_rows "element.go:136" slotsT _ ?_
  refine wpList_build g31 90 partsT op31 ?_ ?_
  · rw [parts_rows _ rfl, builtT]; rfl
  rw [parts_rows _ rfl, builtT, d31]
  refine Go.Great.wpList_allocTo g32 (some 1) d32 (.pointer (some ⟨w.heap.size + 1, 0, none⟩)) (.cells Try.zeroCells90 90) ?_ ?_
  · simp [execOp, op32, go_sem]
  refine wpList_store_row g33 90 (.tmp 1) (.tmp 35) op33 (w.heap.size + 1) cells0 ?_ ?_ 90 Try.zeroCells90 ?_ (by rw [sizeT, cells0_size]) ?_ cells0_one (wpList_nil ?_)
  · simp [Act.eval, Act.put, putAll_size]
  · simp [Act.eval, Act.put, putAll_size]
  · have := heap_alloc_last (w.alloc (.cells Try.zeroCells90 90)) (.cells Try.zeroCells90 90)
    rwa [World.size_alloc] at this
  · rw [cells0_size]; kernel_rfl
  rename_i Q' K hK
  have hset : ((w.alloc (.cells Try.zeroCells90 90)).alloc (.cells Try.zeroCells90 90)).setRow (w.heap.size + 1) cells0 = (w.alloc (.cells Try.zeroCells90 90)).alloc (.cells cells0 90) := by
    have := World.setRow_alloc_new (w.alloc (.cells Try.zeroCells90 90)) Try.zeroCells90 cells0 90
    rwa [World.size_alloc] at this
  rw [hset]
  have hfr : putAll { tmps := #[.pointer (some ⟨w.heap.size, 0, none⟩), undef, undef, undef, undef, undef, undef, undef, undef, undef, undef, undef, undef, undef, undef, undef, undef, undef, undef, undef, undef, undef, undef, undef, undef, undef, undef, undef, undef, undef, undef, undef, undef, undef, undef, undef, undef, undef, undef, undef, undef, undef, undef, undef, undef, undef, undef, undef, undef, undef, undef, undef, undef, undef, undef, undef], defers := [] } slotsT = { tmps := #[.pointer (some ⟨w.heap.size, 0, none⟩), undef, undef, undef, .agg #[.int .i64 65, .int .i64 768], .agg #[.int .i64 65, .int .i64 769], .agg #[.int .i64 65, .int .i64 770], .agg #[.int .i64 65, .int .i64 771], .agg #[.int .i64 65, .int .i64 776], .agg #[.int .i64 65, .int .i64 778], .agg #[.int .i64 67, .int .i64 807], .agg #[.int .i64 69, .int .i64 768], .agg #[.int .i64 69, .int .i64 769], .agg #[.int .i64 69, .int .i64 770], .agg #[.int .i64 69, .int .i64 776], .agg #[.int .i64 73, .int .i64 768], .agg #[.int .i64 73, .int .i64 769], .agg #[.int .i64 73, .int .i64 770], .agg #[.int .i64 73, .int .i64 776], .agg #[.int .i64 78, .int .i64 771], .agg #[.int .i64 79, .int .i64 768], .agg #[.int .i64 79, .int .i64 769], .agg #[.int .i64 79, .int .i64 770], .agg #[.int .i64 79, .int .i64 771], .agg #[.int .i64 79, .int .i64 776], .agg #[.int .i64 79, .int .i64 824], .agg #[.int .i64 85, .int .i64 768], .agg #[.int .i64 85, .int .i64 769], .agg #[.int .i64 85, .int .i64 770], .agg #[.int .i64 85, .int .i64 776], .agg #[.int .i64 89, .int .i64 769], .agg #[.int .i64 121, .int .i64 776], .agg #[.int .i64 65, .int .i64 69], .agg #[.int .i64 97, .int .i64 101], .agg #[.int .i64 115, .int .i64 115], undef, undef, undef, undef, undef, undef, undef, undef, undef, undef, undef, undef, undef, undef, undef, undef, undef, undef, undef, undef, undef], defers := [] } := by kernel_rfl
  rw [hfr, d33]
  refine hK _ _ ?_
  clear hfr hK hset
  have hb0 : Below w.heap.size w ((w.alloc (.cells Try.zeroCells90 90)).alloc (.cells cells0 90)) := ((Below.refl _ w).alloc (Nat.le_refl _) _).alloc (by simp) _
  have hZ0 : ((w.alloc (.cells Try.zeroCells90 90)).alloc (.cells cells0 90)).heap[w.heap.size]? = some (.cells Try.zeroCells90 90 (0, 0)) := by
    rw [Go.Lib.alloc_old _ _ _ (by simp)]
    exact heap_alloc_last w _
  have hT0 : TabW ((w.alloc (.cells Try.zeroCells90 90)).alloc (.cells cells0 90)) (w.heap.size + 1) 192 := by
    have h9 := World.rowIs_alloc (w.alloc (.cells Try.zeroCells90 90)) cells0 90 (fun i => .int .i64 (stg 192 i : Nat)) (fun i hi => stg_start i (by rw [cells0_size] at hi; exact hi))
    rw [World.size_alloc, cells0_size] at h9
    exact h9
  have HP0 : Hid (TabW ((w.alloc (.cells Try.zeroCells90 90)).alloc (.cells cells0 90)) (w.heap.size + 1) 192 ∧ ((w.alloc (.cells Try.zeroCells90 90)).alloc (.cells cells0 90)).heap[w.heap.size]? = some (.cells Try.zeroCells90 90 (0, 0)) ∧ Below w.heap.size w ((w.alloc (.cells Try.zeroCells90 90)).alloc (.cells cells0 90))) := Go.Lib.hid ⟨hT0, hZ0, hb0⟩
  clear hT0 hZ0 hb0
  generalize ((w.alloc (.cells Try.zeroCells90 90)).alloc (.cells cells0 90)) = W0 at HP0 ⊢
  go_wp2_with fail
  go_loopw [2] (fun cv wr => ∃ c : Nat, 192 ≤ c ∧ c ≤ 222 ∧ cv = .int .i64 (c : Nat) ∧ Hid (TabW wr (w.heap.size + 1) c ∧ wr.heap[w.heap.size]? = some (.cells Try.zeroCells90 90 (0, 0)) ∧ Below w.heap.size w wr)) (fun cv _ => 222 - (RowKit.intOf cv).toNat)
  case atStart => exact ⟨192, Nat.le_refl _, by omega, rfl, HP0⟩
  case round =>
    clear HP0
    obtain ⟨c, hc1, hc2, rfl, HP⟩ := hrel
    by_cases hlt : c < 222
    · obtain ⟨l1, l2⟩ := stg_low c hc1 hlt
      obtain ⟨p1, p2⟩ := bas_le c (by omega)
      have d0 := World.rowIs.cell HP.out.1 (i := c * 2) (by omega)
      have d1 := World.rowIs.cell HP.out.1 (i := c * 2 + 1) (by omega)
      rw [l1] at d0
      rw [l2] at d1
      have q0 : (0 : Int) ≤ (c : Int) := by omega
      have q1 : (c : Int) < 256 := by omega
      have q2 : (c : Int) ≤ 221 := by omega
      have hT2 := World.rowIs.alloc HP.out.1 (.cells #[.int .i64 ((basP c).1 : Nat), .int .i64 ((basP c).2 : Nat)] 89)
      have hZ2 : (wr.alloc (.cells #[.int .i64 ((basP c).1 : Nat), .int .i64 ((basP c).2 : Nat)] 89)).heap[w.heap.size]? = some (.cells Try.zeroCells90 90 (0, 0)) := by
        rw [Go.Lib.alloc_old _ _ _ (Array.getElem?_eq_some_iff.1 HP.out.2.1).1]
        exact HP.out.2.1
      have hB2 := HP.out.2.2.alloc HP.out.2.2.size (.cells #[.int .i64 ((basP c).1 : Nat), .int .i64 ((basP c).2 : Nat)] 89)
      have hlt1 := World.rowIs.lt HP.out.1
      have HT2 := Go.Lib.hid hT2
      have HZ2 := Go.Lib.hid hZ2
      have HB2 := Go.Lib.hid hB2
      clear hT2 hZ2 hB2 l1 l2
      by_cases h3 : 768 ≤ (basP c).2
      · have q3 : (768 : Int) ≤ ((basP c).2 : Int) := by omega
        have q4 : (c : Int) + 32 < 256 := by omega
        have e0 := World.rowIs.cell HP.out.1 (i := (c + 32) * 2) (by omega)
        have e1 := World.rowIs.cell HP.out.1 (i := (c + 32) * 2 + 1) (by omega)
        have f0 := World.rowIs.frozen HP.out.1 ((c + 32) * 2)
        have f1 := World.rowIs.frozen HP.out.1 ((c + 32) * 2 + 1)
        have hS := fun i => stg_put c i hc1 h3
        have hT3 := World.rowIs.set (World.rowIs.set HP.out.1 ((c + 32) * 2) (.int .i64 (((basP c).1 : Int) + 32))) ((c + 32) * 2 + 1) (.int .i64 ((basP c).2 : Nat))
        have hT4 : TabW (((wr.setCell ⟨w.heap.size + 1, (c + 32) * 2, none⟩ (.int .i64 (((basP c).1 : Int) + 32))).setCell ⟨w.heap.size + 1, (c + 32) * 2 + 1, none⟩ (.int .i64 ((basP c).2 : Nat))).alloc (.cells #[.int .i64 ((basP c).1 : Nat), .int .i64 ((basP c).2 : Nat)] 89)) (w.heap.size + 1) (c + 1) := by
          refine World.rowIs.congr (World.rowIs.alloc hT3 _) (fun i _ => ?_)
          rw [hS i]
          by_cases g1 : i = (c + 32) * 2 + 1
          · rw [if_pos g1, if_pos g1]
          · rw [if_neg g1, if_neg g1]
            by_cases g2 : i = (c + 32) * 2
            · rw [if_pos g2, if_pos g2]; rfl
            · rw [if_neg g2, if_neg g2]
        have hZ4 : (((wr.setCell ⟨w.heap.size + 1, (c + 32) * 2, none⟩ (.int .i64 (((basP c).1 : Int) + 32))).setCell ⟨w.heap.size + 1, (c + 32) * 2 + 1, none⟩ (.int .i64 ((basP c).2 : Nat))).alloc (.cells #[.int .i64 ((basP c).1 : Nat), .int .i64 ((basP c).2 : Nat)] 89)).heap[w.heap.size]? = some (.cells Try.zeroCells90 90 (0, 0)) := by
          rw [Go.Lib.alloc_old _ _ _ (by rw [World.size_setCell, World.size_setCell]; exact (Array.getElem?_eq_some_iff.1 HP.out.2.1).1), Below.heap_setCell _ _ _ _ (by simp), Below.heap_setCell _ _ _ _ (by simp)]
          exact HP.out.2.1
        have hB4 := ((HP.out.2.2.setCell (p := ⟨w.heap.size + 1, (c + 32) * 2, none⟩) (Nat.le_succ _) (.int .i64 (((basP c).1 : Int) + 32))).setCell (p := ⟨w.heap.size + 1, (c + 32) * 2 + 1, none⟩) (Nat.le_succ _) (.int .i64 ((basP c).2 : Nat))).alloc (by rw [World.size_setCell, World.size_setCell]; exact HP.out.2.2.size) (.cells #[.int .i64 ((basP c).1 : Nat), .int .i64 ((basP c).2 : Nat)] 89)
        have HP4 := Go.Lib.hid (And.intro hT4 (And.intro hZ4 hB4))
        clear h3 hS hT3 hT4 hZ4 hB4 HT2 HZ2 HB2
        go_wp2
        go_roundw
        case rel => exact ⟨c + 1, by omega, by omega, by go_num, HP4⟩
        case measure => simp [RowKit.intOf]; omega
      · have q3 : ¬ (768 : Int) ≤ ((basP c).2 : Int) := by omega
        have HS := Go.Lib.hid (fun i => stg_skip c i hc1 h3)
        clear h3
        go_wp2
        go_roundw
        case rel => exact ⟨c + 1, by omega, by omega, by go_num, Go.Lib.hid ⟨World.rowIs.congr HT2.out (fun i _ => by rw [HS.out i]), HZ2.out, HB2.out⟩⟩
        case measure => simp [RowKit.intOf]; omega
    · obtain rfl : c = 222 := by omega
      obtain ⟨cs, hcs, hcsz, hcc⟩ := HP.out.1
      have hcc2 : ∀ i, i < 512 → cs[i]? = some (.int .i64 (tabF i : Nat)) := fun i hi => by
        rw [hcc i hi]
        show some (Value.int .i64 (stg 222 i : Nat)) = _
        rw [stg_end i hi]
      have hne : w.heap.size ≠ w.heap.size + 1 := by omega
      have hone : cs.all (·.oneCell') = true := by
        rw [Array.all_eq_true]
        intro i hi
        have h9 := hcc2 i (by omega)
        rw [Array.getElem?_eq_getElem hi] at h9
        injection h9 with h9
        rw [h9]
        rfl
      go_upto_region 8 with (fail)
      refine wp_region_list ?_
      refine wpList_load_row rfl 90 (.tmp 1) rfl (w.heap.size + 1) rfl 90 cs (0, 0) _ hcs Try.underlying90 rfl (by rw [sizeT, hcsz]) ?_
      refine wpList_store_row rfl 90 (.tmp 0) (.tmp 55) rfl w.heap.size cs rfl rfl 90 Try.zeroCells90 HP.out.2.1 (by rw [sizeT, hcsz]) (by rw [hcsz]; kernel_rfl) hone (wpList_nil ?_)
      rename_i K2 hK2
      refine hK2 _ _ (wp_ret (bodyPost_ret (v := .agg cs) ?_ rfl ⟨cs, rfl, hcsz, hcc2, ?_⟩))
      · exact results_cell_row Try.results48 _ _ w.heap.size 90 cs (0, 0) _ rfl (setRow_heap _ _ _ _ _ _ HP.out.2.1) Try.underlying90 rfl (by rw [sizeT, hcsz])
      · exact below_setRow HP.out.2.2 (Nat.le_refl _) _
end Go.Proofs.Ytknbglcmjggkjaa
