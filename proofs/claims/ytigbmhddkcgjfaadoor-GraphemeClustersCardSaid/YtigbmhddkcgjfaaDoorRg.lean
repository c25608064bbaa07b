import Derived.Test.YtigbmhddkcgjfaaDoorRe
namespace Go.Proofs.YtigbmhddkcgjfaaDoor
open Go.RowKit Go.Shelf
open Gc

set_option maxRecDepth 100000 in
set_option maxHeartbeats 2000000 in
theorem classes_nil (w : World) : Calls Tryd.prog 39 #[.slice none 0 0] w fun e w' => e = .returned (.slice none 0 0) ∧ w = w' := by
  go_enter Tryd.func39, Tryd.ntmps39
  go_wp2
  go_loop [3, 4] (fun o i => o = .slice none 0 0 ∧ i = .int .i64 0) (fun _ _ => 0)
  case atStart => exact ⟨rfl, rfl⟩
  case round =>
    obtain ⟨rfl, rfl⟩ := hrel
    go_wp2
    go_ret
    exact ⟨rfl, rfl⟩

theorem classes_any (ps : List Int) (base : Nat) (v : Value) (hl : ps.length ≤ 100000) (w : World) (h : Ints w base v ps) : Calls Tryd.prog 39 #[v] w (RowPost (ps.map classOf) w) := by
  rcases ints_cases h with ⟨rfl, rfl⟩ | ⟨g, cap, _, rfl, hC⟩
  · exact (classes_nil w).mono fun e w' ⟨h1, h2⟩ => by subst h1; subst h2; exact ⟨_, rfl, World.ownsRow_nil _ _ _ _, Below.refl _ _⟩
  · exact classes_in ps g cap ps.length rfl hl w hC

theorem row_base {W : World} {base base' : Nat} {e : TypeId} {size : Nat} {v : Value} {k : Nat} {xs : List Value} (hb : base' ≤ base) (h : W.ownsRow base e size v k xs) : W.ownsRow base' e size v k xs := by
  refine ⟨h.1, ?_⟩
  rcases h.2 with h0 | ⟨g, cap, cur, h1, h2, h3⟩
  · exact .inl h0
  · exact .inr ⟨g, cap, cur, h1, Nat.le_trans hb h2, h3⟩

theorem built_zero (w : World) (base : Nat) (hb : base ≤ w.heap.size) : (w.alloc (.cells #[.int .i64 0] 3)).ownsRow base 3 1 (.slice (some ⟨w.heap.size, 0, none⟩) 1 1) 1 [.int .i64 0] :=
  ⟨rfl, .inr ⟨w.heap.size, 1, _, rfl, hb, World.alloc_heap_new _ _, Nat.le_refl _, by decide, rfl, rfl⟩⟩

set_option maxRecDepth 100000 in
set_option maxHeartbeats 4000000 in
theorem refBounds_nil (w : World) (v : Value) (cP : Calls Tryd.prog 39 #[v] w (RowPost [] w)) : Calls Tryd.prog 19 #[v] w (RowPost [0] w) := by
  go_enter Tryd.func19, Tryd.ntmps19
  go_wp2_with (go_at_call 39; refine cP.mono ?_; rintro e w1 ⟨u, rfl, hu, hb1⟩; (obtain ⟨_, rfl⟩ | ⟨g, cap, hg, rfl, _⟩ := ints_cases hu))
  all_goals
    first
    | (go_loop [4, 5] (fun o i => o = .slice (some ⟨w1.heap.size, 0, none⟩) 1 1 ∧ i = .int .i64 1) (fun _ _ => 0)
       case atStart => exact ⟨rfl, rfl⟩
       case round =>
         obtain ⟨rfl, rfl⟩ := hrel
         go_wp2
         go_ret
         exact ⟨_, rfl, built_zero w1 _ hb1.size, hb1.alloc hb1.size _⟩)

set_option maxRecDepth 100000 in
set_option maxHeartbeats 4000000 in
theorem refBounds_in (cs : List Int) (c0 : Int) (rest : List Int) (hcs : cs = c0 :: rest) (v : Value) (hl : cs.length ≤ 100000) (w : World) (cP : Calls Tryd.prog 39 #[v] w (RowPost cs w)) : Calls Tryd.prog 19 #[v] w (RowPost (bounds cs) w) := by
  obtain ⟨i0, hi, hz0, hz1, hz2⟩ := info_parts info3
  have hbd : bounds cs = (0 :: inner [c0] 1 rest) ++ [((rest.length + 1 : Nat) : Int)] := by rw [hcs]; rfl
  rw [hbd]
  clear hbd
  have hst : rv cs 1 = [c0] := by rw [hcs]; rfl
  have hdr : cs.drop 1 = rest := by rw [hcs]; rfl
  have hnn : cs.length = rest.length + 1 := by rw [hcs]; rfl
  clear hcs
  generalize hT : (0 :: inner [c0] 1 rest : List Int) = TT'
  have HT := Go.Lib.hid hT
  have HS := Go.Lib.hid hst
  have HD := Go.Lib.hid hdr
  obtain ⟨n, hn⟩ : ∃ n, cs.length = n := ⟨_, rfl⟩
  have N := Go.Lib.hid hn
  have NN := Go.Lib.hid (hn.symm.trans hnn)
  have hn0 : 0 < n := by omega
  rw [hn] at hl
  clear hT hst hdr hn hnn
  go_enter Tryd.func19, Tryd.ntmps19
  go_wp2_with (go_at_call 39; refine cP.mono ?_; rintro e w1 ⟨u, rfl, hu, hb1⟩; have hcc := ints_cases hu; clear hu; replace hcc := hcc.resolve_left (fun h => by have := N.out; rw [h.1] at this; simp at this; omega); obtain ⟨g, cap, hg, rfl, hC⟩ := hcc; rw [N.out]; have HC := Go.Lib.hid hC; clear hC)
  have HB1 := Go.Lib.hid hb1
  have hw1 := hb1.size
  clear hb1 cP
  have hgw : g < w1.heap.size := HC.out.1
  go_loopw [4, 5] (fun o i wr => ∃ (a : Nat) (L : List Int), a + 1 ≤ n ∧ i = .int .i64 ((a : Int) + 1) ∧ L.length ≤ a + 1 ∧ Hid (Below w1.heap.size w1 wr) ∧ Hid (wr.ownsRow w1.heap.size 3 1 o L.length (L.map (Value.int .i64))) ∧ Hid (L ++ inner (rv cs (a + 1)) (a + 1) (cs.drop (a + 1)) = TT')) (fun _ i _ => n - (intOf i).toNat)
  case atStart =>
    exact ⟨0, [0], by omega, rfl, by simp, Go.Lib.hid ((Below.refl _ _).alloc (Nat.le_refl _) _), Go.Lib.hid (built_zero w1 _ (Nat.le_refl _)), Go.Lib.hid (by rw [HS.out, HD.out, ← HT.out]; rfl)⟩
  case round =>
    obtain ⟨a, L, ha, rfl, hLl, HB, HO, HL⟩ := hrel
    have hwr := HB.out.size
    by_cases hlt : a + 1 < n
    · have hkl : a + 1 < cs.length := by have := N.out; omega
      have cR := refB_any cs g cap n a N.out hl hlt wr (HC.out.below HB.out hgw) cs[a + 1] (List.getElem?_eq_getElem hkl)
      have hrv := rv_succ cs (a + 1) hkl
      have hdp := List.drop_eq_getElem_cons hkl
      generalize cs[a + 1] = b at cR hrv hdp
      have hst : L ++ ((if refB (rv cs (a + 1)) b then [((a + 1 : Nat) : Int)] else []) ++ inner (rv cs (a + 1 + 1)) (a + 1 + 1) (cs.drop (a + 1 + 1))) = TT' := by
        rw [← HL.out, hdp, hrv]; rfl
      clear hrv hdp
      have hib : ((a : Int) + 1 < (n : Int)) := by omega
      cases hbb : refB (rv cs (a + 1)) b with
      | true =>
        rw [hbb] at cR hst
        rw [if_pos rfl, ← List.append_assoc] at hst
        have HS2 := Go.Lib.hid hst
        clear hst hbb
        go_wp2_with (first
          | (go_at_call 40; (with_reducible refine cR.mono ?_); rintro e w2 ⟨rfl, hb2⟩; have HO1 := Go.Lib.hid (row_below HO.out hb2); have HB1 := Go.Lib.hid (HB.out.trans (hb2.mono HB.out.size)); have hw2 := HB1.out.size; clear hb2)
          | (at_builtin; refine wpList_append_own _ rfl _ _ 26 rfl w1.heap.size 3 i0 (.int .i64 0) 1 8 Tryd.underlying26 hi hz0 hz1 hz2 rfl (by decide) _ _ _ rfl (HO1.out.alloc _) ⟨w2.heap.size, 0, none⟩ 1 1 [.int .i64 ((a : Int) + 1)] rfl rfl (cell_one_new _ _ _) (by simp [Value.oneCell']) (by unfold maxLen; omega) (by omega) (by simp; omega) ?_; intro v' w3 hown' hgrow _; have HO3 := Go.Lib.hid hown'; have HB3 := Go.Lib.hid (below_append HB1.out hw2 HO1.out hgrow); clear hown' hgrow))
        go_roundw
        case rel => exact ⟨a + 1, L ++ [((a + 1 : Nat) : Int)], by omega, by go_num, by simp; omega, HB3, Go.Lib.hid (by rw [List.length_append, List.map_append]; exact HO3.out), HS2⟩
        case measure => simp [intOf]; omega
      | false =>
        rw [hbb] at cR hst
        rw [if_neg (by simp), List.nil_append] at hst
        have HS2 := Go.Lib.hid hst
        clear hst hbb
        go_wp2_with (go_at_call 40; (with_reducible refine cR.mono ?_); rintro e w2 ⟨rfl, hb2⟩; have HO1 := Go.Lib.hid (row_below HO.out hb2); have HB1 := Go.Lib.hid (HB.out.trans (hb2.mono HB.out.size)); have hw2 := HB1.out.size; clear hb2)
        go_roundw
        case rel => exact ⟨a + 1, L, by omega, by go_num, by omega, HB1, HO1, HS2⟩
        case measure => simp [intOf]; omega
    · obtain rfl : n = a + 1 := by omega
      have hLT : L = TT' := by
        have h1 := HL.out
        rw [List.drop_of_length_le (by rw [N.out]; omega)] at h1
        simpa [inner] using h1
      have HLT := Go.Lib.hid hLT
      clear hLT
      go_wp2_with (at_builtin; refine wpList_append_own _ rfl _ _ 26 rfl w1.heap.size 3 i0 (.int .i64 0) 1 8 Tryd.underlying26 hi hz0 hz1 hz2 rfl (by decide) _ _ _ rfl (HO.out.alloc _) ⟨wr.heap.size, 0, none⟩ 1 1 [.int .i64 ((a : Int) + 1)] rfl rfl (cell_one_new _ _ _) (by simp [Value.oneCell']) (by unfold maxLen; omega) (by omega) (by simp; omega) ?_; intro v' w3 hown' hgrow _; have HO3 := Go.Lib.hid hown'; have HB3 := Go.Lib.hid (below_append HB.out hwr HO.out hgrow); clear hown' hgrow)
      go_ret
      refine ⟨_, rfl, ?_, HB1.out.trans (HB3.out.mono hw1)⟩
      unfold Ints
      have := row_base hw1 HO3.out
      rw [← HLT.out, ← NN.out, List.length_append, List.map_append]
      exact this
theorem refBounds_any (ps : List Int) (base : Nat) (v : Value) (hl : ps.length ≤ 100000) (w : World) (h : Ints w base v ps) : Calls Tryd.prog 19 #[v] w (RowPost (bounds (ps.map classOf)) w) := by
  have cP := classes_any ps base v hl w h
  cases ps with
  | nil => exact refBounds_nil w v cP
  | cons p ps => exact refBounds_in _ (classOf p) (ps.map classOf) rfl v (by simpa using hl) w cP
end Go.Proofs.YtigbmhddkcgjfaaDoor
