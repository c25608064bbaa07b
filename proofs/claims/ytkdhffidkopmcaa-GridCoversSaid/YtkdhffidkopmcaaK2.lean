/- Layer 12: cell (36) and known (12). -/
import Derived.Test.YtkdhffidkopmcaaK1
import Derived.Test.YtkdhffidkopmcaaG3
namespace Go.Proofs.Ytkdhffidkopmcaa
open Go.RowKit Go.Lib Go.Maps
set_option linter.unusedVariables false

/-- What cell hands back. -/
def CellO (i : Int) (l : List Pr) (w : World) (e : Ending) (w' : World) : Prop := ∃ A c, e = .returned (.agg #[.int .i64 i, .slice A l.length c, .int .i64 0, .int .i64 0, .slice none 0 0, .slice none 0 0, .slice none 0 0]) ∧ l.length ≤ c ∧ c ≤ maxLen ∧ PrAt w' A l ∧ Below w.heap.size w w'
section
variable {W : World} {b : Nat} {t : TypeId} {v0 v1 v2 v3 v4 v5 v6 u0 u1 u2 u3 u4 u5 u6 : Value}
theorem ObjAt.t0 (h : ObjAt W b #[v0, v1, v2, v3, v4, v5, v6] t) : W.cell? ⟨b, 0, none⟩ = some v0 := h.get rfl
theorem ObjAt.t1 (h : ObjAt W b #[v0, v1, v2, v3, v4, v5, v6] t) : W.cell? ⟨b, 1, none⟩ = some v1 := h.get rfl
theorem ObjAt.t2 (h : ObjAt W b #[v0, v1, v2, v3, v4, v5, v6] t) : W.cell? ⟨b, 2, none⟩ = some v2 := h.get rfl
theorem ObjAt.t3 (h : ObjAt W b #[v0, v1, v2, v3, v4, v5, v6] t) : W.cell? ⟨b, 3, none⟩ = some v3 := h.get rfl
theorem ObjAt.t4 (h : ObjAt W b #[v0, v1, v2, v3, v4, v5, v6] t) : W.cell? ⟨b, 4, none⟩ = some v4 := h.get rfl
theorem ObjAt.t5 (h : ObjAt W b #[v0, v1, v2, v3, v4, v5, v6] t) : W.cell? ⟨b, 5, none⟩ = some v5 := h.get rfl
theorem ObjAt.t6 (h : ObjAt W b #[v0, v1, v2, v3, v4, v5, v6] t) : W.cell? ⟨b, 6, none⟩ = some v6 := h.get rfl
theorem set7 (h : ObjAt W b #[u0, u1, u2, u3, u4, u5, u6] t) (v0 v1 v2 v3 v4 v5 v6 : Value) :
    ObjAt (((((((W.setCell ⟨b, 0, none⟩ v0).setCell ⟨b, 1, none⟩ v1).setCell ⟨b, 2, none⟩ v2).setCell ⟨b, 3, none⟩ v3).setCell ⟨b, 4, none⟩ v4).setCell ⟨b, 5, none⟩ v5).setCell ⟨b, 6, none⟩ v6) b #[v0, v1, v2, v3, v4, v5, v6] t := by
  have h0 : ObjAt (W.setCell ⟨b, 0, none⟩ v0) b #[v0, u1, u2, u3, u4, u5, u6] t := h.set 0 v0
  have h1 : ObjAt ((W.setCell ⟨b, 0, none⟩ v0).setCell ⟨b, 1, none⟩ v1) b #[v0, v1, u2, u3, u4, u5, u6] t := h0.set 1 v1
  have h2 : ObjAt (((W.setCell ⟨b, 0, none⟩ v0).setCell ⟨b, 1, none⟩ v1).setCell ⟨b, 2, none⟩ v2) b #[v0, v1, v2, u3, u4, u5, u6] t := h1.set 2 v2
  have h3 : ObjAt ((((W.setCell ⟨b, 0, none⟩ v0).setCell ⟨b, 1, none⟩ v1).setCell ⟨b, 2, none⟩ v2).setCell ⟨b, 3, none⟩ v3) b #[v0, v1, v2, v3, u4, u5, u6] t := h2.set 3 v3
  have h4 : ObjAt (((((W.setCell ⟨b, 0, none⟩ v0).setCell ⟨b, 1, none⟩ v1).setCell ⟨b, 2, none⟩ v2).setCell ⟨b, 3, none⟩ v3).setCell ⟨b, 4, none⟩ v4) b #[v0, v1, v2, v3, v4, u5, u6] t := h3.set 4 v4
  have h5 : ObjAt ((((((W.setCell ⟨b, 0, none⟩ v0).setCell ⟨b, 1, none⟩ v1).setCell ⟨b, 2, none⟩ v2).setCell ⟨b, 3, none⟩ v3).setCell ⟨b, 4, none⟩ v4).setCell ⟨b, 5, none⟩ v5) b #[v0, v1, v2, v3, v4, v5, u6] t := h4.set 5 v5
  have h6 : ObjAt (((((((W.setCell ⟨b, 0, none⟩ v0).setCell ⟨b, 1, none⟩ v1).setCell ⟨b, 2, none⟩ v2).setCell ⟨b, 3, none⟩ v3).setCell ⟨b, 4, none⟩ v4).setCell ⟨b, 5, none⟩ v5).setCell ⟨b, 6, none⟩ v6) b #[v0, v1, v2, v3, v4, v5, v6] t := h5.set 6 v6
  exact h6
end
theorem pr_set {w : World} {A : Option Addr} {l : List Pr} (h : PrAt w A l) {b : Nat} (hne : ∀ a, A = some a → a.block ≠ b) (i : Nat) (u : Value) : PrAt (w.setCell ⟨b, i, none⟩ u) A l := by
  rcases h with h | ⟨g, o, rfl, hg, hc⟩
  · exact .inl h
  · have hb : (w.setCell ⟨b, i, none⟩ u).heap[g]? = w.heap[g]? := RowKit.Below.heap_setCell _ _ _ _ (hne _ rfl)
    have key : ∀ j, (w.setCell ⟨b, i, none⟩ u).cell? ⟨g, j, none⟩ = w.cell? ⟨g, j, none⟩ := fun j => by unfold World.cell?; rw [hb]
    refine .inr ⟨g, o, rfl, ?_, fun k hk => ?_⟩
    · obtain ⟨x, hx⟩ : ∃ x, w.heap[g]? = some x := ⟨_, Array.getElem?_eq_getElem hg⟩
      rw [hx] at hb
      exact (Array.getElem?_eq_some_iff.1 hb).1
    · rw [key, key]; exact hc k hk
set_option maxRecDepth 100000 in
set_option maxHeartbeats 8000000 in
theorem cell_gen (i s m : Int) (l1 l2 : List Pr) (w : World) (h1 : ∀ w', Calls Try.prog 61 #[.slice none 0 0, .int .i64 60, .int .i64 s, .int .i64 1] w' (SetO l1 w'))
    (h2 : ∀ A c w', l1.length ≤ c ∧ c ≤ maxLen → PrAt w' A l1 → Calls Try.prog 61 #[.slice A l1.length c, .int .i64 61, .int .i64 m, .int .i64 0] w' (SetO l2 w')) :
    Calls Try.prog 36 #[.int .i64 i, .int .i64 s, .int .i64 m] w (CellO i l2 w) := by
  have o1 := ObjAt.new w #[.int .i64 0, .slice none 0 0, .int .i64 0, .int .i64 0, .slice none 0 0, .slice none 0 0, .slice none 0 0] 74
  have hB : Below w.heap.size w (w.alloc (.cells #[.int .i64 0, .slice none 0 0, .int .i64 0, .int .i64 0, .slice none 0 0, .slice none 0 0, .slice none 0 0] 74)) := (Below.refl _ w).alloc (Nat.le_refl _) _
  have hlt : w.heap.size < (w.alloc (.cells #[.int .i64 0, .slice none 0 0, .int .i64 0, .int .i64 0, .slice none 0 0, .slice none 0 0, .slice none 0 0] 74)).heap.size := by simp
  have H1 := Go.Lib.hid h1
  have H2 := Go.Lib.hid h2
  have HB := Go.Lib.hid hB
  have O1 := Go.Lib.hid o1
  clear h1 h2 hB o1
  go_enter Try.func36, Try.ntmps36
  go_wp2_with fail
  generalize w.alloc (.cells #[.int .i64 0, .slice none 0 0, .int .i64 0, .int .i64 0, .slice none 0 0, .slice none 0 0, .slice none 0 0] 74) = W at *
  (with_reducible refine (H1.out _).mono ?_)
  rintro e w1 ⟨A, c, rfl, hc1, hc2, hP, _, k1⟩
  have C2 := Go.Lib.hid (H2.out A c w1 ⟨hc1, hc2⟩ hP)
  have K1 := Go.Lib.hid k1
  have hs1 := k1.size
  clear k1 hP
  generalize l1.length = n1 at *
  go_wp2_with fail
  (with_reducible refine C2.out.mono ?_)
  rintro e w2 ⟨A2, c2, rfl, hd1, hd2, hP2, hbk, k2⟩
  have hKW : Below W.heap.size W w2 := K1.out.trans (k2.mono hs1)
  have O2 := Go.Lib.hid (O1.out.below hKW)
  have hK := HB.out.trans (hKW.mono HB.out.size)
  have HK := Go.Lib.hid hK
  -- the properties lie in another block than the result
  have f0 := O2.out.frozen 0
  have f1 := O2.out.frozen 1
  have f2 := O2.out.frozen 2
  have f3 := O2.out.frozen 3
  have f4 := O2.out.frozen 4
  have f5 := O2.out.frozen 5
  have f6 := O2.out.frozen 6
  have s0 := O2.out.t0
  have s1 := O2.out.t1
  have s2 := O2.out.t2
  have s3 := O2.out.t3
  have s4 := O2.out.t4
  have s5 := O2.out.t5
  have s6 := O2.out.t6
  have O3 := Go.Lib.hid (set7 O2.out (.int .i64 i) (.slice A2 l2.length c2) (.int .i64 0) (.int .i64 0) (.slice none 0 0) (.slice none 0 0) (.slice none 0 0))
  have hne : ∀ a, A2 = some a → a.block ≠ w.heap.size := fun a ha => by have := hbk a ha; omega
  have HP3 := Go.Lib.hid (pr_set (pr_set (pr_set (pr_set (pr_set (pr_set (pr_set hP2 hne 0 (.int .i64 i)) hne 1 (.slice A2 l2.length c2)) hne 2 (.int .i64 0)) hne 3 (.int .i64 0)) hne 4 (.slice none 0 0)) hne 5 (.slice none 0 0)) hne 6 (.slice none 0 0))
  have HNE := Go.Lib.hid hne
  clear hP2 hbk k2 hne
  have HL2 := Go.Lib.hid (⟨hd1, hd2⟩ : l2.length ≤ c2 ∧ c2 ≤ maxLen)
  obtain ⟨n2, hn2⟩ : ∃ n2, n2 = l2.length := ⟨_, rfl⟩
  rw [← hn2] at O3 HP3 ⊢
  have HN2 := Go.Lib.hid hn2
  clear hn2 hd1 hd2
  go_wp2
  have t0 := O3.out.t0
  have t1 := O3.out.t1
  have t2 := O3.out.t2
  have t3 := O3.out.t3
  have t4 := O3.out.t4
  have t5 := O3.out.t5
  have t6 := O3.out.t6
  refine bodyPost_ret (v := .agg #[.int .i64 i, .slice A2 n2 c2, .int .i64 0, .int .i64 0, .slice none 0 0, .slice none 0 0, .slice none 0 0]) ?_ rfl ⟨A2, c2, by rw [HN2.out], HL2.out.1, HL2.out.2, HP3.out, ?_⟩
  · simp [results, Try.results36, go_sem, *]
  · exact ((((((HK.out.setCell (Nat.le_refl _) _).setCell (Nat.le_refl _) _).setCell (Nat.le_refl _) _).setCell (Nat.le_refl _) _).setCell (Nat.le_refl _) _).setCell (Nat.le_refl _) _).setCell (Nat.le_refl _) _
theorem cell_two (i s m : Int) (hs : (s == 1) = false) (hm : (m == 0) = false) (w : World) : Calls Try.prog 36 #[.int .i64 i, .int .i64 s, .int .i64 m] w (CellO i [(60, s), (61, m)] w) :=
  cell_gen i s m [(60, s)] _ w (fun w' => set_nil 60 s 1 hs w') (fun A c w' hc hA => set_one A c hc s m 0 hm w' hA)
theorem cell_none (i : Int) (w : World) : Calls Try.prog 36 #[.int .i64 i, .int .i64 1, .int .i64 0] w (CellO i [] w) :=
  cell_gen i 1 0 [] _ w (fun w' => set_same none 0 60 1 w') (fun A c w' hc hA => set_same A c 61 0 w')
end Go.Proofs.Ytkdhffidkopmcaa
