/- Layer 3: readAround; objects of several cells under a range over an iterator. -/
import Derived.Test.YthjooopppidcfaaDoorKh
namespace Go.Proofs.YthjooopppidcfaaDoor
open Go.RowKit Go.Shelf Go.Lib
open Gc

attribute [local go_sem] Oper.semAt_some

/-- An object of several cells. -/
def ObjAt (W : World) (b : Nat) (c : Array Value) (t : TypeId) : Prop := W.heap[b]? = some (.cells c t (0, 0))
section
variable {W W' : World} {b : Nat} {c : Array Value} {t : TypeId}
theorem ObjAt.lt (h : ObjAt W b c t) : b < W.heap.size := (Array.getElem?_eq_some_iff.1 h).1
theorem ObjAt.new (W : World) (c : Array Value) (t : TypeId) : ObjAt (W.alloc (.cells c t)) W.heap.size c t := World.alloc_heap_new W _
theorem ObjAt.kept {row : Option Nat} (h : ObjAt W b c t) (hg : W.grownBy W' row) (hne : some b ≠ row) : ObjAt W' b c t := (hg.block b h.lt hne).trans h
theorem ObjAt.alloc (h : ObjAt W b c t) (o : Obj) : ObjAt (W.alloc o) b c t := h.kept (World.grownBy_alloc W o none) (by simp)
theorem ObjAt.below (h : ObjAt W b c t) (hb : Below W.heap.size W W') : ObjAt W' b c t := (hb.block b h.lt).trans h
theorem ObjAt.other (h : ObjAt W b c t) {C : Nat} (hne : b ≠ C) (i : Nat) (u : Value) : ObjAt (W.setCell ⟨C, i, none⟩ u) b c t := (Below.heap_setCell _ _ _ b hne).trans h
theorem ObjAt.get (h : ObjAt W b c t) {k : Nat} {v : Value} (hk : c[k]? = some v) : W.cell? ⟨b, k, none⟩ = some v := by
  have h' : W.heap[b]? = some (.cells c t (0, 0)) := h
  simp [World.cell?, h', hk]
theorem ObjAt.a0 {x y : Value} (h : ObjAt W b #[x, y] t) : W.cell? ⟨b, 0, none⟩ = some x := h.get rfl
theorem ObjAt.a1 {x y : Value} (h : ObjAt W b #[x, y] t) : W.cell? ⟨b, 1, none⟩ = some y := h.get rfl
theorem ObjAt.b0 {x y z : Value} (h : ObjAt W b #[x, y, z] t) : W.cell? ⟨b, 0, none⟩ = some x := h.get rfl
theorem ObjAt.b1 {x y z : Value} (h : ObjAt W b #[x, y, z] t) : W.cell? ⟨b, 1, none⟩ = some y := h.get rfl
theorem ObjAt.b2 {x y z : Value} (h : ObjAt W b #[x, y, z] t) : W.cell? ⟨b, 2, none⟩ = some z := h.get rfl
theorem ObjAt.frozen (h : ObjAt W b c t) (k : Nat) : W.frozen? ⟨b, k, none⟩ = false := by
  have h' : W.heap[b]? = some (.cells c t (0, 0)) := h
  simp [World.frozen?, h']
end
theorem OwnT.obj {T : TypeId → Bool} {B : Nat} {β : Type} {b : Nat} {t : TypeId} (ht : T t = false) (f : β → Array Value) : OwnT T B (fun s W => ObjAt W b (f s) t) :=
  fun _ _ _ _ hs hg hr => hs.kept hg (not_turned hs ht hr)

theorem boxed_below {W W' : World} {B : Nat} {t : TypeId} {v : Value} (h : Boxed W B t v) (hb : Below W.heap.size W W') : Boxed W' B t v := (hb.block B h.lt).trans h
theorem boxed_other {W : World} {B C : Nat} {t : TypeId} {v : Value} (h : Boxed W B t v) (hne : B ≠ C) (u : Value) : Boxed (W.setCell ⟨C, 0, none⟩ u) B t v := h.kept (grownBy_setCell' _ _ _) (by simp; exact hne)
theorem two_boxes {W : World} {B C : Nat} {t t' : TypeId} {u v : Value} (hB : Boxed W B t u) (hC : Boxed W C t' v) (hne : B ≠ C) (x y : Value) :
    Boxed ((W.setCell ⟨B, 0, none⟩ x).setCell ⟨C, 0, none⟩ y) B t x ∧ Boxed ((W.setCell ⟨B, 0, none⟩ x).setCell ⟨C, 0, none⟩ y) C t' y :=
  ⟨boxed_other (hB.set x) hne y, (boxed_other hC (Ne.symm hne) x).set y⟩

/-- The first error of a string and an offset. -/
def aerr (P : List Nat) (bad : List UInt8) (u : Int) : Int := if bad ≠ [] then 12 else if u < 0 ∨ (P.length : Int) < u then 2 else 0
theorem aerr_ok (P : List Nat) (u : Int) (hr : 0 ≤ u ∧ u ≤ P.length) : aerr P [] u = 0 := by
  unfold aerr
  rw [if_neg (fun h => h rfl), if_neg (by omega)]

/-- What readAround hands back with an error. -/
def AroundErr (c : Int) (w : World) (e : Ending) (w' : World) : Prop := e = .returned (.tuple #[.agg #[.slice none 0 0, .slice none 0 0], .int .i64 c]) ∧ Below w.heap.size w w'

set_option maxRecDepth 100000 in
set_option maxHeartbeats 4000000 in
theorem around_err {s : ByteArray} {P : List Nat} {bad : List UInt8} (h : Str s P bad) (hsm : P.length ≤ 1000) (u : Int) (w : World) (hT : Tabs w) (he : aerr P bad u ≠ 0) :
    Calls Tryd.prog 49 #[.string s, .int .i64 u] w (AroundErr (aerr P bad u) w) := by
  have hB0 : Below w.heap.size w (w.alloc (.cells #[.slice none 0 0, .slice none 0 0] 71)) := (Below.refl _ w).alloc (Nat.le_refl _) _
  have b4 := ObjAt.new w #[.slice none 0 0, .slice none 0 0] 71
  unfold aerr at he ⊢
  by_cases hb : bad = []
  · subst hb
    rw [if_neg (fun h => h rfl)] at he ⊢
    by_cases ho : u < 0 ∨ (P.length : Int) < u
    · rw [if_pos ho]
      have cR := read_ok h hsm _ (hT.below hB0)
      unfold ReadRet at cR
      clear h hsm he hT
      obtain ⟨n, hn⟩ : ∃ n, P.length = n := ⟨_, rfl⟩
      rw [hn] at ho
      simp only [hn] at cR
      clear hn
      rcases ho with h1 | h1
      · go_enter Tryd.func49, Tryd.ntmps49
        go_wp2_with (go_at_call 35; (with_reducible refine cR.mono ?_); rintro e w1 ⟨A, pc, cv, rfl, hPA, ⟨g, cap, cur, rfl, ho, hrw⟩, hb1⟩; clear hPA ho hrw; have r4 := b4.below hb1; have r5 := r4.alloc (.cells #[.slice A n pc, .slice (some ⟨g, 0, none⟩) (clu P).length cap] 71); have x0 := r5.a0; have x1 := r5.a1; have f0 := r5.frozen 0; have f1 := r5.frozen 1; have hz1 := hb1.size)
        refine bodyPost_ret (v := .tuple #[.agg #[.slice none 0 0, .slice none 0 0], .int .i64 2]) (by simp [results, Tryd.results49, go_sem, x0, x1]) rfl ⟨rfl, ?_⟩
        exact (((hB0.trans (hb1.mono (by simp))).alloc (by simp at hz1; omega) _).setCell (p := ⟨w.heap.size, 0, none⟩) (Nat.le_refl _) _).setCell (p := ⟨w.heap.size, 1, none⟩) (Nat.le_refl _) _
      · have h0 : ¬ u < 0 := by omega
        go_enter Tryd.func49, Tryd.ntmps49
        go_wp2_with (go_at_call 35; (with_reducible refine cR.mono ?_); rintro e w1 ⟨A, pc, cv, rfl, hPA, ⟨g, cap, cur, rfl, ho, hrw⟩, hb1⟩; clear hPA ho hrw; have r4 := b4.below hb1; have r5 := r4.alloc (.cells #[.slice A n pc, .slice (some ⟨g, 0, none⟩) (clu P).length cap] 71); have x0 := r5.a0; have x1 := r5.a1; have f0 := r5.frozen 0; have f1 := r5.frozen 1; have hz1 := hb1.size)
        refine bodyPost_ret (v := .tuple #[.agg #[.slice none 0 0, .slice none 0 0], .int .i64 2]) (by simp [results, Tryd.results49, go_sem, x0, x1]) rfl ⟨rfl, ?_⟩
        exact (((hB0.trans (hb1.mono (by simp))).alloc (by simp at hz1; omega) _).setCell (p := ⟨w.heap.size, 0, none⟩) (Nat.le_refl _) _).setCell (p := ⟨w.heap.size, 1, none⟩) (Nat.le_refl _) _
    · rw [if_neg ho] at he
      exact absurd rfl he
  · rw [if_pos hb]
    go_enter Tryd.func49, Tryd.ntmps49
    go_wp2_with (go_at_call 35; refine (read_bad h hb _).mono ?_; rintro e w1 ⟨rfl, hb1⟩; have r4 := b4.below hb1; have r5 := r4.alloc (.cells #[.slice none 0 0, .slice none 0 0] 71); have x0 := r5.a0; have x1 := r5.a1; have f0 := r5.frozen 0; have f1 := r5.frozen 1; have hz1 := hb1.size)
    refine bodyPost_ret (v := .tuple #[.agg #[.slice none 0 0, .slice none 0 0], .int .i64 12]) (by simp [results, Tryd.results49, go_sem, x0, x1]) rfl ⟨rfl, ?_⟩
    exact (((hB0.trans (hb1.mono (by simp))).alloc (by simp at hz1; omega) _).setCell (p := ⟨w.heap.size, 0, none⟩) (Nat.le_refl _) _).setCell (p := ⟨w.heap.size, 1, none⟩) (Nat.le_refl _) _

set_option maxRecDepth 100000 in
set_option maxHeartbeats 4000000 in
theorem around_ok {s : ByteArray} {P : List Nat} (h : Str s P []) (hsm : P.length ≤ 1000) (u : Int) (w : World) (hT : Tabs w) (hr : 0 ≤ u ∧ u ≤ P.length) :
    Calls Tryd.prog 49 #[.string s, .int .i64 u] w (ReadRet P w) := by
  have hB0 : Below w.heap.size w (w.alloc (.cells #[.slice none 0 0, .slice none 0 0] 71)) := (Below.refl _ w).alloc (Nat.le_refl _) _
  have b4 := ObjAt.new w #[.slice none 0 0, .slice none 0 0] 71
  have cR := read_ok h hsm _ (hT.below hB0)
  unfold ReadRet at cR
  unfold ReadRet
  clear h hsm hT
  obtain ⟨n, hn⟩ : ∃ n, P.length = n := ⟨_, rfl⟩
  rw [hn] at hr
  simp only [hn] at cR ⊢
  clear hn
  obtain ⟨h1, h2⟩ := hr
  have h3 : ¬ u < 0 := by omega
  have h4 : ¬ (n : Int) < u := by omega
  clear h1 h2
  go_enter Tryd.func49, Tryd.ntmps49
  go_wp2_with (go_at_call 35; (with_reducible refine cR.mono ?_); rintro e w1 ⟨A, pc, cv, rfl, hPA, ⟨g, cap, cur, rfl, hg, hR⟩, hb1⟩; have PA := Go.Lib.hid hPA; have HO := Go.Lib.hid hg; have HR := Go.Lib.hid hR; clear hPA hg hR; have r4 := b4.below hb1; have r5 := r4.alloc (.cells #[.slice A n pc, .slice (some ⟨g, 0, none⟩) (clu P).length cap] 71); have x0 := r5.a0; have x1 := r5.a1; have f0 := r5.frozen 0; have f1 := r5.frozen 1; have hz1 := hb1.size)
  have hz2 : w.heap.size + 1 ≤ w1.heap.size := by simpa using hz1
  have ho := Oth.set2 (w1.alloc (.cells #[.slice A n pc, .slice (some ⟨g, 0, none⟩) (clu P).length cap] 71)) w.heap.size 0 1 (.slice A n pc) (.slice (some ⟨g, 0, none⟩) (clu P).length cap)
  have hbA : Below w1.heap.size w1 (w1.alloc (.cells #[.slice A n pc, .slice (some ⟨g, 0, none⟩) (clu P).length cap] 71)) := (Below.refl _ w1).alloc (Nat.le_refl _) _
  have r4' := r4.alloc (.cells #[.slice A n pc, .slice (some ⟨g, 0, none⟩) (clu P).length cap] 71)
  refine bodyPost_ret (v := .tuple #[.agg #[.slice A n pc, .slice (some ⟨g, 0, none⟩) (clu P).length cap], .int .i64 0]) (by simp [results, Tryd.results49, go_sem, x0, x1]) rfl ⟨A, pc, _, rfl, ho.pat (PA.out.below hbA (Nat.le_refl _)) (by intro i; rw [r4'.a0]; simp), ?_, ?_⟩
  · have hg := HO.out
    have hR := HR.out
    have hne : g ≠ w.heap.size := by
      rintro rfl
      have r := r4
      unfold ObjAt at r
      rw [hg] at r
      cases r
    exact ho.cobj ((hbA.block g hR.1).trans hg) (hR.below hbA hR.1) hne
  · exact (((hB0.trans (hb1.mono (by simp))).alloc (by omega) _).setCell (p := ⟨w.heap.size, 0, none⟩) (Nat.le_refl _) _).setCell (p := ⟨w.heap.size, 1, none⟩) (Nat.le_refl _) _
end Go.Proofs.YthjooopppidcfaaDoor
