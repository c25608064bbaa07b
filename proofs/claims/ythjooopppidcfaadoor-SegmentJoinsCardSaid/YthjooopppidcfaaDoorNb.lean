/- Layer 3: Next. -/
import Derived.Test.YthjooopppidcfaaDoorNa
namespace Go.Proofs.YthjooopppidcfaaDoor
open Go.RowKit Go.Shelf Go.Lib
open Gc

attribute [local go_sem] Oper.semAt_some

/-- A token that is no space. -/
def NotSp (x : Tok) : Prop := x.1 ≠ 3
/-- Tokens that Next goes over. -/
def Pass (pre : List Tok) (u : Int) : Prop := ∀ y ∈ pre, y.1 = 3 ∨ (y.2.1 : Int) ≤ u
theorem Pass.nil (u : Int) : Pass [] u := fun _ h => by cases h
theorem Pass.snoc {pre : List Tok} {u : Int} (h : Pass pre u) {x : Tok} (hx : x.1 = 3 ∨ (x.2.1 : Int) ≤ u) : Pass (pre ++ [x]) u := by
  intro y hy
  rcases List.mem_append.1 hy with hy | hy
  · exact h y hy
  · obtain rfl : y = x := by simpa using hy
    exact hx
theorem Pass.next {l pre : List Tok} {x : Tok} {u : Int} (n : Nat) (h : Pass pre u) (h3 : x.1 ≠ 3) (hx : u < (x.2.1 : Int)) (hl : pre ++ [x] <+: l) : nextOf l u n = x.2.1 := by
  obtain ⟨t, rfl⟩ := hl
  rw [List.append_assoc]
  exact nextOf_at pre t x u n h h3 hx

set_option maxRecDepth 100000 in
set_option maxHeartbeats 4000000 in
theorem snext_err {s : ByteArray} {P : List Nat} {bad : List UInt8} (h : Str s P bad) (hsm : P.length ≤ 1000) (u : Int) (w : World) (hT : Tabs w) (he : aerr P bad u ≠ 0) :
    Calls Tryd.prog 24 #[.string s, .int .i64 u] w (Pair2 (.int .i64 0) (.int .i64 (aerr P bad u)) w) := by
  have hB0 : Below w.heap.size w (((w.alloc (.cells #[.int .i64 u] 3)).alloc (.cells #[.int .i64 0] 3)).alloc (.cells #[.int .i64 0] 27)) := (((Below.refl _ w).alloc (Nat.le_refl _) _).alloc (by simp) _).alloc (by simp; omega) _
  have cD := around_err h hsm u _ (hT.below hB0) he
  unfold AroundErr at cD
  have b4 := (Boxed.new (w.alloc (.cells #[.int .i64 u] 3)) 3 (.int .i64 0)).alloc (.cells #[.int .i64 0] 27)
  have b5 := Boxed.new ((w.alloc (.cells #[.int .i64 u] 3)).alloc (.cells #[.int .i64 0] 3)) 27 (.int .i64 0)
  rw [World.size_alloc] at b4
  rw [World.size_alloc, World.size_alloc] at b5
  generalize aerr P bad u = c at he cD ⊢
  have hc0 : (c == 0) = false := by simp [he]
  clear he
  go_enter Tryd.func24, Tryd.ntmps24
  go_wp2_with (go_at_call 49; (with_reducible refine cD.mono ?_); rintro e w1 ⟨rfl, hb1⟩; have r4 := (boxed_below b4 hb1).alloc (.cells #[.slice none 0 0, .slice none 0 0] 71); have r5 := (boxed_below b5 hb1).alloc (.cells #[.slice none 0 0, .slice none 0 0] 71); have c4 := r4.cell; have c5 := r5.cell; have f4 := r4.frozen; have f5 := r5.frozen; have hz1 := hb1.size)
  have q := two_boxes r4 r5 (show w.heap.size + 1 ≠ w.heap.size + 1 + 1 by omega) (.int .i64 0) (.int .i64 c)
  have q4 := q.1.cell
  have q5 := q.2.cell
  refine bodyPost_ret (v := .tuple #[.int .i64 0, .int .i64 c]) (by simp [results, Tryd.results24, go_sem, q4, q5]) rfl ⟨rfl, ?_⟩
  simp at hz1
  exact (((hB0.trans (hb1.mono (by simp; omega))).alloc (by omega) _).setCell (p := ⟨w.heap.size + 1, 0, none⟩) (by simp) _).setCell (p := ⟨w.heap.size + 1 + 1, 0, none⟩) (by simp; omega) _

set_option maxRecDepth 100000 in
set_option maxHeartbeats 4000000 in
theorem snext_in {s : ByteArray} {P : List Nat} (h : Str s P []) (hP : P.length ≤ 1000) (u : Int) (w : World) (hT : Tabs w) (hr : 0 ≤ u ∧ u ≤ P.length) :
    CallsIn Fence.wide 6 Tryd.prog 24 #[.string s, .int .i64 u] w (Pair2 (.int .i64 (nextOf (utok P) u P.length : Nat)) (.int .i64 0) w) := by
  have hB0 : Below w.heap.size w (((w.alloc (.cells #[.int .i64 u] 3)).alloc (.cells #[.int .i64 0] 3)).alloc (.cells #[.int .i64 0] 27)) := (((Below.refl _ w).alloc (Nat.le_refl _) _).alloc (by simp) _).alloc (by simp; omega) _
  have cD := around_ok h hP u _ (hT.below hB0) hr
  unfold ReadRet at cD
  have b3 := ((Boxed.new w 3 (.int .i64 u)).alloc (.cells #[.int .i64 0] 3)).alloc (.cells #[.int .i64 0] 27)
  have b4 := (Boxed.new (w.alloc (.cells #[.int .i64 u] 3)) 3 (.int .i64 0)).alloc (.cells #[.int .i64 0] 27)
  have b5 := Boxed.new ((w.alloc (.cells #[.int .i64 u] 3)).alloc (.cells #[.int .i64 0] 3)) 27 (.int .i64 0)
  rw [World.size_alloc] at b4
  rw [World.size_alloc, World.size_alloc] at b5
  have hul := utok_len P
  clear h hT hr
  refine callsIn_of_wp_marks Tryd.func24 rfl trivial ?_ rfl
  simp only [Tryd.ntmps24, List.size_toArray, List.length_cons, List.length_nil, Nat.reduceAdd, Nat.reduceSub, Array.replicate_succ, Array.replicate_zero, List.push_toArray, List.append_toArray, List.nil_append, List.cons_append]
  gi_wp2_with (first
    | (refine ⟨trivial, ?_⟩; gi_at_call 49; (with_reducible refine (callsIn_wide.2 cD).mono ?_); rintro e w1 ⟨A, pc, cv, rfl, hPA, ⟨g, cap, cur, rfl, ho, hrw⟩, hb1⟩; have PA := Go.Lib.hid hPA; have HO := Go.Lib.hid ho; have HR := Go.Lib.hid hrw; clear hPA ho hrw)
    | (refine ⟨trivial, ?_⟩; gi_at_call 37; refine (callsIn_wide.2 (seq_any _ _ _ _ _ _ _)).mono ?_; rintro e w2 ⟨rfl, rfl⟩))
  have hz := hb1.size
  simp only [World.size_alloc] at hz
  obtain ⟨ob, hob⟩ : ∃ ob : Obj, ob = .cells #[.slice A P.length pc, .slice (some ⟨g, 0, none⟩) (clu P).length cap] 71 := ⟨_, rfl⟩
  have r3 := ((boxed_below b3 hb1).alloc ob).alloc ob
  have r4 := ((boxed_below b4 hb1).alloc ob).alloc ob
  have r5 := ((boxed_below b5 hb1).alloc ob).alloc ob
  have bS := (ObjAt.new w1 #[.slice A P.length pc, .slice (some ⟨g, 0, none⟩) (clu P).length cap] 71).alloc ob
  have hB1 : Below w.heap.size w ((w1.alloc ob).alloc ob) := ((hB0.trans (hb1.mono (by simp; omega))).alloc (by omega) _).alloc (by simp; omega) _
  have hTx := txt_new2 (pc := pc) (cap := cap) ob PA.out HO.out HR.out
  subst hob
  clear b3 b4 b5 hB0 hb1 cD
  refine rangeT1 (T := TC) (Bs := w1.heap.size + 1) rfl (by decide) (gf := 59) (lb := #[.pointer (some ⟨w1.heap.size + 1, 0, none⟩)]) rfl trivial (enters_of Tryd.func59 (by kernel_rfl) rfl)
    (by simp) (toks_any 5 (by decide) (w1.heap.size + 1) P hP _ hTx)
    (fun pre W => Boxed W w.heap.size 3 (.int .i64 u) ∧ Boxed W (w.heap.size + 1) 3 (.int .i64 0) ∧ Boxed W (w.heap.size + 1 + 1) 27 (.int .i64 0) ∧ ObjAt W w1.heap.size #[.slice A P.length pc, .slice (some ⟨g, 0, none⟩) (clu P).length cap] 71 ∧ Pass pre u ∧ Below w.heap.size w W)
    (fun c pre W => (c = .ret ∧ ∃ pre' x, pre = pre' ++ [x] ∧ Pass pre' u ∧ NotSp x ∧ u < (x.2.1 : Int) ∧ Boxed W (w.heap.size + 1) 3 (.int .i64 (x.2.1 : Nat)) ∧ Boxed W (w.heap.size + 1 + 1) 27 (.int .i64 0)) ∧ Below w.heap.size w W)
    (OwnT.and (OwnT.boxed rfl _) (OwnT.and (OwnT.boxed rfl _) (OwnT.and (OwnT.boxed rfl _) (OwnT.and (OwnT.obj rfl _) (OwnT.and OwnT.pure (OwnT.below (Nat.le_refl _) (by simp; omega)))))))
    (fun c => OwnT.and (fun s A C row ⟨hc, pre', x, h1, h2, h3, h3', h4, h5⟩ hg hr => ⟨hc, pre', x, h1, h2, h3, h3', h4.kept hg (not_turned h4 rfl hr), h5.kept hg (not_turned h5 rfl hr)⟩) (OwnT.below (Nat.le_refl _) (by simp; omega)))
    ⟨r3, r4, r5, bS, Pass.nil u, hB1⟩ ?round ?done ?stop
  case round =>
    clear r3 r4 r5 bS hB1
    rintro l pre x W ⟨h3, h4, h5, hO, hle, hB⟩ hlt hl hlW
    unfold tokV
    obtain ⟨kd, f, t⟩ := x
    dsimp only
    have hW1 := hB.size
    have hBs : w1.heap.size + 1 < W.heap.size := by simp at hl; omega
    gi_wp2
    refine ⟨(KeepsOthers.alloc _ _).from _, Kpt.alloc hBs _, ⟨h3.alloc _, h4.alloc _, h5.alloc _, hO.alloc _, hle, hB.alloc hW1 _⟩, ?_⟩
    rintro V hg ⟨h3, h4, h5, hO, _, hBV⟩
    have hc0 : V.cell? ⟨W.heap.size, 0, none⟩ = some (.int .i64 kd) := hg.cell (by simp) (fun e => by simp at e; omega)
    have hc1 : V.cell? ⟨W.heap.size, 1, none⟩ = some (.int .i64 (f : Nat)) := hg.cell (by simp) (fun e => by simp at e; omega)
    have hc3 := h3.cell
    have hc4 := h4.cell
    have hc5 := h5.cell
    have hf4 := h4.frozen
    have hf5 := h5.frozen
    by_cases hk : kd = 3
    · subst hk
      gi_wp2
      exact ⟨KeepsFrom.refl _ _, Kpt.refl _, h3, h4, h5, hO, hle.snoc (.inl rfl), hBV⟩
    · have hkb := neB hk
      by_cases hx : u < (f : Int)
      · gi_wp2
        have q := two_boxes h4 h5 (show w.heap.size + 1 ≠ w.heap.size + 1 + 1 by omega) (.int .i64 (f : Nat)) (.int .i64 0)
        exact ⟨((KeepsOthers.setCell _ _ _).trans (KeepsOthers.setCell _ _ _)).from _, ⟨rfl, pre, (kd, f, t), rfl, hle, hk, hx, q.1, q.2⟩, (hBV.setCell (p := ⟨w.heap.size + 1, 0, none⟩) (by simp) _).setCell (p := ⟨w.heap.size + 1 + 1, 0, none⟩) (by simp; omega) _⟩
      · gi_wp2
        exact ⟨KeepsFrom.refl _ _, Kpt.refl _, h3, h4, h5, hO, hle.snoc (.inr (by show (f : Int) ≤ u; omega)), hBV⟩
  case done =>
    rintro D xs W hD rfl ⟨h3, h4, h5, hO, hle, hB⟩ hK
    have hc0 := hO.a0
    have hc4 := h4.cell
    have hc5 := h5.cell
    have hf4 := h4.frozen
    have hf5 := h5.frozen
    have q := two_boxes h4 h5 (show w.heap.size + 1 ≠ w.heap.size + 1 + 1 by omega) (.int .i64 (P.length : Nat)) (.int .i64 0)
    have hBQ := (hB.setCell (p := ⟨w.heap.size + 1, 0, none⟩) (by simp) (.int .i64 (P.length : Nat))).setCell (p := ⟨w.heap.size + 1 + 1, 0, none⟩) (by simp; omega) (.int .i64 0)
    have hK' := ((KeepsOthers.setCell W ⟨w.heap.size + 1, 0, none⟩ (.int .i64 (P.length : Nat))).trans (KeepsOthers.setCell _ ⟨w.heap.size + 1 + 1, 0, none⟩ (.int .i64 0))).same D _ hK rfl
    gi_wp2
    refine ⟨by simp, .inl ⟨_, _, rfl, run_takeDeferred hK', ?_⟩⟩
    have q4 := cell_kept q.1.cell (grownBy_putObj' _ D (.deferred none)) (fun r e => by cases e; exact ⟨_, hK', rfl⟩)
    have q5 := cell_kept q.2.cell (grownBy_putObj' _ D (.deferred none)) (fun r e => by cases e; exact ⟨_, hK', rfl⟩)
    refine ⟨.tuple #[.int .i64 (P.length : Nat), .int .i64 0], by simp [results, Tryd.results24, go_sem, q4, q5], by rw [nextOf_end _ u _ hle], hBQ.trans (belowK_b (w := w) (Nat.le_refl _) _ D _ _ (by simp at hD; omega) hK' rfl rfl)⟩
  case stop =>
    rintro D c pre W hD hpre ⟨⟨rfl, pre', x, rfl, hle, hx3, hx, h4, h5⟩, hB⟩ hK
    gi_wp2
    refine ⟨by simp, .inl ⟨_, _, rfl, run_takeDeferred hK, ?_⟩⟩
    have q4 := cell_kept h4.cell (grownBy_putObj' _ D (.deferred none)) (fun r e => by cases e; exact ⟨_, hK, rfl⟩)
    have q5 := cell_kept h5.cell (grownBy_putObj' _ D (.deferred none)) (fun r e => by cases e; exact ⟨_, hK, rfl⟩)
    refine ⟨.tuple #[.int .i64 (x.2.1 : Nat), .int .i64 0], by simp [results, Tryd.results24, go_sem, q4, q5], by rw [hle.next P.length hx3 hx hpre], hB.trans (belowK_b (w := w) (Nat.le_refl _) W D _ _ (by simp at hD; omega) hK rfl rfl)⟩
theorem snext_ok {s : ByteArray} {P : List Nat} (h : Str s P []) (hP : P.length ≤ 1000) (u : Int) (w : World) (hT : Tabs w) (hr : 0 ≤ u ∧ u ≤ P.length) :
    Calls Tryd.prog 24 #[.string s, .int .i64 u] w (Pair2 (.int .i64 (nextOf (utok P) u P.length : Nat)) (.int .i64 0) w) := callsIn_wide.1 (snext_in h hP u w hT hr)
end Go.Proofs.YthjooopppidcfaaDoor
