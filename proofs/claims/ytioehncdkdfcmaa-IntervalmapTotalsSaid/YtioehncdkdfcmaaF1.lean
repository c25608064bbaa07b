/- Layer 5: Find. -/
import Derived.Test.YtioehncdkdfcmaaW3
namespace Go.Proofs.Ytioehncdkdfcmaa
open Go.RowKit Go.Shelf Go.Lib Im

attribute [local go_sem] Oper.semAt_some
def fndV (P : List Rn) (v : Int) : Int := ((P.find? fun r => r.2.2 == v).map (·.1)).getD 0
def fndB (P : List Rn) (v : Int) : Bool := (P.find? fun r => r.2.2 == v).isSome
theorem fnd_none {P : List Rn} {v : Int} (h : ∀ x ∈ P, x.2.2 ≠ v) : fndV P v = 0 ∧ fndB P v = false := by
  have : P.find? (fun r => r.2.2 == v) = none := by
    rw [List.find?_eq_none]
    intro x hx
    simpa using h x hx
  unfold fndV fndB
  rw [this]; exact ⟨rfl, rfl⟩
theorem fnd_some {P pre : List Rn} {x : Rn} {v : Int} (hp : pre ++ [x] <+: P) (h : ∀ y ∈ pre, y.2.2 ≠ v) (hx : x.2.2 = v) : fndV P v = x.1 ∧ fndB P v = true := by
  obtain ⟨t, rfl⟩ := hp
  have : (pre ++ [x] ++ t).find? (fun r => r.2.2 == v) = some x := by
    rw [List.append_assoc, List.find?_append]
    have h1 : pre.find? (fun r => r.2.2 == v) = none := by
      rw [List.find?_eq_none]
      intro y hy
      simpa using h y hy
    rw [h1]
    simp [hx]
  unfold fndV fndB
  rw [this]; exact ⟨rfl, rfl⟩
def FindR (P : List Rn) (v : Int) (w : World) (e : Ending) (w' : World) : Prop := e = .returned (.tuple #[.int .i64 (fndV P v), .bool (fndB P v)]) ∧ Below w.heap.size w w'
theorem fnd_snoc {pre : List Rn} {x : Rn} {v : Int} (h : ∀ y ∈ pre, y.2.2 ≠ v) (hx : x.2.2 ≠ v) : ∀ y ∈ pre ++ [x], y.2.2 ≠ v := by
  intro y hy
  rw [List.mem_append, List.mem_singleton] at hy
  rcases hy with hy | rfl
  · exact h y hy
  · exact hx
set_option maxRecDepth 100000 in
set_option maxHeartbeats 8000000 in
theorem find_in (b g : Nat) (l : List Int) (f v : Int) (w : World) (h : MpG w b g (runs l)) (hl : l.length ≤ 400000) : CallsIn Fence.wide 6 Try.prog 20 #[.pointer (some ⟨b, 0, none⟩), .int .i64 f, .int .i64 v] w (FindR (partsW f l.length (runs l)) v w) := by
  have H := Go.Lib.hid h
  have hrl := runs_len l
  obtain ⟨W3, hW3⟩ : ∃ W3, W3 = ((w.alloc (.cells #[.int .i64 v] 3)).alloc (.cells #[.int .i64 0] 3)).alloc (.cells #[.bool false] 4) := ⟨_, rfl⟩
  have hb0 : Below w.heap.size w W3 := by rw [hW3]; exact (((Below.refl _ w).alloc (Nat.le_refl _) _).alloc (by simp) _).alloc (by simp; omega) _
  have s0 : W3.heap.size = w.heap.size + 3 := by rw [hW3]; simp
  have b5 : Boxed W3 w.heap.size 3 (.int .i64 v) := by rw [hW3]; exact ((Boxed.new w 3 (.int .i64 v)).alloc _).alloc _
  have b6 : Boxed W3 (w.heap.size + 1) 3 (.int .i64 0) := by
    rw [hW3]
    have := (Boxed.new (w.alloc (.cells #[.int .i64 v] 3)) 3 (.int .i64 0)).alloc (.cells #[.bool false] 4)
    rwa [World.size_alloc] at this
  have b7 : Boxed W3 (w.heap.size + 1 + 1) 4 (.bool false) := by
    rw [hW3]
    have := Boxed.new ((w.alloc (.cells #[.int .i64 v] 3)).alloc (.cells #[.int .i64 0] 3)) 4 (.bool false)
    rwa [World.size_alloc, World.size_alloc] at this
  have cL := len_any b (runs l) W3 (mpG_at (mpG_below h hb0))
  rw [lenR_runs] at cL
  have cW := fun t w' => within_any b f t w'
  obtain ⟨t, ht⟩ : ∃ t : Int, (l.length : Int) = t := ⟨_, rfl⟩
  rw [ht] at cL ⊢
  have HST := Go.Lib.hid (ch_sortT (runs_ok l).1)
  clear h
  rw [hW3] at cL
  refine callsIn_of_wp_marks Try.func20 rfl trivial ?_ rfl
  simp only [Try.ntmps20, List.size_toArray, List.length_cons, List.length_nil, Nat.reduceAdd, Nat.reduceSub, Array.replicate_succ, Array.replicate_zero, List.push_toArray, List.append_toArray, List.nil_append, List.cons_append]
  gi_wp2_with (first | (refine ⟨trivial, ?_⟩; gi_at_call 17; (with_reducible refine (callsIn_wide.2 cL).mono ?_); rintro e w1 ⟨rfl, hb1⟩) | (refine ⟨trivial, ?_⟩; gi_at_call 43; refine (callsIn_wide.2 (cW _ _)).mono ?_; rintro e w2 ⟨rfl, rfl⟩))
  rw [← hW3] at hb1
  clear hW3 cL
  have b5 := boxed_below b5 hb1
  have b6 := boxed_below b6 hb1
  have b7 := boxed_below b7 hb1
  have hb01 : Below w.heap.size w w1 := hb0.trans (hb1.mono hb0.size)
  have hs1 := hb1.size
  obtain ⟨A, c, g1, g2, g3, g4, g5⟩ := mpG_open (mpG_below H.out hb01)
  have G1 := Go.Lib.hid (show Boxed w1 b 84 _ from g1)
  have G2 := Go.Lib.hid g2
  clear hb1 hb0
  obtain ⟨N, hN⟩ : ∃ N, w1.heap.size = N := ⟨_, rfl⟩
  have bN := Boxed.alloc (Boxed.alloc (Boxed.alloc b5 (.cells #[.pointer (some ⟨b, 0, none⟩)] 25)) (.cells #[.int .i64 f] 3)) (.cells #[.int .i64 t] 3)
  have bM := Boxed.alloc (Boxed.alloc (Boxed.alloc b6 (.cells #[.pointer (some ⟨b, 0, none⟩)] 25)) (.cells #[.int .i64 f] 3)) (.cells #[.int .i64 t] 3)
  have bK := Boxed.alloc (Boxed.alloc (Boxed.alloc b7 (.cells #[.pointer (some ⟨b, 0, none⟩)] 25)) (.cells #[.int .i64 f] 3)) (.cells #[.int .i64 t] 3)
  have b1 := ((Boxed.new w1 25 (.pointer (some ⟨b, 0, none⟩))).alloc (.cells #[.int .i64 f] 3)).alloc (.cells #[.int .i64 t] 3)
  have b2 := (Boxed.new (w1.alloc (.cells #[.pointer (some ⟨b, 0, none⟩)] 25)) 3 (.int .i64 f)).alloc (.cells #[.int .i64 t] 3)
  have b3 := Boxed.new ((w1.alloc (.cells #[.pointer (some ⟨b, 0, none⟩)] 25)).alloc (.cells #[.int .i64 f] 3)) 3 (.int .i64 t)
  have hB1 : Below w1.heap.size w1 (((w1.alloc (.cells #[.pointer (some ⟨b, 0, none⟩)] 25)).alloc (.cells #[.int .i64 f] 3)).alloc (.cells #[.int .i64 t] 3)) := (((Below.refl _ w1).alloc (Nat.le_refl _) _).alloc (by simp) _).alloc (by simp; omega) _
  have hsz : (((w1.alloc (.cells #[.pointer (some ⟨b, 0, none⟩)] 25)).alloc (.cells #[.int .i64 f] 3)).alloc (.cells #[.int .i64 t] 3)).heap.size = w1.heap.size + 3 := by simp
  rw [World.size_alloc] at b2
  rw [World.size_alloc, World.size_alloc] at b3
  generalize (((w1.alloc (.cells #[.pointer (some ⟨b, 0, none⟩)] 25)).alloc (.cells #[.int .i64 f] 3)).alloc (.cells #[.int .i64 t] 3)) = W0 at bN bM bK b1 b2 b3 hB1 hsz ⊢
  rw [hN] at b1 b2 b3 hB1 hsz hs1 ⊢
  have hB0 : Below w.heap.size w W0 := hb01.trans (hB1.mono (by omega))
  have HB01 := Go.Lib.hid hb01
  have hbl := Go.Lib.hid (show b < w.heap.size by obtain ⟨_, _, q, _⟩ := H.out; exact q.lt)
  obtain ⟨A0, c0, f1, f2, _, _, _⟩ := mpG_open H.out
  have hAA : (A0 = A ∧ c0 = c) := by
    have e1 := (hb01.block b hbl.out).symm.trans g1
    have e2 := (show w.heap[b]? = _ from f1).symm.trans e1
    simp at e2
    exact e2
  obtain ⟨rfl, rfl⟩ := hAA
  have F1 := Go.Lib.hid f1
  have F2 := Go.Lib.hid f2
  clear f1 f2 g1 g2 G1 G2 cW hb01 hB1 b5 b6 b7
  refine rangeG1 (T := TZ) (Bs := N) (G := GW b N (N + 1) (N + 2) A0 (runs l).length c0 (runs l) f t) rfl (by decide) (gf := 51) (lb := #[.pointer (some ⟨N, 0, none⟩), .pointer (some ⟨N + 1, 0, none⟩), .pointer (some ⟨N + 2, 0, none⟩)]) rfl trivial (enters_of Try.func51 (by kernel_rfl) rfl)
    (by omega) (within_seq 5 (by decide) b N (N + 1) (N + 2) A0 (runs l).length c0 (runs l) f t rfl g3 g4 g5 HST.out (by omega) W0)
    (fun (pre : List Rn) W => Boxed W w.heap.size 3 (.int .i64 v) ∧ Boxed W (w.heap.size + 1) 3 (.int .i64 0) ∧ Boxed W (w.heap.size + 1 + 1) 4 (.bool false) ∧ (∀ y ∈ pre, y.2.2 ≠ v) ∧ Below w.heap.size w W ∧ Boxed W N 25 (.pointer (some ⟨b, 0, none⟩)) ∧ Boxed W (N + 1) 3 (.int .i64 f) ∧ Boxed W (N + 2) 3 (.int .i64 t))
    (fun c pre W => (c = .ret ∧ ∃ (pre' : List Rn) (x : Rn), pre = pre' ++ [x] ∧ (∀ y ∈ pre', y.2.2 ≠ v) ∧ x.2.2 = v ∧ Boxed W (w.heap.size + 1) 3 (.int .i64 x.1) ∧ Boxed W (w.heap.size + 1 + 1) 4 (.bool true)) ∧ Below w.heap.size w W)
    (fun _ W h => ⟨boxed_below F1.out h.2.2.2.2.1, F2.out.below h.2.2.2.2.1, h.2.2.2.2.2.1, h.2.2.2.2.2.2.1, h.2.2.2.2.2.2.2⟩)
    (OwnT.and (OwnT.boxed rfl _) (OwnT.and (OwnT.boxed rfl _) (OwnT.and (OwnT.boxed rfl _) (OwnT.and OwnT.pure (OwnT.and (OwnT.below (Nat.le_refl _) (by omega)) (OwnT.and (OwnT.boxed rfl (fun _ => _)) (OwnT.and (OwnT.boxed rfl (fun _ => _)) (OwnT.boxed rfl (fun _ => _)))))))))
    (fun c => OwnT.and (fun s A C row ⟨hc, pre', x, h1, h2, h3, h4, h5⟩ hg hr => ⟨hc, pre', x, h1, h2, h3, h4.kept hg (not_turned h4 rfl hr), h5.kept hg (not_turned h5 rfl hr)⟩) (OwnT.below (Nat.le_refl _) (by omega)))
    ⟨bN, bM, bK, fun _ h => (by cases h), hB0, b1, b2, b3⟩ ?round ?done ?stop
  case round =>
    clear bN bM bK b1 b2 b3 hB0
    rintro l' pre x W ⟨h3, h4, h5, hle, hB, j1, j2, j3⟩ hlt _ hl' hlW
    unfold rnV
    obtain ⟨x0, x1, x2⟩ := x
    dsimp only
    have hW1 := hB.size
    have hBs : N < W.heap.size := j1.lt
    gi_wp2
    refine ⟨(KeepsOthers.alloc _ _).from _, Kpt.alloc hBs _, ⟨h3.alloc _, h4.alloc _, h5.alloc _, hle, hB.alloc hW1 _, j1.alloc _, j2.alloc _, j3.alloc _⟩, ?_⟩
    rintro V hg ⟨h3, h4, h5, _, hBV, j1, j2, j3⟩
    have hcx : V.cell? ⟨W.heap.size, 0, none⟩ = some (.int .i64 x0) := hg.cell (by simp) (fun e => by simp at e; omega)
    have hcx2 : V.cell? ⟨W.heap.size, 2, none⟩ = some (.int .i64 x2) := hg.cell (by simp) (fun e => by simp at e; omega)
    have hc3 := h3.cell
    have hc4 := h4.cell
    have hc5 := h5.cell
    have hf4 := h4.frozen
    have hf5 := h5.frozen
    by_cases hx : x2 = v
    · have hxb : (x2 == v) = true := by simpa using hx
      have HX := Go.Lib.hid hx
      clear hx
      gi_wp2
      have q := two_boxes h4 h5 (show w.heap.size + 1 ≠ w.heap.size + 1 + 1 by omega) (.int .i64 x0) (.bool true)
      exact ⟨((KeepsOthers.setCell _ _ _).trans (KeepsOthers.setCell _ _ _)).from _, ⟨rfl, pre, (x0, x1, x2), rfl, hle, HX.out, q.1, q.2⟩, (hBV.setCell (p := ⟨w.heap.size + 1, 0, none⟩) (by simp) _).setCell (p := ⟨w.heap.size + 1 + 1, 0, none⟩) (by simp; omega) _⟩
    · have hxb : (x2 == v) = false := by simpa using hx
      have HX := Go.Lib.hid hx
      clear hx
      gi_wp2
      exact ⟨KeepsFrom.refl _ _, Kpt.refl _, h3, h4, h5, fnd_snoc hle HX.out, hBV, j1, j2, j3⟩
  case done =>
    rintro D xs W hD rfl ⟨h3, h4, h5, hle, hB, _, _, _⟩ hK
    have hc3 := h3.cell
    have hc4 := h4.cell
    have hc5 := h5.cell
    have hf4 := h4.frozen
    have hf5 := h5.frozen
    have q := two_boxes h4 h5 (show w.heap.size + 1 ≠ w.heap.size + 1 + 1 by omega) (.int .i64 0) (.bool false)
    have hBQ := (hB.setCell (p := ⟨w.heap.size + 1, 0, none⟩) (by simp) (.int .i64 0)).setCell (p := ⟨w.heap.size + 1 + 1, 0, none⟩) (by simp; omega) (.bool false)
    have hK' := ((KeepsOthers.setCell W ⟨w.heap.size + 1, 0, none⟩ (.int .i64 0)).trans (KeepsOthers.setCell _ ⟨w.heap.size + 1 + 1, 0, none⟩ (.bool false))).same D _ hK rfl
    have HLE := Go.Lib.hid (fnd_none hle)
    clear hle
    gi_wp2
    refine ⟨by simp, .inl ⟨_, _, rfl, run_takeDeferred hK', ?_⟩⟩
    have q4 := cell_kept q.1.cell (grownBy_putObj' _ D (.deferred none)) (fun r e => by cases e; exact ⟨_, hK', rfl⟩)
    have q5 := cell_kept q.2.cell (grownBy_putObj' _ D (.deferred none)) (fun r e => by cases e; exact ⟨_, hK', rfl⟩)
    refine ⟨.tuple #[.int .i64 0, .bool false], by simp [results, Try.results20, go_sem, q4, q5], by rw [HLE.out.1, HLE.out.2], hBQ.trans (belowK_b (w := w) (Nat.le_refl _) _ D _ _ (by omega) hK' rfl rfl)⟩
  case stop =>
    rintro D c pre W hD hpre ⟨⟨rfl, pre', x, rfl, hle, hx, h4, h5⟩, hB⟩ hK
    have HF := Go.Lib.hid (fnd_some hpre hle hx)
    clear hle hx hpre
    gi_wp2
    refine ⟨by simp, .inl ⟨_, _, rfl, run_takeDeferred hK, ?_⟩⟩
    have q4 := cell_kept h4.cell (grownBy_putObj' _ D (.deferred none)) (fun r e => by cases e; exact ⟨_, hK, rfl⟩)
    have q5 := cell_kept h5.cell (grownBy_putObj' _ D (.deferred none)) (fun r e => by cases e; exact ⟨_, hK, rfl⟩)
    refine ⟨.tuple #[.int .i64 x.1, .bool true], by simp [results, Try.results20, go_sem, q4, q5], by rw [HF.out.1, HF.out.2], hB.trans (belowK_b (w := w) (Nat.le_refl _) W D _ _ (by omega) hK rfl rfl)⟩
theorem find_any (b g : Nat) (l : List Int) (f v : Int) (w : World) (h : MpG w b g (runs l)) (hl : l.length ≤ 400000) : Calls Try.prog 20 #[.pointer (some ⟨b, 0, none⟩), .int .i64 f, .int .i64 v] w (FindR (partsW f l.length (runs l)) v w) := callsIn_wide.1 (find_in b g l f v w h hl)
end Go.Proofs.Ytioehncdkdfcmaa
