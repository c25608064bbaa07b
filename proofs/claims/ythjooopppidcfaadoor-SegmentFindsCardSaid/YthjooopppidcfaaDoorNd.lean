/- Layer 3: At. -/
import Derived.Test.YthjooopppidcfaaDoorNb
namespace Go.Proofs.YthjooopppidcfaaDoor
open Go.RowKit Go.Shelf Go.Lib
open Gc

attribute [local go_sem] Oper.semAt_some

theorem ObjAt.set {W : World} {b : Nat} {c : Array Value} {t : TypeId} (h : ObjAt W b c t) (k : Nat) (v : Value) : ObjAt (W.setCell ⟨b, k, none⟩ v) b (c.modify k (fun _ => v)) t := by
  obtain ⟨hlt, hk⟩ := Array.getElem?_eq_some_iff.1 h
  show (W.heap.modify b _)[b]? = _
  rw [Array.getElem?_eq_getElem (by rw [Array.size_modify]; exact hlt), Array.getElem_modify_self, hk]
  rfl
theorem ObjAt.set3 {W : World} {b : Nat} {t : TypeId} {x y z : Value} (h : ObjAt W b #[x, y, z] t) (u v s : Value) :
    ObjAt (((W.setCell ⟨b, 0, none⟩ u).setCell ⟨b, 1, none⟩ v).setCell ⟨b, 2, none⟩ s) b #[u, v, s] t := ((h.set 0 u).set 1 v).set 2 s

def NoUnit (pre : List Tok) (u : Int) : Prop := ∀ y ∈ pre, hasUnit u y = false
theorem NoUnit.nil (u : Int) : NoUnit [] u := fun _ h => by cases h
theorem NoUnit.snoc {pre : List Tok} {u : Int} (h : NoUnit pre u) {x : Tok} (hx : hasUnit u x = false) : NoUnit (pre ++ [x]) u := by
  intro y hy
  rcases List.mem_append.1 hy with hy | hy
  · exact h y hy
  · obtain rfl : y = x := by simpa using hy
    exact hx
/-- What At hands back. -/
def atV (l : List Tok) (u : Int) : Value × Int := match l.find? (hasUnit u) with
  | some x => (tokV x, 0)
  | none => (tokV (0, 0, 0), 2)
theorem atV_none {l : List Tok} {u : Int} (h : NoUnit l u) : atV l u = (tokV (0, 0, 0), 2) := by
  unfold atV
  rw [List.find?_eq_none.2 (fun x hx => by rw [h x hx]; simp)]
theorem atV_some {l pre : List Tok} {x : Tok} {u : Int} (h : NoUnit pre u) (hx : hasUnit u x = true) (hl : pre ++ [x] <+: l) : atV l u = (tokV x, 0) := by
  obtain ⟨t, rfl⟩ := hl
  unfold atV
  rw [List.append_assoc, List.find?_append, List.find?_eq_none.2 (fun y hy => by rw [h y hy]; simp)]
  simp [hx]

theorem at_sets {W : World} {b b' : Nat} {x y z c : Value} (h4 : ObjAt W b #[x, y, z] 34) (h5 : Boxed W b' 27 c) (hne : b ≠ b') (u v s e : Value) :
    ObjAt ((((W.setCell ⟨b, 0, none⟩ u).setCell ⟨b, 1, none⟩ v).setCell ⟨b, 2, none⟩ s).setCell ⟨b', 0, none⟩ e) b #[u, v, s] 34 ∧
    Boxed ((((W.setCell ⟨b, 0, none⟩ u).setCell ⟨b, 1, none⟩ v).setCell ⟨b, 2, none⟩ s).setCell ⟨b', 0, none⟩ e) b' 27 e := by
  have h5' : ObjAt W b' #[c] 27 := h5
  have k5 : Boxed (((W.setCell ⟨b, 0, none⟩ u).setCell ⟨b, 1, none⟩ v).setCell ⟨b, 2, none⟩ s) b' 27 c := ((h5'.other (Ne.symm hne) 0 u).other (Ne.symm hne) 1 v).other (Ne.symm hne) 2 s
  exact ⟨(h4.set3 u v s).other hne 0 e, k5.set e⟩
theorem sets_keep (W : World) (b b' : Nat) (u v s e : Value) : KeepsOthers W ((((W.setCell ⟨b, 0, none⟩ u).setCell ⟨b, 1, none⟩ v).setCell ⟨b, 2, none⟩ s).setCell ⟨b', 0, none⟩ e) :=
  (((KeepsOthers.setCell _ _ _).trans (KeepsOthers.setCell _ _ _)).trans (KeepsOthers.setCell _ _ _)).trans (KeepsOthers.setCell _ _ _)
theorem sets_below {n : Nat} {w0 W : World} (h : Below n w0 W) {b b' : Nat} (hb : n ≤ b) (hb' : n ≤ b') (u v s e : Value) : Below n w0 ((((W.setCell ⟨b, 0, none⟩ u).setCell ⟨b, 1, none⟩ v).setCell ⟨b, 2, none⟩ s).setCell ⟨b', 0, none⟩ e) :=
  (((h.setCell (p := ⟨b, 0, none⟩) hb _).setCell (p := ⟨b, 1, none⟩) hb _).setCell (p := ⟨b, 2, none⟩) hb _).setCell (p := ⟨b', 0, none⟩) hb' _

set_option maxRecDepth 100000 in
set_option maxHeartbeats 4000000 in
theorem sat_bad {s : ByteArray} {P : List Nat} {bad : List UInt8} (h : Str s P bad) (hb : bad ≠ []) (u : Int) (w : World) :
    Calls Tryd.prog 23 #[.string s, .int .i64 u] w (Pair2 (tokV (0, 0, 0)) (.int .i64 12) w) := by
  have hB0 : Below w.heap.size w (((w.alloc (.cells #[.int .i64 u] 3)).alloc (.cells #[.int .i64 0, .int .i64 0, .int .i64 0] 34)).alloc (.cells #[.int .i64 0] 27)) := (((Below.refl _ w).alloc (Nat.le_refl _) _).alloc (by simp) _).alloc (by simp; omega) _
  have b4 := (ObjAt.new (w.alloc (.cells #[.int .i64 u] 3)) #[.int .i64 0, .int .i64 0, .int .i64 0] 34).alloc (.cells #[.int .i64 0] 27)
  have b5 := Boxed.new ((w.alloc (.cells #[.int .i64 u] 3)).alloc (.cells #[.int .i64 0, .int .i64 0, .int .i64 0] 34)) 27 (.int .i64 0)
  rw [World.size_alloc] at b4
  rw [World.size_alloc, World.size_alloc] at b5
  go_enter Tryd.func23, Tryd.ntmps23
  go_wp2_with (go_at_call 35; refine (read_bad h hb _).mono ?_; rintro e w1 ⟨rfl, hb1⟩; have r4 := (b4.below hb1).alloc (.cells #[.slice none 0 0, .slice none 0 0] 71); have r5 := (boxed_below b5 hb1).alloc (.cells #[.slice none 0 0, .slice none 0 0] 71); have c40 := r4.b0; have c41 := r4.b1; have c42 := r4.b2; have f40 := r4.frozen 0; have f41 := r4.frozen 1; have f42 := r4.frozen 2; have c5 := r5.cell; have f5 := r5.frozen; have hz1 := hb1.size)
  have q := at_sets r4 r5 (show w.heap.size + 1 ≠ w.heap.size + 1 + 1 by omega) (.int .i64 0) (.int .i64 0) (.int .i64 0) (.int .i64 12)
  have q0 := q.1.b0
  have q1 := q.1.b1
  have q2 := q.1.b2
  have q5 := q.2.cell
  simp at hz1
  refine bodyPost_ret (v := .tuple #[tokV (0, 0, 0), .int .i64 12]) (by unfold tokV; simp [results, Tryd.results23, go_sem, q0, q1, q2, q5]) rfl ⟨rfl, ?_⟩
  exact sets_below ((hB0.trans (hb1.mono (by simp; omega))).alloc (by omega) _) (by omega) (by omega) _ _ _ _

set_option maxRecDepth 100000 in
set_option maxHeartbeats 4000000 in
theorem sat_in {s : ByteArray} {P : List Nat} (h : Str s P []) (hP : P.length ≤ 1000) (u : Int) (w : World) (hT : Tabs w) :
    CallsIn Fence.wide 6 Tryd.prog 23 #[.string s, .int .i64 u] w (Pair2 (atV (utok P) u).1 (.int .i64 (atV (utok P) u).2) w) := by
  have hB0 : Below w.heap.size w (((w.alloc (.cells #[.int .i64 u] 3)).alloc (.cells #[.int .i64 0, .int .i64 0, .int .i64 0] 34)).alloc (.cells #[.int .i64 0] 27)) := (((Below.refl _ w).alloc (Nat.le_refl _) _).alloc (by simp) _).alloc (by simp; omega) _
  have cD := read_ok h hP _ (hT.below hB0)
  unfold ReadRet at cD
  have b3 := ((Boxed.new w 3 (.int .i64 u)).alloc (.cells #[.int .i64 0, .int .i64 0, .int .i64 0] 34)).alloc (.cells #[.int .i64 0] 27)
  have b4 := (ObjAt.new (w.alloc (.cells #[.int .i64 u] 3)) #[.int .i64 0, .int .i64 0, .int .i64 0] 34).alloc (.cells #[.int .i64 0] 27)
  have b5 := Boxed.new ((w.alloc (.cells #[.int .i64 u] 3)).alloc (.cells #[.int .i64 0, .int .i64 0, .int .i64 0] 34)) 27 (.int .i64 0)
  rw [World.size_alloc] at b4
  rw [World.size_alloc, World.size_alloc] at b5
  have hul := utok_len P
  clear h hT
  refine callsIn_of_wp_marks Tryd.func23 rfl trivial ?_ rfl
  simp only [Tryd.ntmps23, List.size_toArray, List.length_cons, List.length_nil, Nat.reduceAdd, Nat.reduceSub, Array.replicate_succ, Array.replicate_zero, List.push_toArray, List.append_toArray, List.nil_append, List.cons_append]
  gi_wp2_with (first
    | (refine ⟨trivial, ?_⟩; gi_at_call 35; (with_reducible refine (callsIn_wide.2 cD).mono ?_); rintro e w1 ⟨A, pc, cv, rfl, hPA, ⟨g, cap, cur, rfl, ho, hrw⟩, hb1⟩; have PA := Go.Lib.hid hPA; have HO := Go.Lib.hid ho; have HR := Go.Lib.hid hrw; clear hPA ho hrw)
    | (refine ⟨trivial, ?_⟩; gi_at_call 37; refine (callsIn_wide.2 (seq_any _ _ _ _ _ _ _)).mono ?_; rintro e w2 ⟨rfl, rfl⟩))
  have hz := hb1.size
  simp only [World.size_alloc] at hz
  obtain ⟨ob, hob⟩ : ∃ ob : Obj, ob = .cells #[.slice A P.length pc, .slice (some ⟨g, 0, none⟩) (clu P).length cap] 71 := ⟨_, rfl⟩
  have r3 := ((boxed_below b3 hb1).alloc ob).alloc ob
  have r4 := ((b4.below hb1).alloc ob).alloc ob
  have r5 := ((boxed_below b5 hb1).alloc ob).alloc ob
  have hB1 : Below w.heap.size w ((w1.alloc ob).alloc ob) := ((hB0.trans (hb1.mono (by simp; omega))).alloc (by omega) _).alloc (by simp; omega) _
  have hTx := txt_new2 (pc := pc) (cap := cap) ob PA.out HO.out HR.out
  subst hob
  clear b3 b4 b5 hB0 hb1 cD
  refine rangeT1 (T := TC) (Bs := w1.heap.size + 1) rfl (by decide) (gf := 59) (lb := #[.pointer (some ⟨w1.heap.size + 1, 0, none⟩)]) rfl trivial (enters_of Tryd.func59 (by kernel_rfl) rfl)
    (by simp) (toks_any 5 (by decide) (w1.heap.size + 1) P hP _ hTx)
    (fun pre W => Boxed W w.heap.size 3 (.int .i64 u) ∧ ObjAt W (w.heap.size + 1) #[.int .i64 0, .int .i64 0, .int .i64 0] 34 ∧ Boxed W (w.heap.size + 1 + 1) 27 (.int .i64 0) ∧ NoUnit pre u ∧ Below w.heap.size w W)
    (fun c pre W => (c = .ret ∧ ∃ pre' x, pre = pre' ++ [x] ∧ NoUnit pre' u ∧ hasUnit u x = true ∧ ObjAt W (w.heap.size + 1) #[.int .i64 x.1, .int .i64 (x.2.1 : Nat), .int .i64 (x.2.2 : Nat)] 34 ∧ Boxed W (w.heap.size + 1 + 1) 27 (.int .i64 0)) ∧ Below w.heap.size w W)
    (OwnT.and (OwnT.boxed rfl _) (OwnT.and (OwnT.obj rfl _) (OwnT.and (OwnT.boxed rfl _) (OwnT.and OwnT.pure (OwnT.below (Nat.le_refl _) (by simp; omega))))))
    (fun c => OwnT.and (fun s A C row ⟨hc, pre', x, h1, h2, h3, h4, h5⟩ hg hr => ⟨hc, pre', x, h1, h2, h3, h4.kept hg (not_turned h4 rfl hr), h5.kept hg (not_turned h5 rfl hr)⟩) (OwnT.below (Nat.le_refl _) (by simp; omega)))
    ⟨r3, r4, r5, NoUnit.nil u, hB1⟩ ?round ?done ?stop
  case round =>
    clear r3 r4 r5 hB1
    rintro l pre x W ⟨h3, h4, h5, hle, hB⟩ hlt hl hlW
    unfold tokV
    obtain ⟨kd, f, t⟩ := x
    dsimp only
    have hW1 := hB.size
    have hBs : w1.heap.size + 1 < W.heap.size := by simp at hl; omega
    gi_wp2
    refine ⟨(KeepsOthers.alloc _ _).from _, Kpt.alloc hBs _, ⟨h3.alloc _, h4.alloc _, h5.alloc _, hle, hB.alloc hW1 _⟩, ?_⟩
    rintro V hg ⟨h3, h4, h5, _, hBV⟩
    have hc0 : V.cell? ⟨W.heap.size, 0, none⟩ = some (.int .i64 kd) := hg.cell (by simp) (fun e => by simp at e; omega)
    have hc1 : V.cell? ⟨W.heap.size, 1, none⟩ = some (.int .i64 (f : Nat)) := hg.cell (by simp) (fun e => by simp at e; omega)
    have hc2 : V.cell? ⟨W.heap.size, 2, none⟩ = some (.int .i64 (t : Nat)) := hg.cell (by simp) (fun e => by simp at e; omega)
    have hc3 := h3.cell
    have hc40 := h4.b0
    have hc41 := h4.b1
    have hc42 := h4.b2
    have hf40 := h4.frozen 0
    have hf41 := h4.frozen 1
    have hf42 := h4.frozen 2
    have hc5 := h5.cell
    have hf5 := h5.frozen
    by_cases hx : (f : Int) ≤ u
    · by_cases hy : u < (t : Int)
      · gi_wp2
        have q := at_sets h4 h5 (show w.heap.size + 1 ≠ w.heap.size + 1 + 1 by omega) (.int .i64 kd) (.int .i64 (f : Nat)) (.int .i64 (t : Nat)) (.int .i64 0)
        exact ⟨(sets_keep _ _ _ _ _ _ _).from _, ⟨rfl, pre, (kd, f, t), rfl, hle, by unfold hasUnit; simp; exact ⟨hx, hy⟩, q.1, q.2⟩, sets_below hBV (by omega) (by omega) _ _ _ _⟩
      · gi_wp2
        exact ⟨KeepsFrom.refl _ _, Kpt.refl _, h3, h4, h5, hle.snoc (by unfold hasUnit; simp; intro; omega), hBV⟩
    · gi_wp2
      exact ⟨KeepsFrom.refl _ _, Kpt.refl _, h3, h4, h5, hle.snoc (by unfold hasUnit; simp; intro; omega), hBV⟩
  case done =>
    rintro D xs W hD rfl ⟨h3, h4, h5, hle, hB⟩ hK
    have hc40 := h4.b0
    have hc41 := h4.b1
    have hc42 := h4.b2
    have hf40 := h4.frozen 0
    have hf41 := h4.frozen 1
    have hf42 := h4.frozen 2
    have hc5 := h5.cell
    have hf5 := h5.frozen
    have q := at_sets h4 h5 (show w.heap.size + 1 ≠ w.heap.size + 1 + 1 by omega) (.int .i64 0) (.int .i64 0) (.int .i64 0) (.int .i64 2)
    have hBQ := sets_below hB (b := w.heap.size + 1) (b' := w.heap.size + 1 + 1) (by omega) (by omega) (.int .i64 0) (.int .i64 0) (.int .i64 0) (.int .i64 2)
    have hK' := (sets_keep W (w.heap.size + 1) (w.heap.size + 1 + 1) (.int .i64 0) (.int .i64 0) (.int .i64 0) (.int .i64 2)).same D _ hK rfl
    gi_wp2
    refine ⟨by simp, .inl ⟨_, _, rfl, run_takeDeferred hK', ?_⟩⟩
    have q0 := cell_kept q.1.b0 (grownBy_putObj' _ D (.deferred none)) (fun r e => by cases e; exact ⟨_, hK', rfl⟩)
    have q1 := cell_kept q.1.b1 (grownBy_putObj' _ D (.deferred none)) (fun r e => by cases e; exact ⟨_, hK', rfl⟩)
    have q2 := cell_kept q.1.b2 (grownBy_putObj' _ D (.deferred none)) (fun r e => by cases e; exact ⟨_, hK', rfl⟩)
    have q5 := cell_kept q.2.cell (grownBy_putObj' _ D (.deferred none)) (fun r e => by cases e; exact ⟨_, hK', rfl⟩)
    refine ⟨.tuple #[tokV (0, 0, 0), .int .i64 2], by unfold tokV; simp [results, Tryd.results23, go_sem, q0, q1, q2, q5], by rw [atV_none hle], hBQ.trans (belowK_b (w := w) (Nat.le_refl _) _ D _ _ (by simp at hD; omega) hK' rfl rfl)⟩
  case stop =>
    rintro D c pre W hD hpre ⟨⟨rfl, pre', x, rfl, hle, hx, h4, h5⟩, hB⟩ hK
    gi_wp2
    refine ⟨by simp, .inl ⟨_, _, rfl, run_takeDeferred hK, ?_⟩⟩
    have q0 := cell_kept h4.b0 (grownBy_putObj' _ D (.deferred none)) (fun r e => by cases e; exact ⟨_, hK, rfl⟩)
    have q1 := cell_kept h4.b1 (grownBy_putObj' _ D (.deferred none)) (fun r e => by cases e; exact ⟨_, hK, rfl⟩)
    have q2 := cell_kept h4.b2 (grownBy_putObj' _ D (.deferred none)) (fun r e => by cases e; exact ⟨_, hK, rfl⟩)
    have q5 := cell_kept h5.cell (grownBy_putObj' _ D (.deferred none)) (fun r e => by cases e; exact ⟨_, hK, rfl⟩)
    refine ⟨.tuple #[tokV x, .int .i64 0], by unfold tokV; simp [results, Tryd.results23, go_sem, q0, q1, q2, q5], by rw [atV_some hle hx hpre], hB.trans (belowK_b (w := w) (Nat.le_refl _) W D _ _ (by simp at hD; omega) hK rfl rfl)⟩
theorem sat_ok {s : ByteArray} {P : List Nat} (h : Str s P []) (hP : P.length ≤ 1000) (u : Int) (w : World) (hT : Tabs w) :
    Calls Tryd.prog 23 #[.string s, .int .i64 u] w (Pair2 (atV (utok P) u).1 (.int .i64 (atV (utok P) u).2) w) := callsIn_wide.1 (sat_in h hP u w hT)
end Go.Proofs.YthjooopppidcfaaDoor
