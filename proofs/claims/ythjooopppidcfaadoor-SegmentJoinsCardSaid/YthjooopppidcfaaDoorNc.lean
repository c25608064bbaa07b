/- Layer 3: Prev. -/
import Derived.Test.YthjooopppidcfaaDoorNb
namespace Go.Proofs.YthjooopppidcfaaDoor
open Go.RowKit Go.Shelf Go.Lib
open Gc

attribute [local go_sem] Oper.semAt_some

/-- What Prev has found behind the tokens pre. -/
def Stepped (pre : List Tok) (u : Int) (z : Nat) : Prop := ∀ post, prevOf u (pre ++ post) 0 = prevOf u post z
theorem Stepped.nil (u : Int) : Stepped [] u 0 := fun _ => rfl
theorem prevOf_go (u : Int) (x : Tok) (l : List Tok) (g : Nat) (h : ¬ u ≤ (x.2.1 : Int)) : prevOf u (x :: l) g = prevOf u l (if x.1 ≠ 3 then x.2.1 else g) := by
  rw [prevOf, if_neg h]
theorem Stepped.space {pre : List Tok} {u : Int} {z : Nat} (h : Stepped pre u z) (f t : Nat) (hx : ¬ u ≤ (f : Int)) : Stepped (pre ++ [(3, f, t)]) u z := by
  intro post
  rw [List.append_assoc, h, List.singleton_append, prevOf_go _ _ _ _ hx, if_neg (by simp)]
theorem Stepped.word {pre : List Tok} {u : Int} {z : Nat} (h : Stepped pre u z) {k : Int} (hk : k ≠ 3) (f t : Nat) (hx : ¬ u ≤ (f : Int)) : Stepped (pre ++ [(k, f, t)]) u f := by
  intro post
  rw [List.append_assoc, h, List.singleton_append, prevOf_go _ _ _ _ hx, if_pos (by simpa using hk)]
theorem Stepped.end {l : List Tok} {u : Int} {z : Nat} (h : Stepped l u z) : prevOf u l 0 = z := by
  have := h []
  rw [List.append_nil] at this
  rw [this]; rfl
theorem Stepped.stop {l pre : List Tok} {x : Tok} {u : Int} {z : Nat} (h : Stepped pre u z) (hx : u ≤ (x.2.1 : Int)) (hl : pre ++ [x] <+: l) : prevOf u l 0 = z := by
  obtain ⟨t, rfl⟩ := hl
  rw [List.append_assoc, h, List.singleton_append, prevOf, if_pos hx]

set_option maxRecDepth 100000 in
set_option maxHeartbeats 4000000 in
theorem sprev_err {s : ByteArray} {P : List Nat} {bad : List UInt8} (h : Str s P bad) (hsm : P.length ≤ 1000) (u : Int) (w : World) (hT : Tabs w) (he : aerr P bad u ≠ 0) :
    Calls Tryd.prog 25 #[.string s, .int .i64 u] w (Pair2 (.int .i64 0) (.int .i64 (aerr P bad u)) w) := by
  have hB0 : Below w.heap.size w (w.alloc (.cells #[.int .i64 u] 3)) := (Below.refl _ w).alloc (Nat.le_refl _) _
  have cD := around_err h hsm u _ (hT.below hB0) he
  unfold AroundErr at cD
  generalize aerr P bad u = c at he cD ⊢
  have hc0 : (c == 0) = false := by simp [he]
  clear he
  go_enter Tryd.func25, Tryd.ntmps25
  go_wp2_with (go_at_call 49; (with_reducible refine cD.mono ?_); rintro e w1 ⟨rfl, hb1⟩; have hz1 := hb1.size)
  go_ret2
  simp at hz1
  exact ⟨rfl, (hB0.trans (hb1.mono (by simp))).alloc (by omega) _⟩

set_option maxRecDepth 100000 in
set_option maxHeartbeats 4000000 in
theorem sprev_in {s : ByteArray} {P : List Nat} (h : Str s P []) (hP : P.length ≤ 1000) (u : Int) (w : World) (hT : Tabs w) (hr : 0 ≤ u ∧ u ≤ P.length) :
    CallsIn Fence.wide 6 Tryd.prog 25 #[.string s, .int .i64 u] w (Pair2 (.int .i64 (prevOf u (utok P) 0 : Nat)) (.int .i64 0) w) := by
  have hB0 : Below w.heap.size w (w.alloc (.cells #[.int .i64 u] 3)) := (Below.refl _ w).alloc (Nat.le_refl _) _
  have cD := around_ok h hP u _ (hT.below hB0) hr
  unfold ReadRet at cD
  have b3 := Boxed.new w 3 (.int .i64 u)
  have hul := utok_len P
  clear h hT hr
  refine callsIn_of_wp_marks Tryd.func25 rfl trivial ?_ rfl
  simp only [Tryd.ntmps25, List.size_toArray, List.length_cons, List.length_nil, Nat.reduceAdd, Nat.reduceSub, Array.replicate_succ, Array.replicate_zero, List.push_toArray, List.append_toArray, List.nil_append, List.cons_append]
  gi_wp2_with (first
    | (refine ⟨trivial, ?_⟩; gi_at_call 49; (with_reducible refine (callsIn_wide.2 cD).mono ?_); rintro e w1 ⟨A, pc, cv, rfl, hPA, ⟨g, cap, cur, rfl, ho, hrw⟩, hb1⟩; have PA := Go.Lib.hid hPA; have HO := Go.Lib.hid ho; have HR := Go.Lib.hid hrw; clear hPA ho hrw)
    | (refine ⟨trivial, ?_⟩; gi_at_call 37; refine (callsIn_wide.2 (seq_any _ _ _ _ _ _ _)).mono ?_; rintro e w2 ⟨rfl, rfl⟩))
  have hz := hb1.size
  simp only [World.size_alloc] at hz
  obtain ⟨ob, hob⟩ : ∃ ob : Obj, ob = .cells #[.slice A P.length pc, .slice (some ⟨g, 0, none⟩) (clu P).length cap] 71 := ⟨_, rfl⟩
  obtain ⟨oz, hoz⟩ : ∃ oz : Obj, oz = .cells #[.int .i64 0] 3 := ⟨_, rfl⟩
  have r3 := (((boxed_below b3 hb1).alloc ob).alloc oz).alloc ob
  have r8 := (Boxed.new (w1.alloc ob) 3 (.int .i64 0)).alloc ob
  rw [World.size_alloc] at r8
  have hB1 : Below w.heap.size w (((w1.alloc ob).alloc oz).alloc ob) := (((hB0.trans (hb1.mono (by simp))).alloc (by omega) _).alloc (by simp; omega) _).alloc (by simp; omega) _
  have hb2 : Below w1.heap.size w1 (w1.alloc ob) := (Below.refl _ w1).alloc (Nat.le_refl _) _
  have hTx := txt_new2 (pc := pc) (cap := cap) oz (PA.out.below hb2 (Nat.le_refl _)) ((hb2.block g HR.out.1).trans HO.out) (HR.out.below hb2 HR.out.1)
  rw [World.size_alloc] at hTx
  subst hob
  subst hoz
  clear b3 hB0 hb1 cD hb2
  refine rangeT1 (T := TC) (Bs := w1.heap.size + 1 + 1) rfl (by decide) (gf := 59) (lb := #[.pointer (some ⟨w1.heap.size + 1 + 1, 0, none⟩)]) rfl trivial (enters_of Tryd.func59 (by kernel_rfl) rfl)
    (by simp) (toks_any 5 (by decide) (w1.heap.size + 1 + 1) P hP _ hTx)
    (fun pre W => Boxed W w.heap.size 3 (.int .i64 u) ∧ (∃ z : Nat, Boxed W (w1.heap.size + 1) 3 (.int .i64 (z : Nat)) ∧ Stepped pre u z) ∧ Below w.heap.size w W)
    (fun c pre W => (c = .exit 0 ∧ ∃ pre' x, ∃ z : Nat, pre = pre' ++ [x] ∧ Stepped pre' u z ∧ u ≤ (x.2.1 : Int) ∧ Boxed W (w1.heap.size + 1) 3 (.int .i64 (z : Nat))) ∧ Below w.heap.size w W)
    (OwnT.and (OwnT.boxed rfl _) (OwnT.and (fun s A C row ⟨z, hz, hs⟩ hg hr => ⟨z, hz.kept hg (not_turned hz rfl hr), hs⟩) (OwnT.below (Nat.le_refl _) (by simp; omega))))
    (fun c => OwnT.and (fun s A C row ⟨hc, pre', x, z, h1, h2, h3, h4⟩ hg hr => ⟨hc, pre', x, z, h1, h2, h3, h4.kept hg (not_turned h4 rfl hr)⟩) (OwnT.below (Nat.le_refl _) (by simp; omega)))
    ⟨r3, ⟨0, r8, Stepped.nil u⟩, hB1⟩ ?round ?done ?stop
  case round =>
    clear r3 r8 hB1
    rintro l pre x W ⟨h3, ⟨z, h8, hst⟩, hB⟩ hlt hl hlW
    unfold tokV
    obtain ⟨kd, f, t⟩ := x
    dsimp only
    have hW1 := hB.size
    have hBs : w1.heap.size + 1 + 1 < W.heap.size := by simp at hl; omega
    gi_wp2
    refine ⟨(KeepsOthers.alloc _ _).from _, Kpt.alloc hBs _, ⟨h3.alloc _, ⟨z, h8.alloc _, hst⟩, hB.alloc hW1 _⟩, ?_⟩
    rintro V hg ⟨h3, ⟨z, h8, hst⟩, hBV⟩
    have hc0 : V.cell? ⟨W.heap.size, 0, none⟩ = some (.int .i64 kd) := hg.cell (by simp) (fun e => by simp at e; omega)
    have hc1 : V.cell? ⟨W.heap.size, 1, none⟩ = some (.int .i64 (f : Nat)) := hg.cell (by simp) (fun e => by simp at e; omega)
    have hc3 := h3.cell
    have hc8 := h8.cell
    have hf8 := h8.frozen
    have hVs : w1.heap.size + 1 + 1 < V.heap.size := by have := hg.size; simp at this; omega
    by_cases hx : u ≤ (f : Int)
    · gi_wp2
      exact ⟨KeepsFrom.refl _ _, ⟨rfl, pre, (kd, f, t), z, rfl, hst, hx, h8⟩, hBV⟩
    · by_cases hk : kd = 3
      · subst hk
        gi_wp2
        exact ⟨KeepsFrom.refl _ _, Kpt.refl _, h3, ⟨z, h8, hst.space f t (by omega)⟩, hBV⟩
      · have hkb := neB hk
        gi_wp2
        exact ⟨(KeepsOthers.setCell _ _ _).from _, Kpt.boxed hVs h8 (by omega) rfl _, boxed_other h3 (by omega) _, ⟨f, h8.set _, hst.word hk f t (by omega)⟩, hBV.setCell (p := ⟨w1.heap.size + 1, 0, none⟩) (by simp; omega) _⟩
  case done =>
    rintro D xs W hD rfl ⟨h3, ⟨z, h8, hst⟩, hB⟩ hK
    have hc8 := h8.cell
    gi_wp2
    refine ⟨by simp, .inl ⟨_, _, rfl, run_takeDeferred hK, ?_⟩⟩
    refine ⟨.tuple #[.int .i64 (z : Nat), .int .i64 0], by simp [results, Tryd.results25, go_sem], by rw [hst.end], hB.trans (belowK_b (w := w) (Nat.le_refl _) W D _ _ (by simp at hD; omega) hK rfl rfl)⟩
  case stop =>
    rintro D c pre W hD hpre ⟨⟨rfl, pre', x, z, rfl, hst, hx, h8⟩, hB⟩ hK
    have hc8 := h8.cell
    gi_wp2
    refine ⟨by simp, .inl ⟨_, _, rfl, run_takeDeferred hK, ?_⟩⟩
    refine ⟨.tuple #[.int .i64 (z : Nat), .int .i64 0], by simp [results, Tryd.results25, go_sem], by rw [hst.stop hx hpre], hB.trans (belowK_b (w := w) (Nat.le_refl _) W D _ _ (by simp at hD; omega) hK rfl rfl)⟩
theorem sprev_ok {s : ByteArray} {P : List Nat} (h : Str s P []) (hP : P.length ≤ 1000) (u : Int) (w : World) (hT : Tabs w) (hr : 0 ≤ u ∧ u ≤ P.length) :
    Calls Tryd.prog 25 #[.string s, .int .i64 u] w (Pair2 (.int .i64 (prevOf u (utok P) 0 : Nat)) (.int .i64 0) w) := callsIn_wide.1 (sprev_in h hP u w hT hr)
end Go.Proofs.YthjooopppidcfaaDoor
