/- Layer 4: text (36). -/
import Derived.Test.YtonplacldckbgaaMF
namespace Go.Proofs.Ytonplacldckbgaa
open Go.RowKit Go.Shelf Go.Lib Pt

attribute [local go_sem] Oper.semAt_some
/-- What text answers. -/
def TextR (l : List UInt8) (w : World) (e : Ending) (w' : World) : Prop := e = .returned (.string (bs l)) ∧ Below w.heap.size w w'
theorem sl_len (b : List UInt8) (x y : Int) : (sl b x y).length ≤ b.length := by
  unfold sl
  rw [List.length_drop, List.length_take]
  omega
theorem flat_pre {l all : List (List UInt8)} (h : l <+: all) : l.flatten.length ≤ all.flatten.length := by
  obtain ⟨s, rfl⟩ := h
  rw [List.flatten_append, List.length_append]
  omega
set_option maxRecDepth 100000 in
set_option maxHeartbeats 8000000 in
theorem text_in {t : Tr} {A : Option Addr} (x y : Nat) (w : World) (hf : Fine t) (h : NAt w t A) (hxy : x ≤ y) (hy : y ≤ t.bytes.length) : CallsIn Fence.wide 6 Try.prog 36 #[.pointer A, .int .i64 x, .int .i64 y] w (TextR (sl t.bytes x y) w) := by
  have hsz := hf.size
  have HSq := fun (B1 B2 B3 Bs : Nat) (w' : World) => chunks_seq 5 (by decide) (x : Int) (y : Int) w hf h (by omega) (by omega) B1 B2 B3 Bs w'
  have HL : Hid ((chunksT t x y).flatten.length ≤ 200000) := Go.Lib.hid (by rw [chunksT_flat]; have := sl_len t.bytes x y; omega)
  have hf1 : sl t.bytes (x : Int) (y : Int) = (chunksT t x y).flatten := (chunksT_flat t _ _).symm
  rw [hf1]
  generalize chunksT t x y = C at HSq HL ⊢
  have cG : Calls Try.prog 44 #[.pointer (some ⟨w.heap.size, 0, none⟩), .int .i64 ((y : Int) - (x : Int))] (w.alloc (.cells #[.pointer none, .slice none 0 0] 82)) fun e w' => e = .returned (.tuple #[]) ∧ (BuilderAt 82 5 w.heap.size w.heap.size (.pointer (some ⟨w.heap.size, 0, none⟩)) [] w' ∧ Below w.heap.size (w.alloc (.cells #[.pointer none, .slice none 0 0] 82)) w') := by
    rw [show (y : Int) - (x : Int) = ((y - x : Nat) : Int) by omega]
    exact Try.Builder_Grow_fresh w.heap.size w.heap.size (y - x) _ (Nat.le_refl _) (World.alloc_heap_new w _) (by simp) (by omega)
  have HG := Go.Lib.hid cG
  have hb0 : Below w.heap.size w (w.alloc (.cells #[.pointer none, .slice none 0 0] 82)) := (Below.refl _ w).alloc (Nat.le_refl _) _
  have HS := Go.Lib.hid HSq
  have hxb : (0 : Int) ≤ (y : Int) - (x : Int) := by omega
  have hyb : (y : Int) ≤ 200000 := by omega
  clear cG h hf1 HSq
  refine callsIn_of_wp_marks Try.func36 rfl trivial ?_ rfl
  simp only [Try.ntmps36, List.size_toArray, List.length_cons, List.length_nil, Nat.reduceAdd, Nat.reduceSub, Array.replicate_succ, Array.replicate_zero, List.push_toArray, List.append_toArray, List.nil_append, List.cons_append]
  gi_wp2_with (first | (refine ⟨trivial, ?_⟩; gi_at_call 44; (with_reducible refine (callsIn_wide.2 HG.out).mono ?_); rintro e w1 ⟨rfl, hb1, hb2⟩) | (refine ⟨trivial, ?_⟩; gi_at_call 37; refine (callsIn_wide.2 (chunks_any _ _ _ _)).mono ?_; rintro e w2 ⟨rfl, rfl⟩))
  have hb01 : Below w.heap.size w w1 := hb0.trans hb2
  have hN1 : w.heap.size < w1.heap.size := hb1.lt
  clear hb0 hb2
  obtain ⟨N, hN⟩ : ∃ N, w1.heap.size = N := ⟨_, rfl⟩
  have b0 := ((((BuilderAtF.of hb1).alloc (.cells #[.pointer A] 67)).alloc (.cells #[.int .i64 x] 3)).alloc (.cells #[.int .i64 y] 3))
  have b1 := ((Boxed.new w1 67 (.pointer A)).alloc (.cells #[.int .i64 x] 3)).alloc (.cells #[.int .i64 y] 3)
  have b2 := (Boxed.new (w1.alloc (.cells #[.pointer A] 67)) 3 (.int .i64 x)).alloc (.cells #[.int .i64 y] 3)
  have b3 := Boxed.new ((w1.alloc (.cells #[.pointer A] 67)).alloc (.cells #[.int .i64 x] 3)) 3 (.int .i64 y)
  have hB1 : Below w.heap.size w (((w1.alloc (.cells #[.pointer A] 67)).alloc (.cells #[.int .i64 x] 3)).alloc (.cells #[.int .i64 y] 3)) := ((hb01.alloc (by omega) _).alloc (by simp; omega) _).alloc (by simp; omega) _
  have hsz : (((w1.alloc (.cells #[.pointer A] 67)).alloc (.cells #[.int .i64 x] 3)).alloc (.cells #[.int .i64 y] 3)).heap.size = w1.heap.size + 3 := by simp
  rw [World.size_alloc] at b2
  rw [World.size_alloc, World.size_alloc] at b3
  generalize ((w1.alloc (.cells #[.pointer A] 67)).alloc (.cells #[.int .i64 x] 3)).alloc (.cells #[.int .i64 y] 3) = W0 at b0 b1 b2 b3 hB1 hsz ⊢
  rw [hN] at b1 b2 b3 hsz hN1 ⊢
  refine rangeG1 (T := T0) (Bs := N) (G := GC w N (N + 1) (N + 2) A x y) rfl (by decide) (gf := 47) (lb := #[.pointer (some ⟨N, 0, none⟩), .pointer (some ⟨N + 1, 0, none⟩), .pointer (some ⟨N + 2, 0, none⟩)]) rfl trivial (enters_of Try.func47 (by kernel_rfl) rfl)
    (by omega) (HS.out N (N + 1) (N + 2) N W0)
    (fun (pre : List (List UInt8)) W => IsBuilderF 82 5 w.heap.size w.heap.size (byteCells pre.flatten) W ∧ Below w.heap.size w W ∧ Boxed W N 67 (.pointer A) ∧ Boxed W (N + 1) 3 (.int .i64 x) ∧ Boxed W (N + 2) 3 (.int .i64 y)) (fun _ _ _ => False)
    (fun _ W h => ⟨h.2.1, h.2.2.1, h.2.2.2.1, h.2.2.2.2⟩)
    (OwnT.and (OwnT.builder rfl rfl (fun (pre : List (List UInt8)) => byteCells pre.flatten)) (OwnT.and (OwnT.below (Nat.le_refl _) (by omega)) (OwnT.and (OwnT.boxed rfl (fun _ => _)) (OwnT.and (OwnT.boxed rfl (fun _ => _)) (OwnT.boxed rfl (fun _ => _)))))) (fun _ _ _ _ _ hs _ _ => hs)
    ⟨.inr b0, hB1, b1, b2, b3⟩ ?round ?done ?stop
  case round =>
    clear b0 b1 b2 b3 hB1
    rintro l' pre c W ⟨hbd, hB, h1, h2, h3⟩ hlt hpre hl' hlW
    have hBs : N < W.heap.size := h1.lt
    gi_wp2
    refine ⟨KeepsFrom.refl _ _, Kpt.refl _, ⟨hbd, hB, h1, h2, h3⟩, ?_⟩
    rintro V hg ⟨hbV, hBV, j1, j2, j3⟩
    have hfl := flat_pre hpre
    have hfl2 := HL.out
    have cW := write_o w.heap.size w.heap.size (byteCells pre.flatten) (bs c) V hbV (by rw [byteCells_length, bs_size]; simp only [List.flatten_append, List.length_append, List.flatten_cons, List.flatten_nil, List.append_nil] at hfl; omega) hBV.size
    have hV1 : N < V.heap.size := j1.lt
    clear hbd hB h1 h2 h3 hg hfl hfl2
    gi_wp2_with (refine ⟨trivial, ?_⟩; gi_at_call 45; refine (callsIn_wide.2 cW).mono ?_; rintro e w9 ⟨rfl, hA9, hb9, hk9⟩)
    have hkN := hk9 N _ (fun _ _ => by simp) (by omega) j1
    have hkN1 := hk9 (N + 1) _ (fun _ _ => by simp) (by omega) j2
    have hkN2 := hk9 (N + 2) _ (fun _ _ => by simp) (by omega) j3
    refine ⟨keeps_o hb9.size hk9 (fun o ho => ?_), ⟨hb9.size, by rw [hkN]; exact j1.symm, fun k o hk ho => ?_⟩, ⟨.inr ?_, hBV.trans hb9, hkN, hkN1, hkN2⟩⟩
    · obtain ⟨_, hh⟩ : ∃ v, V.heap[w.heap.size]? = some v ∧ v.isCells = true := by
        rcases hbV with ⟨_, v, hv, _⟩ | ⟨_, v, hv, _⟩
        · exact ⟨_, hv, rfl⟩
        · exact ⟨_, hv, rfl⟩
      rw [hh.1] at ho
      cases ho
      exact hh.2
    · refine hk9 k o (fun c fr e => by rw [e] at ho; cases ho) (fun e => ?_) hk
      subst e
      rcases hbV with ⟨_, v, hv, _⟩ | ⟨_, v, hv, _⟩
      · rw [hk] at hv; cases hv; cases ho
      · rw [hk] at hv; cases hv; cases ho
    · rw [List.flatten_append, List.flatten_cons, List.flatten_nil, List.append_nil, byteCells_append]
      exact hA9
  case done =>
    rintro D xs W hD rfl ⟨hbd, hB, j1, j2, j3⟩ hK
    have cS := Try.Builder_String_any_k w.heap.size w.heap.size xs.flatten W hbd hB.size
    clear b0 b1 b2 b3 hB1 HS
    gi_wp2_with (refine ⟨trivial, ?_⟩; gi_at_call 46; refine (callsIn_wide.2 cS).mono ?_; rintro e w9 ⟨rfl, _, hb9, hk9⟩)
    have hK9 : w9.heap[D]? = some (.deferred (some [])) := hk9 D _ hK (by simp; omega) (fun _ _ => by simp)
    refine ⟨by simp, .inl ⟨_, _, rfl, run_takeDeferred hK9, ?_⟩⟩
    refine ⟨.string (bs xs.flatten), by simp [results, Try.results36, go_sem, bs], rfl, ?_⟩
    have hB9 := hB.trans hb9
    refine ⟨hB9.os, hB9.tape, hB9.output, by simpa [World.putObj] using hB9.size, fun k hk => ?_⟩
    exact (World.putObj_heap_other (by omega)).trans (hB9.block k hk)
  case stop =>
    rintro D c pre W _ _ h _
    exact h.elim
theorem text_any {t : Tr} {A : Option Addr} (x y : Nat) (w : World) (hf : Fine t) (h : NAt w t A) (hxy : x ≤ y) (hy : y ≤ t.bytes.length) : Calls Try.prog 36 #[.pointer A, .int .i64 x, .int .i64 y] w (TextR (sl t.bytes x y) w) := callsIn_wide.1 (text_in x y w hf h hxy hy)
end Go.Proofs.Ytonplacldckbgaa
