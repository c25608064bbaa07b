import Derived.Test.YtigbmhddkcgjfaaDoorIw
import Derived.Test.YtigbmhddkcgjfaaDoorShelf
namespace Go.Proofs.YtigbmhddkcgjfaaDoor
open Go.RowKit Go.Shelf Go.Lib
open Gc

attribute [local go_sem] Oper.semAt_some

def Tabs (w : World) : Prop := Lib.Utf8Tabs (Tryd.lays196_ren.g 3) (Tryd.lays196_ren.g 4) w
theorem Tabs.below {w w' : World} (h : Tabs w) (hb : Below w.heap.size w w') : Tabs w' := Utf8Tabs_below h hb

/-- A string: its points, and what is left. -/
structure Str (s : ByteArray) (P : List Nat) (bad : List UInt8) : Prop where
  pts : U.Pts P
  eq : s.data.toList = U.bytes P ++ bad
  bad : (U.dec bad).2 = 0
  size : s.size ≤ 100000
theorem str_parts (s : ByteArray) (hs : s.size ≤ 100000) : ∃ P bad, Str s P bad := by
  obtain ⟨P, bad, h1, h2, h3⟩ := U.parts s.data.toList
  exact ⟨P, bad, h2, h1, h3, hs⟩
theorem Str.valid {s : ByteArray} {P : List Nat} {bad : List UInt8} (h : Str s P bad) : validD s.data.toList = decide (bad = []) := by
  rw [h.eq]; exact U.validD_bytes P bad h.pts h.bad
theorem Str.whole {s : ByteArray} {P : List Nat} (h : Str s P []) : s.data.toList = U.bytes P := by
  rw [h.eq, List.append_nil]
theorem Str.room {s : ByteArray} {P : List Nat} {bad : List UInt8} (h : Str s P bad) : s.size ≤ maxLen := by
  have := h.size; unfold maxLen; omega
theorem Str.len {s : ByteArray} {P : List Nat} {bad : List UInt8} (h : Str s P bad) : P.length ≤ 100000 := by
  have h1 := (U.bytes_len P).1
  have h2 : s.size = (U.bytes P ++ bad).length := by rw [← h.eq]; simp
  have := h.size
  rw [List.length_append] at h2
  omega

/-- utf8.ValidString. -/
theorem valid_any {s : ByteArray} {P : List Nat} {bad : List UInt8} (h : Str s P bad) (w : World) (hT : Tabs w) : Calls Tryd.prog 36 #[.string s] w (BoolPost (decide (bad = [])) w) := by
  have := Tryd.utf8_ValidString s w (by have := h.size; omega) hT
  rw [h.valid] at this
  exact this

def Pair2 (a b : Value) (w : World) (e : Ending) (w' : World) : Prop := e = .returned (.tuple #[a, b]) ∧ Below w.heap.size w w'

set_option maxRecDepth 100000 in
set_option maxHeartbeats 2000000 in
theorem count_bad {s : ByteArray} {P : List Nat} {bad : List UInt8} (h : Str s P bad) (hb : bad ≠ []) (w : World) (hT : Tabs w) : Calls Tryd.prog 21 #[.string s] w (Pair2 (.int .i64 0) (.int .i64 12) w) := by
  have cV := valid_any h w hT
  rw [decide_eq_false hb] at cV
  go_enter Tryd.func21, Tryd.ntmps21
  go_wp2_with (go_at_call 36; refine cV.mono ?_; rintro e w1 ⟨rfl, hb1⟩)
  go_ret2
  exact ⟨rfl, hb1⟩

set_option maxRecDepth 100000 in
set_option maxHeartbeats 2000000 in
theorem count_in {s : ByteArray} {P : List Nat} (h : Str s P []) (w : World) (hT : Tabs w) : CallsIn Fence.wide 6 Tryd.prog 21 #[.string s] w (Pair2 (.int .i64 ((cls (cp P)).length : Nat)) (.int .i64 0) w) := by
  have cV := valid_any h w hT
  rw [decide_eq_true rfl] at cV
  have hlen : (cls (cp P)).length ≤ 100000 := by
    have h1 := bnd_length_le (cp P)
    have h2 := h.len
    have h3 : (cp P).length = P.length := by simp [cp, clsOf]
    omega
  refine callsIn_of_wp_marks Tryd.func21 rfl trivial ?_ rfl
  simp only [Tryd.ntmps21, List.size_toArray, List.length_cons, List.length_nil, Nat.reduceAdd, Nat.reduceSub, Array.replicate_succ, Array.replicate_zero, List.push_toArray, List.append_toArray, List.nil_append, List.cons_append]
  gi_wp2_with (first
    | (refine ⟨trivial, ?_⟩; gi_at_call 36; (with_reducible refine (callsIn_wide.2 cV).mono ?_); rintro e w1 ⟨rfl, hb1⟩; clear cV)
    | (refine ⟨trivial, ?_⟩; gi_at_call 37; refine (clusters_in s _ _).mono ?_; rintro e w2 ⟨rfl, rfl⟩))
  have hB0 : Below w.heap.size w ((w1.alloc (.cells #[.int .i64 0] 3)).alloc (.cells #[.string s] 9)) := (hb1.alloc hb1.size _).alloc (by have := hb1.size; simp; omega) _
  have bN := Boxed.new w1 3 (.int .i64 0)
  have bS := Boxed.new (w1.alloc (.cells #[.int .i64 0] 3)) 9 (.string s)
  rw [World.size_alloc] at bS
  refine rangeT1 (T := TT) (Bs := w1.heap.size + 1) rfl (by decide) (gf := 47) (lb := #[.pointer (some ⟨w1.heap.size + 1, 0, none⟩)]) rfl trivial (enters_of Tryd.func47 (by kernel_rfl) rfl)
    (by simp) (iter_any 5 (by decide) (w1.heap.size + 1) s P h.pts h.whole h.room _ bS)
    (fun pre W => Boxed W w1.heap.size 3 (.int .i64 (pre.length : Nat)) ∧ Below w.heap.size w W) (fun _ _ _ => False)
    (OwnT.and (OwnT.boxed rfl _) (OwnT.below (Nat.le_refl _) (by have := hb1.size; simp; omega))) (fun _ _ _ _ _ hs _ _ => hs) ⟨bN.alloc _, hB0⟩ ?round ?done ?stop
  case round =>
    rintro l pre x W ⟨hb, hB⟩ hlt hl hlW
    generalize clV s P x = xv
    gi_wp2
    refine ⟨KeepsFrom.refl _ _, Kpt.refl _, ⟨hb, hB⟩, ?_⟩
    rintro V hg ⟨hv, hBV⟩
    have hc := hv.cell
    have hf := hv.frozen
    have hpl : (pre.length : Int) ≤ 100000 := by omega
    gi_wp2
    refine ⟨(KeepsOthers.setCell _ _ _).from _, Kpt.boxed ?_ hv (by omega) rfl _, ?_, hBV.setCell (p := ⟨w1.heap.size, 0, none⟩) hb1.size _⟩
    · have h1 := hg.size
      simp at hl
      omega
    · have := hv.set (.int .i64 ((pre.length : Int) + 1))
      rw [List.length_append]
      exact this
  case done =>
    rintro D xs W hD rfl ⟨hv, hB⟩ hK
    have hc := hv.cell
    gi_wp2
    refine ⟨by simp, .inl ⟨_, _, rfl, run_takeDeferred hK, ?_⟩⟩
    refine ⟨.tuple #[.int .i64 ((cls (cp P)).length : Nat), .int .i64 0], by simp [results, Tryd.results21, go_sem], rfl, hB.trans (belowK_b (w := w) (Nat.le_refl _) W D _ _ ?_ hK rfl rfl)⟩
    have := hb1.size
    simp at hD
    omega
  case stop =>
    rintro D c pre W _ _ h _
    exact h.elim

theorem count_any {s : ByteArray} {P : List Nat} (h : Str s P []) (w : World) (hT : Tabs w) : Calls Tryd.prog 21 #[.string s] w (Pair2 (.int .i64 ((cls (cp P)).length : Nat)) (.int .i64 0) w) :=
  callsIn_wide.1 (count_in h w hT)
end Go.Proofs.YtigbmhddkcgjfaaDoor
