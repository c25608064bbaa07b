import Derived.Test.YthjooopppidcfaaDoorME
import Derived.Test.YthjooopppidcfaaDoorShelf
import Derived.Maps.AppendAt

namespace Go.Proofs.YthjooopppidcfaaDoor
open Go.RowKit Go.Shelf Go.Lib
open Gc

attribute [local go_sem] Oper.semAt_some

def Tabs (w : World) : Prop := Lib.Utf8Tabs (Tryd.lays196_ren.g 3) (Tryd.lays196_ren.g 4) w
theorem Tabs.below {w w' : World} (h : Tabs w) (hb : Below w.heap.size w w') : Tabs w' := Utf8Tabs_below h hb

/-- A string: its points, and what is left. -/
structure Str (s : ByteArray) (P : List Nat) (bad : List UInt8) : Prop where
  pts : U.Pts P
  eq : s.data.toList = U.bytes P ++ bad
  bad : (U.dec bad).2 = 0
  size : s.size ≤ 100000
theorem str_parts (s : ByteArray) (hs : s.size ≤ 100000) : ∃ P bad, Str s P bad := by
  obtain ⟨P, bad, h1, h2, h3⟩ := U.parts s.data.toList
  exact ⟨P, bad, h2, h1, h3, hs⟩
theorem Str.valid {s : ByteArray} {P : List Nat} {bad : List UInt8} (h : Str s P bad) : validD s.data.toList = decide (bad = []) := by
  rw [h.eq]; exact U.validD_bytes P bad h.pts h.bad
theorem Str.whole {s : ByteArray} {P : List Nat} (h : Str s P []) : s.data.toList = U.bytes P := by
  rw [h.eq, List.append_nil]
theorem Str.room {s : ByteArray} {P : List Nat} {bad : List UInt8} (h : Str s P bad) : s.size ≤ maxLen := by
  have := h.size; unfold maxLen; omega
theorem Str.len {s : ByteArray} {P : List Nat} {bad : List UInt8} (h : Str s P bad) : P.length ≤ 100000 := by
  have h1 := (U.bytes_len P).1
  have h2 : s.size = (U.bytes P ++ bad).length := by rw [← h.eq]; simp
  have := h.size
  rw [List.length_append] at h2
  omega

/-- utf8.ValidString. -/
theorem valid_any {s : ByteArray} {P : List Nat} {bad : List UInt8} (h : Str s P bad) (w : World) (hT : Tabs w) : Calls Tryd.prog 83 #[.string s] w (BoolPost (decide (bad = [])) w) := by
  have := Tryd.utf8_ValidString s w (by have := h.size; omega) hT
  rw [h.valid] at this
  exact this

def Pair2 (a b : Value) (w : World) (e : Ending) (w' : World) : Prop := e = .returned (.tuple #[a, b]) ∧ Below w.heap.size w w'

end Go.Proofs.YthjooopppidcfaaDoor

namespace Go.Proofs.YthjooopppidcfaaDoor
open Go.RowKit Go.Shelf Go.Lib
open Gc

attribute [local go_sem] Oper.semAt_some

theorem row_type {W : World} {base : Nat} {e : TypeId} {size : Nat} {v : Value} {k : Nat} {xs : List Value} (h : W.ownsRow base e size v k xs) (g : Nat) (hg : v.ownBlock = some g) : base ≤ g ∧ ∃ cur, W.heap[g]? = some (.cells cur e (0, 0)) := by
  rcases h.2 with ⟨rfl, _⟩ | ⟨g', cap, cur, rfl, hb, hgb, _⟩
  · simp [Value.ownBlock] at hg
  · obtain rfl : g' = g := by simpa [Value.ownBlock] using hg
    exact ⟨hb, cur, hgb⟩

/-- 'list = append(list, x)' keeps what is the iterator's. -/
theorem kpt_append {T : TypeId → Bool} {Bs : Nat} {V w1 : World} {B : Nat} {t e : TypeId} {v v' : Value} {base size k : Nat} {xs : List Value} {tmp : Obj} (hBs : Bs < V.heap.size)
    (hv : Boxed V B t v) (hB : B ≠ Bs) (ht : T t = false) (he : T e = false) (hte : t ≠ e) (hrow : V.ownsRow base e size v k xs) (hne : ∀ g, v.ownBlock = some g → g ≠ Bs) 
    (hgrow : (V.alloc tmp).grownBy w1 v.ownBlock) : Kpt T Bs V (w1.setCell ⟨B, 0, none⟩ v') := by
  have hv1 : Boxed w1 B t v := (hv.alloc tmp).kept hgrow (hv.not_row hte hrow)
  have k1 : Kpt T Bs V (V.alloc tmp) := Kpt.alloc hBs tmp
  have k2 : Kpt T Bs (V.alloc tmp) w1 := Kpt.of_grownBy (by simp; omega) hgrow (fun g hg => by
    obtain ⟨_, cur, hc⟩ := row_type (hrow.alloc tmp) g hg
    exact ⟨hne g hg, _, hc, he⟩)
  exact (k1.trans k2).trans (Kpt.boxed (by have := k2.size; simp at this; omega) hv1 hB ht v')

theorem info3 : (Tryd.prog.info? 3).map (fun i => (i.zero, i.size, i.bytes)) = some (some (.int .i64 0), 1, 8) := by kernel_rfl

/-- What has come, as the list of the boundaries. -/
def bl (pre : List (Nat × Nat)) : List Int := 0 :: pre.map fun x => (x.2 : Int)
theorem bl_snoc (pre : List (Nat × Nat)) (x : Nat × Nat) : bl (pre ++ [x]) = bl pre ++ [(x.2 : Int)] := by simp [bl]
theorem bl_len (pre : List (Nat × Nat)) : (bl pre).length = pre.length + 1 := by simp [bl]

/-- A slice of ints in memory, read. -/
def Ints (w : World) (base : Nat) (v : Value) (l : List Int) : Prop := w.ownsRow base 3 1 v l.length (l.map (Value.int .i64))
def IntsPost (l : List Int) (w : World) (e : Ending) (w' : World) : Prop := ∃ v, e = .returned (.tuple #[v, .int .i64 0]) ∧ Ints w' w.heap.size v l ∧ Below w.heap.size w w'

set_option maxRecDepth 100000 in
set_option maxHeartbeats 2000000 in
theorem boundaries_bad {s : ByteArray} {P : List Nat} {bad : List UInt8} (h : Str s P bad) (hb : bad ≠ []) (w : World) (hT : Tabs w) : Calls Tryd.prog 57 #[.string s] w (Pair2 (.slice none 0 0) (.int .i64 12) w) := by
  have cV := valid_any h w hT
  rw [decide_eq_false hb] at cV
  go_enter Tryd.func57, Tryd.ntmps57
  go_wp2_with (go_at_call 83; refine cV.mono ?_; rintro e w1 ⟨rfl, hb1⟩)
  go_ret2
  exact ⟨rfl, hb1⟩

set_option maxRecDepth 100000 in
set_option maxHeartbeats 2000000 in
theorem boundaries_in {s : ByteArray} {P : List Nat} (h : Str s P []) (w : World) (hT : Tabs w) : CallsIn Fence.wide 6 Tryd.prog 57 #[.string s] w (IntsPost (bl (cls (cp P))) w) := by
  have cV := valid_any h w hT
  rw [decide_eq_true rfl] at cV
  have hlen : (cls (cp P)).length ≤ 100000 := by
    have h1 := bnd_length_le (cp P)
    have h2 := h.len
    have h3 : (cp P).length = P.length := by simp [cp, clsOf]
    omega
  obtain ⟨i0, hi, hz0, hz1, hz2⟩ := info_parts info3
  refine callsIn_of_wp_marks Tryd.func57 rfl trivial ?_ rfl
  simp only [Tryd.ntmps57, List.size_toArray, List.length_cons, List.length_nil, Nat.reduceAdd, Nat.reduceSub, Array.replicate_succ, Array.replicate_zero, List.push_toArray, List.append_toArray, List.nil_append, List.cons_append]
  gi_wp2_with (first
    | (refine ⟨trivial, ?_⟩; gi_at_call 83; (with_reducible refine (callsIn_wide.2 cV).mono ?_); rintro e w1 ⟨rfl, hb1⟩; clear cV)
    | (refine ⟨trivial, ?_⟩; gi_at_call 84; refine (clusters_in s _ _).mono ?_; rintro e w2 ⟨rfl, rfl⟩))
  have hs1 := hb1.size
  have hB0 : Below w.heap.size w (((w1.alloc (.cells #[.int .i64 0] 3)).alloc (.cells #[.slice (some ⟨w1.heap.size, 0, none⟩) 1 1] 37)).alloc (.cells #[.string s] 9)) := ((hb1.alloc hs1 _).alloc (by simp; omega) _).alloc (by simp; omega) _
  have bN := Boxed.new (w1.alloc (.cells #[.int .i64 0] 3)) 37 (.slice (some ⟨w1.heap.size, 0, none⟩) 1 1)
  have bS := Boxed.new ((w1.alloc (.cells #[.int .i64 0] 3)).alloc (.cells #[.slice (some ⟨w1.heap.size, 0, none⟩) 1 1] 37)) 9 (.string s)
  rw [World.size_alloc] at bN
  rw [World.size_alloc, World.size_alloc] at bS
  have hr0 : (w1.alloc (.cells #[.int .i64 0] 3)).ownsRow w.heap.size 3 1 (.slice (some ⟨w1.heap.size, 0, none⟩) 1 1) 1 [.int .i64 0] :=
    ⟨rfl, .inr ⟨w1.heap.size, 1, _, rfl, hs1, World.alloc_heap_new _ _, Nat.le_refl _, by decide, rfl, rfl⟩⟩
  refine rangeT1 (T := TT) (Bs := w1.heap.size + 1 + 1) rfl (by decide) (gf := 98) (lb := #[.pointer (some ⟨w1.heap.size + 1 + 1, 0, none⟩)]) rfl trivial (enters_of Tryd.func98 (by kernel_rfl) rfl)
    (by simp) (iter_any 5 (by decide) (w1.heap.size + 1 + 1) s P h.pts h.whole h.room _ bS)
    (fun pre W => (∃ v, Boxed W (w1.heap.size + 1) 37 v ∧ W.ownsRow w.heap.size 3 1 v (bl pre).length ((bl pre).map (Value.int .i64)) ∧ True) ∧ Boxed W (w1.heap.size + 1 + 1) 9 (.string s) ∧ Below w.heap.size w W) (fun _ _ _ => False)
    (OwnT.and (OwnT.row rfl rfl 1 (fun pre => (bl pre).length) (fun pre => (bl pre).map (Value.int .i64)) (fun _ _ => True)) (OwnT.and (OwnT.boxed rfl _) (OwnT.below (Nat.le_refl _) (by simp; omega)))) (fun _ _ _ _ _ hs _ _ => hs)
    ⟨⟨_, bN.alloc _, (hr0.alloc _).alloc _, trivial⟩, bS, hB0⟩ ?round ?done ?stop
  case round =>
    rintro l pre x W ⟨⟨v, hv, hrow, _⟩, hS, hB⟩ hlt hl hlW
    unfold clV
    generalize s.extract (U.off P x.1) (U.off P x.2) = txt
    have hW1 := hB.size
    gi_wp2
    refine ⟨(KeepsOthers.alloc _ _).from _, Kpt.alloc hS.lt _, ⟨⟨v, hv.alloc _, hrow.alloc _, trivial⟩, hS.alloc _, hB.alloc hW1 _⟩, ?_⟩
    rintro V hg ⟨⟨u, hu, hro, _⟩, hSV, hBV⟩
    have hcx : V.cell? ⟨W.heap.size, 0, none⟩ = some (.int .i64 (x.2 : Nat)) := hg.cell (by simp) (fun e => by simp at e; omega)
    have hc := hu.cell
    have hpl : (bl pre).length ≤ 100001 := by rw [bl_len]; omega
    have hBs := hBV.size
    clear hv hrow hS hB
    gi_wp2_with (gi_at_builtin; refine wpListIn_append_own _ rfl _ _ 37 rfl w.heap.size 3 i0 (.int .i64 0) 1 8 Tryd.underlying37 hi hz0 hz1 hz2 rfl (by decide) _ _ _ rfl (hro.alloc _) ⟨V.heap.size, 0, none⟩ 1 1 [.int .i64 (x.2 : Nat)] rfl rfl (cell_one_new _ _ _) (by simp [Value.oneCell']) (by unfold maxLen; omega) (by omega) (by simp; omega) ?_; intro v' w2 hown' hgrow _; obtain ⟨g', cap', rfl⟩ := ownsRow_succ hown'; obtain ⟨hv1, hv2, hr2, hk2, hb2⟩ := hu.appended (by decide) hro hBV.size (by omega) hown' hgrow; have kk := kpt_append (T := TT) (Bs := w1.heap.size + 1 + 1) hSV.lt hu (by omega) rfl rfl (by decide) hro (fun g hg => by obtain ⟨_, cur, hcc⟩ := row_type hro g hg; rintro rfl; rw [show V.heap[w1.heap.size + 1 + 1]? = _ from hSV] at hcc; simp at hcc) hgrow (v' := .slice (some ⟨g', 0, none⟩) ((bl pre).length + 1) cap'); have hc1 := hv1.cell; have hf1 := hv1.frozen)
    refine ⟨hk2.from _, kk, ⟨⟨_, hv2, ?_, trivial⟩, ?_, hBV.trans hb2⟩⟩
    · rw [bl_snoc, List.length_append, List.map_append]; exact hr2
    · exact kk.str.trans hSV
  case done =>
    rintro D xs W hD rfl ⟨⟨v, hv, hrow, _⟩, hS, hB⟩ hK
    have hc := hv.cell
    gi_wp2
    refine ⟨by simp, .inl ⟨_, _, rfl, run_takeDeferred hK, ?_⟩⟩
    refine ⟨.tuple #[v, .int .i64 0], by simp [results, Tryd.results57, go_sem], v, rfl, ownsRow_putObj hrow _ hK rfl, hB.trans (belowK_b (w := w) (Nat.le_refl _) W D _ _ ?_ hK rfl rfl)⟩
    simp at hD
    omega
  case stop =>
    rintro D c pre W _ _ h _
    exact h.elim
theorem boundaries_any {s : ByteArray} {P : List Nat} (h : Str s P []) (w : World) (hT : Tabs w) : Calls Tryd.prog 57 #[.string s] w (IntsPost (bl (cls (cp P))) w) :=
  callsIn_wide.1 (boundaries_in h w hT)
end Go.Proofs.YthjooopppidcfaaDoor
