/- Layer 4: trees of pieces in memory; total, newNode. -/
import Derived.Test.YtonplacldckbgaaRows
import Derived.Test.YtonplacldckbgaaP1
import Derived.WalkKit
import Derived.WalkSpells
import Derived.IntWalk
import Derived.Lib.Hide
import Derived.Deep.QuietTactic
import Derived.Deep.RegionHeld3
import Derived.BigQuiet
namespace Go.Proofs.Ytonplacldckbgaa
open Go.RowKit Go.Lib Pt

def bs (l : List UInt8) : ByteArray := ⟨l.toArray⟩
theorem bs_list (l : List UInt8) : (bs l).data.toList = l := by simp [bs]
theorem bs_size (l : List UInt8) : (bs l).size = l.length := by simp [bs, ByteArray.size]
theorem chain {w a b : World} (h1 : Below w.heap.size w a) (h2 : Below a.heap.size a b) : Below w.heap.size w b := h1.trans (h2.mono h1.size)
/-- The sums of a tree; a piece. -/
def smV (t : Tr) : Value := .agg #[.int .i64 (t.bytes.length : Nat), .int .i64 (lf t.bytes : Nat), .int .i64 (t.pcs : Nat), .int .i64 (t.dep : Nat)]
abbrev pcV (p : List UInt8) : Value := .agg #[.string (bs p), .int .i64 (lf p : Nat)]
/-- A node's own cells. -/
def NdAt (w : World) (b : Nat) (L R : Option Addr) (l : Tr) (p : List UInt8) (r : Tr) : Prop :=
  w.cell? ⟨b, 0, none⟩ = some (.pointer L) ∧ w.cell? ⟨b, 1, none⟩ = some (.pointer R) ∧ w.cell? ⟨b, 2, none⟩ = some (.string (bs p)) ∧ w.cell? ⟨b, 3, none⟩ = some (.int .i64 (lf p : Nat)) ∧
  w.cell? ⟨b, 4, none⟩ = some (.int .i64 ((Tr.node l p r).bytes.length : Nat)) ∧ w.cell? ⟨b, 5, none⟩ = some (.int .i64 (lf (Tr.node l p r).bytes : Nat)) ∧ w.cell? ⟨b, 6, none⟩ = some (.int .i64 ((Tr.node l p r).pcs : Nat)) ∧ w.cell? ⟨b, 7, none⟩ = some (.int .i64 ((Tr.node l p r).dep : Nat))
/-- A tree in memory. -/
def NAt (w : World) : Tr → Option Addr → Prop
  | .nil, A => A = none
  | .node l p r, A => ∃ b L R, A = some ⟨b, 0, none⟩ ∧ b < w.heap.size ∧ NdAt w b L R l p r ∧ NAt w l L ∧ NAt w r R
theorem NdAt.below {w w' : World} {b : Nat} {L R : Option Addr} {l r : Tr} {p : List UInt8} (h : NdAt w b L R l p r) (hb : Below w.heap.size w w') (hl : b < w.heap.size) : NdAt w' b L R l p r := by
  obtain ⟨c0, c1, c2, c3, c4, c5, c6, c7⟩ := h
  exact ⟨(hb.cell hl).trans c0, (hb.cell hl).trans c1, (hb.cell hl).trans c2, (hb.cell hl).trans c3, (hb.cell hl).trans c4, (hb.cell hl).trans c5, (hb.cell hl).trans c6, (hb.cell hl).trans c7⟩
theorem NAt.below {w w' : World} (hb : Below w.heap.size w w') {t : Tr} : ∀ {A}, NAt w t A → NAt w' t A := by
  induction t with
  | nil => exact fun h => h
  | node l p r il ir =>
    rintro A ⟨b, L, R, rfl, h1, h2, h3, h4⟩
    exact ⟨b, L, R, rfl, Nat.lt_of_lt_of_le h1 hb.size, h2.below hb h1, il h3, ir h4⟩
/-- The answer is a tree. -/
def RetN (t : Tr) (w : World) : Ending → World → Prop := fun e w' => ∃ A, e = .returned (.pointer A) ∧ NAt w' t A ∧ Below w.heap.size w w'
set_option maxRecDepth 100000 in
set_option maxHeartbeats 4000000 in
theorem total_any {t : Tr} {A : Option Addr} (w : World) (h : NAt w t A) : Calls Try.prog 50 #[.pointer A] w fun e w' => e = .returned (smV t) ∧ Below w.heap.size w w' := by
  cases t with
  | nil =>
    obtain rfl : A = none := h
    go_enter Try.func50, Try.ntmps50
    go_wp2
    refine bodyPost_ret (v := smV .nil) ?_ rfl ⟨rfl, (Below.refl _ w).alloc (Nat.le_refl _) _⟩
    simp [results, Try.results50, go_sem, *]
    rfl
  | node l p r =>
    obtain ⟨b, L, R, rfl, h1, ⟨c0, c1, c2, c3, c4, c5, c6, c7⟩, h3, h4⟩ := h
    go_enter Try.func50, Try.ntmps50
    go_wp2
    refine bodyPost_ret (v := smV (.node l p r)) ?_ rfl ⟨rfl, ?_⟩
    · simp [results, Try.results50, go_sem, *]
      try rfl
    · exact (Below.refl _ w).alloc (Nat.le_refl _) _
theorem retN_nil (w w' : World) (hb : Below w.heap.size w w') : RetN .nil w (.returned (.pointer none)) w' := ⟨none, rfl, rfl, hb⟩
/-- What a function of trees takes. -/
structure Fine (t : Tr) : Prop where
  size : t.bytes.length ≤ 200000
  pcs : t.pcs ≤ 200000
theorem Fine.dep {t : Tr} (h : Fine t) : t.dep ≤ 200000 := Nat.le_trans (Tr.dep_le t) h.pcs
theorem Fine.lf {t : Tr} (h : Fine t) : lf t.bytes ≤ 200000 := Nat.le_trans (Tr.lf_le t) h.size
theorem Fine.left {l r : Tr} {p : List UInt8} (h : Fine (.node l p r)) : Fine l := ⟨by have := h.size; simp only [Tr.bytes, List.length_append] at this; omega, by have := h.pcs; simp only [Tr.pcs] at this; omega⟩
theorem Fine.right {l r : Tr} {p : List UInt8} (h : Fine (.node l p r)) : Fine r := ⟨by have := h.size; simp only [Tr.bytes, List.length_append] at this; omega, by have := h.pcs; simp only [Tr.pcs] at this; omega⟩
theorem Fine.piece {l r : Tr} {p : List UInt8} (h : Fine (.node l p r)) : p.length ≤ 200000 := by have := h.size; simp only [Tr.bytes, List.length_append] at this; omega
/-- A tree of no more bytes and no more pieces. -/
theorem Fine.of {t s : Tr} (h : Fine t) (h1 : s.bytes.length ≤ t.bytes.length) (h2 : s.pcs ≤ t.pcs) : Fine s := ⟨Nat.le_trans h1 h.size, Nat.le_trans h2 h.pcs⟩
theorem nat_new {l r : Tr} {p : List UInt8} {L R : Option Addr} (W : World) (hl : NAt W l L) (hr : NAt W r R) {a b c d : Int} (ha : a = ((Tr.node l p r).bytes.length : Nat)) (hb : b = (lf (Tr.node l p r).bytes : Nat)) (hc : c = ((Tr.node l p r).pcs : Nat)) (hd : d = ((Tr.node l p r).dep : Nat)) :
    NAt (W.alloc (.cells #[.pointer L, .pointer R, .string (bs p), .int .i64 (lf p : Nat), .int .i64 a, .int .i64 b, .int .i64 c, .int .i64 d] 97)) (.node l p r) (some ⟨W.heap.size, 0, none⟩) := by
  subst ha
  subst hb
  subst hc
  subst hd
  have k : Below W.heap.size W (W.alloc (.cells #[.pointer L, .pointer R, .string (bs p), .int .i64 (lf p : Nat), .int .i64 ((Tr.node l p r).bytes.length : Nat), .int .i64 (lf (Tr.node l p r).bytes : Nat), .int .i64 ((Tr.node l p r).pcs : Nat), .int .i64 ((Tr.node l p r).dep : Nat)] 97)) := (Below.refl _ W).alloc (Nat.le_refl _) _
  refine ⟨_, L, R, rfl, by rw [World.size_alloc]; exact Nat.lt_succ_self _, ?_, NAt.below k hl, NAt.below k hr⟩
  unfold NdAt
  refine ⟨?_, ?_, ?_, ?_, ?_, ?_, ?_, ?_⟩ <;> (rw [World.cell?_alloc_new]; rfl)
set_option maxRecDepth 100000 in
set_option maxHeartbeats 4000000 in
theorem newNode_any {l r : Tr} {p : List UInt8} {L R : Option Addr} (w : World) (fl : Fine l) (fr : Fine r) (hp : p.length ≤ 200000) (hl : NAt w l L) (hr : NAt w r R) :
    Calls Try.prog 60 #[.pointer L, pcV p, .pointer R] w (RetN (.node l p r) w) := by
  have b1 := fl.size
  have b2 := fl.pcs
  have b3 := fl.dep
  have b4 := fl.lf
  have d1 := fr.size
  have d2 := fr.pcs
  have d3 := fr.dep
  have d4 := fr.lf
  have e4 : lf p ≤ p.length := List.count_le_length
  have hs : (bs p).size = p.length := bs_size p
  have hB0 : Below w.heap.size w (w.alloc (.cells #[.string (bs p), .int .i64 (lf p : Nat)] 92)) := (Below.refl _ w).alloc (Nat.le_refl _) _
  have z0 : (w.alloc (.cells #[.string (bs p), .int .i64 (lf p : Nat)] 92)).cell? ⟨w.heap.size, 0, none⟩ = some (.string (bs p)) := by rw [World.cell?_alloc_new]; rfl
  have z1 : (w.alloc (.cells #[.string (bs p), .int .i64 (lf p : Nat)] 92)).cell? ⟨w.heap.size, 1, none⟩ = some (.int .i64 (lf p : Nat)) := by rw [World.cell?_alloc_new]; rfl
  have hz : (w.alloc (.cells #[.string (bs p), .int .i64 (lf p : Nat)] 92)).heap.size = w.heap.size + 1 := World.size_alloc _ _
  unfold pcV
  go_enter Try.func60, Try.ntmps60
  go_wp2_with fail
  refine (total_any _ (NAt.below hB0 hl)).mono ?_
  rintro e w1 ⟨rfl, k1⟩
  unfold smV
  have s1 := k1.size
  rw [hz] at s1
  have y0 := (k1.cell (p := ⟨w.heap.size, 0, none⟩) (by rw [hz]; exact Nat.lt_succ_self _)).trans z0
  have y1 := (k1.cell (p := ⟨w.heap.size, 1, none⟩) (by rw [hz]; exact Nat.lt_succ_self _)).trans z1
  have hB1 := hB0.trans (k1.mono (by rw [hz]; exact Nat.le_succ _))
  go_wp2_with fail
  refine (total_any _ (NAt.below hB1 hr)).mono ?_
  rintro e w2 ⟨rfl, k2⟩
  unfold smV
  have s2 := k2.size
  have x0 := (k2.cell (p := ⟨w.heap.size, 0, none⟩) s1).trans y0
  have x1 := (k2.cell (p := ⟨w.heap.size, 1, none⟩) s1).trans y1
  have hB2 := hB1.trans (k2.mono (by omega))
  have hl2 := NAt.below hB2 hl
  have hr2 := NAt.below hB2 hr
  have s3 : w.heap.size < w2.heap.size := by omega
  have s4 : w.heap.size < w2.heap.size + 1 := by omega
  have hs1 : (bs p).size ≤ 200000 := by omega
  clear y0 y1 z0 z1 k1 k2 hB0 hB1 hz
  have hB3 : Below w.heap.size w ((w2.alloc (.cells #[.int .i64 (l.bytes.length : Nat), .int .i64 (lf l.bytes : Nat), .int .i64 (l.pcs : Nat), .int .i64 (l.dep : Nat)] 75)).alloc (.cells #[.int .i64 (r.bytes.length : Nat), .int .i64 (lf r.bytes : Nat), .int .i64 (r.pcs : Nat), .int .i64 (r.dep : Nat)] 75)) := (hB2.alloc (by omega) _).alloc (by rw [World.size_alloc]; omega) _
  have hB4 : Below w2.heap.size w2 ((w2.alloc (.cells #[.int .i64 (l.bytes.length : Nat), .int .i64 (lf l.bytes : Nat), .int .i64 (l.pcs : Nat), .int .i64 (l.dep : Nat)] 75)).alloc (.cells #[.int .i64 (r.bytes.length : Nat), .int .i64 (lf r.bytes : Nat), .int .i64 (r.pcs : Nat), .int .i64 (r.dep : Nat)] 75)) := ((Below.refl _ w2).alloc (Nat.le_refl _) _).alloc (by rw [World.size_alloc]; exact Nat.le_succ _) _
  have hl3 := NAt.below hB4 hl2
  have hr3 := NAt.below hB4 hr2
  have e1 : ((l.bytes.length : Nat) : Int) + (p.length : Nat) + (r.bytes.length : Nat) = ((Tr.node l p r).bytes.length : Nat) := by simp only [Tr.bytes, List.length_append]; omega
  have e2 : ((lf l.bytes : Nat) : Int) + (lf p : Nat) + (lf r.bytes : Nat) = (lf (Tr.node l p r).bytes : Nat) := by simp only [Tr.bytes, lf_append]; omega
  have e3 : ((l.pcs : Nat) : Int) + 1 + (r.pcs : Nat) = ((Tr.node l p r).pcs : Nat) := by simp only [Tr.pcs]; omega
  go_wp2
  all_goals
    go_ret
    refine ⟨some ⟨w2.heap.size + 1 + 1, 0, none⟩, rfl, ?_, hB3.alloc (by rw [World.size_alloc, World.size_alloc]; omega) _⟩
    first
      | (have := nat_new _ hl3 hr3 rfl rfl rfl (p := p) (d := ((l.dep : Nat) : Int) + 1) (by simp only [Tr.dep]; omega)
         rw [World.size_alloc, World.size_alloc] at this
         exact this)
      | (have := nat_new _ hl3 hr3 rfl rfl rfl (p := p) (d := ((r.dep : Nat) : Int) + 1) (by simp only [Tr.dep]; omega)
         rw [World.size_alloc, World.size_alloc] at this
         exact this)
end Go.Proofs.Ytonplacldckbgaa
