/- Layer 23: arguments: heads, decisions. -/
import Derived.Test.YtjhppkjngifibaaEF
import Derived.Test.YtjhppkjngifibaaEG
import Derived.Deep.Slices
import Derived.Deep.Strs
import Derived.WalkKit
import Derived.ProofKit
import Derived.OpenShut
import Derived.ChangeOld
import Derived.Below
import Derived.Lib.SmallJoins
namespace Go.Proofs.Ytjhppkjngifibaa
open Go.RowKit Go.Lib Go.ChangeShapes Go.WideShapes Go.ChangeAt
set_option linter.unusedVariables false
set_option linter.unusedSimpArgs false

theorem c3' : Try.prog.cellsOf 3 = 1 := by kernel_rfl
theorem c4' : Try.prog.cellsOf 4 = 1 := by kernel_rfl
theorem c22' : Try.prog.cellsOf 22 = 1 := by kernel_rfl
theorem c23' : Try.prog.cellsOf 23 = 1 := by kernel_rfl
theorem c24' : Try.prog.cellsOf 24 = 1 := by kernel_rfl
theorem c29' : Try.prog.cellsOf 29 = 1 := by kernel_rfl
theorem c26' : Try.prog.cellsOf 26 = 4 := by kernel_rfl
theorem c28' : Try.prog.cellsOf 28 = 5 := by kernel_rfl
theorem c31' : Try.prog.cellsOf 31 = 2 := by kernel_rfl
theorem c61' : Try.prog.cellsOf 61 = 2 := by kernel_rfl
theorem c63' : Try.prog.cellsOf 63 = 3 := by kernel_rfl
theorem c59' : Try.prog.cellsOf 59 = 2 := by kernel_rfl
theorem c74' : Try.prog.cellsOf 74 = 4 := by kernel_rfl
theorem wf_i64 {x : Int} (h : (Lit.int .i64 x).wf = true) : I64 x := by
  unfold I64
  simp [Lit.wf, IntKind.bits, IntKind.signed, IntKind.min, IntKind.max] at h
  omega
theorem addN {a : Addr} {w : World} {v : Value} (h : w.cell? (a.add 0) = some v) : a.spot = none := by simpa [Addr.add] using World.cell?_spot h
theorem add_lit' (b o i : Nat) : ((⟨b, o, none⟩ : Addr).add i) = ⟨b, o + i, none⟩ := by unfold Addr.add; split <;> simp_all
section
variable {H : Type} {enc : TypeId × Value → H} {w : World} {fuel : Nat}
set_option maxRecDepth 100000 in
theorem open_eP {cs : List Value} (hl : cs.length = 2) {x : DataW H × List MemPlace} (h : DataW.trod enc Try.prog w 0 (fun _ => true) true fuel 61 cs = some x) :
    ∃ q : Pr, cs = [.int .i64 q.1, .int .i64 q.2] ∧ (I64 q.1 ∧ I64 q.2) := by
  obtain ⟨xs, k, _, _, _, hxl, hf⟩ := DataW.trod_struct Try.underlying61 h
  match xs, hxl, cs, hl with
  | [y0, y1], _, [v0, v1], _ =>
    have g0 := hf 0 _ rfl
    have g1 := hf 1 _ rfl
    simp [c3', c4'] at g0 g1
    obtain ⟨z0, p0, _, w0⟩ := DataW.trod_int Try.underlying3 g0
    obtain ⟨z1, p1, _, w1⟩ := DataW.trod_int Try.underlying3 g1
    simp only [List.cons.injEq, and_true] at p0 p1
    subst p0 p1
    exact ⟨(z0, z1), rfl, wf_i64 w0, wf_i64 w1⟩
/-- All numbers of a list are 64-bit. -/
def InP (l : List Pr) : Prop := ∀ q ∈ l, I64 q.1 ∧ I64 q.2
set_option maxRecDepth 100000 in
theorem open_P {cs : List Value} {x : DataW H × List MemPlace} (h : DataW.trod enc Try.prog w 0 (fun _ => true) true fuel 22 cs = some x) :
    ∃ (A : Option Addr) (c : Nat) (l : List Pr), cs = [.slice A l.length c] ∧ l.length ≤ c ∧ c ≤ maxLen ∧ AtP w A l ∧ InP l := by
  rcases Go.Deep.open_slice Try.underlying22 h with ⟨hcs, _⟩ | ⟨a, len, cap, m, n, D, Pl, hcs, _, hl, hm, hmm, _, hat⟩
  · exact ⟨none, 0, [], hcs, Nat.le_refl _, by decide, .inl rfl, by intro x hx; cases hx⟩
  · simp only [if_true] at hmm
    subst hmm
    have each : ∀ i, i < len → ∃ q : Pr, w.cell? (a.add (i * 2)) ≠ none ∧ (I64 q.1 ∧ I64 q.2) ∧ ∀ b o, a = ⟨b, o, none⟩ → ElP w b (o + i * 2) q := by
      intro i hi
      obtain ⟨cs', h1, h2⟩ := hat i (by omega)
      rw [c61'] at h1
      obtain ⟨_, hlen, hcell⟩ := World.cells?_some h1
      obtain ⟨q, hcs', p4⟩ := open_eP hlen h2
      subst hcs'
      refine ⟨q, ?_, p4, fun b o e => ?_⟩
      · have := hcell 0 (by omega)
        rw [Go.Deep.add_add] at this
        intro h
        rw [show i * 2 + 0 = i * 2 by omega, h] at this
        simp at this
      · subst e
        have ee := fun j (hj : j < 2) => hcell j hj
        simp only [add_lit'] at ee
        exact ⟨ee 0 (by omega), ee 1 (by omega)⟩
    obtain ⟨q, hq⟩ := Go.Deep.choose_lt each
    have hall : InP ((List.range len).map q) := by
      intro x hx
      obtain ⟨i, hi, rfl⟩ := List.mem_map.1 hx
      exact (hq i (List.mem_range.1 hi)).2.1
    refine ⟨some a, m, (List.range len).map q, by rw [hcs]; simp, by simpa using hl, hm, ?_, hall⟩
    by_cases h0 : len = 0
    · subst h0; exact .inl rfl
    obtain ⟨b, off, spot⟩ := a
    obtain ⟨v, hv⟩ := Option.ne_none_iff_exists'.1 (hq 0 (by omega)).1
    have hspot : spot = none := addN (a := ⟨b, off, spot⟩) (by simpa using hv)
    subst hspot
    have hg : b < w.heap.size := World.block_lt_of_cell? w ⟨b, off + 0 * 2, none⟩ (by rw [add_lit'] at hv; exact hv)
    refine .inr ⟨b, off, rfl, hg, fun k hk => ?_⟩
    have hk' : k < len := by simpa using hk
    simp only [List.getElem_map, List.getElem_range]
    exact (hq k hk').2.2 b off rfl
set_option maxRecDepth 100000 in
theorem open_eD {cs : List Value} (hl : cs.length = 2) {x : DataW H × List MemPlace} (h : DataW.trod enc Try.prog w 0 (fun _ => true) true fuel 59 cs = some x) :
    ∃ q : Dl, cs = [.int .i64 q.rev, .int .i64 q.move] ∧ (I64 q.rev ∧ I64 q.move) := by
  obtain ⟨xs, k, _, _, _, hxl, hf⟩ := DataW.trod_struct Try.underlying59 h
  match xs, hxl, cs, hl with
  | [y0, y1], _, [v0, v1], _ =>
    have g0 := hf 0 _ rfl
    have g1 := hf 1 _ rfl
    simp [c3', c4'] at g0 g1
    obtain ⟨z0, p0, _, w0⟩ := DataW.trod_int Try.underlying3 g0
    obtain ⟨z1, p1, _, w1⟩ := DataW.trod_int Try.underlying3 g1
    simp only [List.cons.injEq, and_true] at p0 p1
    subst p0 p1
    exact ⟨⟨z0, z1⟩, rfl, wf_i64 w0, wf_i64 w1⟩
/-- All numbers of a list are 64-bit. -/
def InD (l : List Dl) : Prop := ∀ q ∈ l, I64 q.rev ∧ I64 q.move
set_option maxRecDepth 100000 in
theorem open_D {cs : List Value} {x : DataW H × List MemPlace} (h : DataW.trod enc Try.prog w 0 (fun _ => true) true fuel 23 cs = some x) :
    ∃ (A : Option Addr) (c : Nat) (l : List Dl), cs = [.slice A l.length c] ∧ l.length ≤ c ∧ c ≤ maxLen ∧ AtD w A l ∧ InD l := by
  rcases Go.Deep.open_slice Try.underlying23 h with ⟨hcs, _⟩ | ⟨a, len, cap, m, n, D, Pl, hcs, _, hl, hm, hmm, _, hat⟩
  · exact ⟨none, 0, [], hcs, Nat.le_refl _, by decide, .inl rfl, by intro x hx; cases hx⟩
  · simp only [if_true] at hmm
    subst hmm
    have each : ∀ i, i < len → ∃ q : Dl, w.cell? (a.add (i * 2)) ≠ none ∧ (I64 q.rev ∧ I64 q.move) ∧ ∀ b o, a = ⟨b, o, none⟩ → ElD w b (o + i * 2) q := by
      intro i hi
      obtain ⟨cs', h1, h2⟩ := hat i (by omega)
      rw [c59'] at h1
      obtain ⟨_, hlen, hcell⟩ := World.cells?_some h1
      obtain ⟨q, hcs', p4⟩ := open_eD hlen h2
      subst hcs'
      refine ⟨q, ?_, p4, fun b o e => ?_⟩
      · have := hcell 0 (by omega)
        rw [Go.Deep.add_add] at this
        intro h
        rw [show i * 2 + 0 = i * 2 by omega, h] at this
        simp at this
      · subst e
        have ee := fun j (hj : j < 2) => hcell j hj
        simp only [add_lit'] at ee
        exact ⟨ee 0 (by omega), ee 1 (by omega)⟩
    obtain ⟨q, hq⟩ := Go.Deep.choose_lt each
    have hall : InD ((List.range len).map q) := by
      intro x hx
      obtain ⟨i, hi, rfl⟩ := List.mem_map.1 hx
      exact (hq i (List.mem_range.1 hi)).2.1
    refine ⟨some a, m, (List.range len).map q, by rw [hcs]; simp, by simpa using hl, hm, ?_, hall⟩
    by_cases h0 : len = 0
    · subst h0; exact .inl rfl
    obtain ⟨b, off, spot⟩ := a
    obtain ⟨v, hv⟩ := Option.ne_none_iff_exists'.1 (hq 0 (by omega)).1
    have hspot : spot = none := addN (a := ⟨b, off, spot⟩) (by simpa using hv)
    subst hspot
    have hg : b < w.heap.size := World.block_lt_of_cell? w ⟨b, off + 0 * 2, none⟩ (by rw [add_lit'] at hv; exact hv)
    refine .inr ⟨b, off, rfl, hg, fun k hk => ?_⟩
    have hk' : k < len := by simpa using hk
    simp only [List.getElem_map, List.getElem_range]
    exact (hq k hk').2.2 b off rfl
set_option maxRecDepth 100000 in
theorem open_eL {cs : List Value} (hl : cs.length = 4) {x : DataW H × List MemPlace} (h : DataW.trod enc Try.prog w 0 (fun _ => true) true fuel 74 cs = some x) :
    ∃ q : Ly, cs = [.int .i64 q.rev, .int .i64 q.key, .int .i64 q.bef, .bool q.had] ∧ (I64 q.rev ∧ I64 q.key ∧ I64 q.bef) := by
  obtain ⟨xs, k, _, _, _, hxl, hf⟩ := DataW.trod_struct Try.underlying74 h
  match xs, hxl, cs, hl with
  | [y0, y1, y2, y3], _, [v0, v1, v2, v3], _ =>
    have g0 := hf 0 _ rfl
    have g1 := hf 1 _ rfl
    have g2 := hf 2 _ rfl
    have g3 := hf 3 _ rfl
    simp [c3', c4'] at g0 g1 g2 g3
    obtain ⟨z0, p0, _, w0⟩ := DataW.trod_int Try.underlying3 g0
    obtain ⟨z1, p1, _, w1⟩ := DataW.trod_int Try.underlying3 g1
    obtain ⟨z2, p2, _, w2⟩ := DataW.trod_int Try.underlying3 g2
    obtain ⟨z3, p3, _⟩ := DataW.trod_bool Try.underlying4 g3
    simp only [List.cons.injEq, and_true] at p0 p1 p2 p3
    subst p0 p1 p2 p3
    exact ⟨⟨z0, z1, z2, z3⟩, rfl, wf_i64 w0, wf_i64 w1, wf_i64 w2⟩
/-- All numbers of a list are 64-bit. -/
def InL (l : List Ly) : Prop := ∀ q ∈ l, I64 q.rev ∧ I64 q.key ∧ I64 q.bef
set_option maxRecDepth 100000 in
theorem open_L {cs : List Value} {x : DataW H × List MemPlace} (h : DataW.trod enc Try.prog w 0 (fun _ => true) true fuel 24 cs = some x) :
    ∃ (A : Option Addr) (c : Nat) (l : List Ly), cs = [.slice A l.length c] ∧ l.length ≤ c ∧ c ≤ maxLen ∧ AtL w A l ∧ InL l := by
  rcases Go.Deep.open_slice Try.underlying24 h with ⟨hcs, _⟩ | ⟨a, len, cap, m, n, D, Pl, hcs, _, hl, hm, hmm, _, hat⟩
  · exact ⟨none, 0, [], hcs, Nat.le_refl _, by decide, .inl rfl, by intro x hx; cases hx⟩
  · simp only [if_true] at hmm
    subst hmm
    have each : ∀ i, i < len → ∃ q : Ly, w.cell? (a.add (i * 4)) ≠ none ∧ (I64 q.rev ∧ I64 q.key ∧ I64 q.bef) ∧ ∀ b o, a = ⟨b, o, none⟩ → ElL w b (o + i * 4) q := by
      intro i hi
      obtain ⟨cs', h1, h2⟩ := hat i (by omega)
      rw [c74'] at h1
      obtain ⟨_, hlen, hcell⟩ := World.cells?_some h1
      obtain ⟨q, hcs', p4⟩ := open_eL hlen h2
      subst hcs'
      refine ⟨q, ?_, p4, fun b o e => ?_⟩
      · have := hcell 0 (by omega)
        rw [Go.Deep.add_add] at this
        intro h
        rw [show i * 4 + 0 = i * 4 by omega, h] at this
        simp at this
      · subst e
        have ee := fun j (hj : j < 4) => hcell j hj
        simp only [add_lit'] at ee
        exact ⟨ee 0 (by omega), ee 1 (by omega), ee 2 (by omega), ee 3 (by omega)⟩
    obtain ⟨q, hq⟩ := Go.Deep.choose_lt each
    have hall : InL ((List.range len).map q) := by
      intro x hx
      obtain ⟨i, hi, rfl⟩ := List.mem_map.1 hx
      exact (hq i (List.mem_range.1 hi)).2.1
    refine ⟨some a, m, (List.range len).map q, by rw [hcs]; simp, by simpa using hl, hm, ?_, hall⟩
    by_cases h0 : len = 0
    · subst h0; exact .inl rfl
    obtain ⟨b, off, spot⟩ := a
    obtain ⟨v, hv⟩ := Option.ne_none_iff_exists'.1 (hq 0 (by omega)).1
    have hspot : spot = none := addN (a := ⟨b, off, spot⟩) (by simpa using hv)
    subst hspot
    have hg : b < w.heap.size := World.block_lt_of_cell? w ⟨b, off + 0 * 4, none⟩ (by rw [add_lit'] at hv; exact hv)
    refine .inr ⟨b, off, rfl, hg, fun k hk => ?_⟩
    have hk' : k < len := by simpa using hk
    simp only [List.getElem_map, List.getElem_range]
    exact (hq k hk').2.2 b off rfl
set_option maxRecDepth 100000 in
theorem open_nums {cs : List Value} {x : DataW H × List MemPlace} (h : DataW.trod enc Try.prog w 0 (fun _ => true) true fuel 29 cs = some x) :
    ∃ (A : Option Addr) (c : Nat) (l : List Int), cs = [.slice A l.length c] ∧ l.length ≤ c ∧ c ≤ maxLen ∧ NsAt w A l ∧ ∀ y ∈ l, I64 y := by
  rcases Go.Deep.open_slice Try.underlying29 h with ⟨hcs, _⟩ | ⟨a, len, cap, m, n, D, Pl, hcs, _, hl, hm, hmm, _, hat⟩
  · exact ⟨none, 0, [], hcs, Nat.le_refl _, by decide, .inl rfl, by intro x hx; cases hx⟩
  · simp only [if_true] at hmm
    subst hmm
    have each : ∀ i, i < len → ∃ y : Int, w.cell? (a.add i) = some (.int .i64 y) ∧ I64 y := by
      intro i hi
      obtain ⟨cs', h1, h2⟩ := hat i (by omega)
      rw [c3'] at h1
      obtain ⟨_, hlen, hcell⟩ := World.cells?_some h1
      match cs', hlen with
      | [v0], _ =>
        obtain ⟨z0, p0, _, w0⟩ := DataW.trod_int Try.underlying3 h2
        simp only [List.cons.injEq, and_true] at p0
        subst p0
        have := hcell 0 (by omega)
        rw [Go.Deep.add_add] at this
        exact ⟨z0, by simpa using this, wf_i64 w0⟩
    obtain ⟨q, hq⟩ := Go.Deep.choose_lt each
    refine ⟨some a, m, (List.range len).map q, by rw [hcs]; simp, by simpa using hl, hm, ?_, fun y hy => by obtain ⟨i, hi, rfl⟩ := List.mem_map.1 hy; exact (hq i (List.mem_range.1 hi)).2⟩
    by_cases h0 : len = 0
    · subst h0; exact .inl rfl
    obtain ⟨b, off, spot⟩ := a
    have hv := (hq 0 (by omega)).1
    have hspot : spot = none := addN (a := ⟨b, off, spot⟩) hv
    subst hspot
    have hg : b < w.heap.size := World.block_lt_of_cell? w ⟨b, off + 0, none⟩ (by rw [add_lit'] at hv; exact hv)
    refine .inr ⟨b, off, rfl, hg, fun k hk => ?_⟩
    have hk' : k < len := by simpa using hk
    simp only [List.getElem_map, List.getElem_range]
    have := (hq k hk').1
    rw [add_lit'] at this
    exact this

/-- A head that came in. -/
structure HIn (w : World) (A B C : Option Addr) (cp cd cl : Nat) (h : Hd) : Prop where
  at' : HAt w A B C h.props.length cp h.dels.length cd h.lays.length cl h
  p : InP h.props
  d : InD h.dels
  l : InL h.lays
  i : I64 h.ins
  m : I64 h.move
set_option maxRecDepth 100000 in
theorem open_marks {cs : List Value} (hl : cs.length = 4) {x : DataW H × List MemPlace} (h : DataW.trod enc Try.prog w 0 (fun _ => true) true fuel 26 cs = some x) :
    ∃ (i m : Int) (B C : Option Addr) (cd cl : Nat) (dl : List Dl) (ll : List Ly), cs = [.int .i64 i, .int .i64 m, .slice B dl.length cd, .slice C ll.length cl] ∧ I64 i ∧ I64 m ∧ (dl.length ≤ cd ∧ cd ≤ maxLen ∧ AtD w B dl ∧ InD dl) ∧ (ll.length ≤ cl ∧ cl ≤ maxLen ∧ AtL w C ll ∧ InL ll) := by
  obtain ⟨xs, k, _, _, _, hxl, hf⟩ := DataW.trod_struct Try.underlying26 h
  match xs, hxl, cs, hl with
  | [y0, y1, y2, y3], _, [v0, v1, v2, v3], _ =>
    have g0 := hf 0 _ rfl
    have g1 := hf 1 _ rfl
    have g2 := hf 2 _ rfl
    have g3 := hf 3 _ rfl
    simp [c3', c23', c24'] at g0 g1 g2 g3
    obtain ⟨z0, p0, _, w0⟩ := DataW.trod_int Try.underlying3 g0
    obtain ⟨z1, p1, _, w1⟩ := DataW.trod_int Try.underlying3 g1
    obtain ⟨B, cd, dl, p2, q2⟩ := open_D g2
    obtain ⟨C, cl, ll, p3, q3⟩ := open_L g3
    simp only [List.cons.injEq, and_true] at p0 p1 p2 p3
    subst p0 p1 p2 p3
    exact ⟨z0, z1, B, C, cd, cl, dl, ll, rfl, wf_i64 w0, wf_i64 w1, q2, q3⟩
set_option maxRecDepth 100000 in
theorem open_head {cs : List Value} (hl : cs.length = 5) {x : DataW H × List MemPlace} (h : DataW.trod enc Try.prog w 0 (fun _ => true) true fuel 28 cs = some x) :
    ∃ (h : Hd) (A B C : Option Addr) (cp cd cl : Nat), cs = [.slice A h.props.length cp, .int .i64 h.ins, .int .i64 h.move, .slice B h.dels.length cd, .slice C h.lays.length cl] ∧ HIn w A B C cp cd cl h := by
  obtain ⟨xs, k, _, _, _, hxl, hf⟩ := DataW.trod_struct Try.underlying28 h
  match xs, hxl, cs, hl with
  | [y0, y1], _, [v0, v1, v2, v3, v4], _ =>
    have g0 := hf 0 _ rfl
    have g1 := hf 1 _ rfl
    simp [c22', c26'] at g0 g1
    obtain ⟨A, cp, pl, p0, q1, q2, q3, q4⟩ := open_P g0
    obtain ⟨i, m, B, C, cd, cl, dl, ll, p1, w0, w1, r2, r3⟩ := open_marks (by simp) g1
    simp only [List.cons.injEq, and_true] at p0 p1
    obtain ⟨rfl, rfl, rfl, rfl⟩ := p1
    subst p0
    exact ⟨⟨pl, i, m, dl, ll⟩, A, B, C, cp, cd, cl, rfl, ⟨⟨q3, r2.2.2.1, r3.2.2.1, rfl, rfl, rfl, ⟨q1, q2⟩, ⟨r2.1, r2.2.1⟩, ⟨r3.1, r3.2.1⟩⟩, q4, r2.2.2.2, r3.2.2.2, w0, w1⟩⟩
/-- A decision that came in. -/
structure DIn (w : World) (A B : Option Addr) (ca cb : Nat) (la lr : List Int) : Prop where
  a : NsAt w A la
  r : NsAt w B lr
  ca : la.length ≤ ca ∧ ca ≤ maxLen
  cr : lr.length ≤ cb ∧ cb ≤ maxLen
  ia : ∀ y ∈ la, I64 y
  ir : ∀ y ∈ lr, I64 y
set_option maxRecDepth 100000 in
theorem open_dec {cs : List Value} (hl : cs.length = 2) {x : DataW H × List MemPlace} (h : DataW.trod enc Try.prog w 0 (fun _ => true) true fuel 31 cs = some x) :
    ∃ (la lr : List Int) (A B : Option Addr) (ca cb : Nat), cs = [.slice A la.length ca, .slice B lr.length cb] ∧ DIn w A B ca cb la lr := by
  obtain ⟨xs, k, _, _, _, hxl, hf⟩ := DataW.trod_struct Try.underlying31 h
  match xs, hxl, cs, hl with
  | [y0, y1], _, [v0, v1], _ =>
    have g0 := hf 0 _ rfl
    have g1 := hf 1 _ rfl
    simp [c29'] at g0 g1
    obtain ⟨A, ca, la, p0, q1, q2, q3, q4⟩ := open_nums g0
    obtain ⟨B, cb, lr, p1, r1, r2, r3, r4⟩ := open_nums g1
    simp only [List.cons.injEq, and_true] at p0 p1
    subst p0 p1
    exact ⟨la, lr, A, B, ca, cb, rfl, ⟨q3, r3, ⟨q1, q2⟩, ⟨r1, r2⟩, q4, r4⟩⟩
end
set_option maxRecDepth 100000 in
theorem open_headv {H : Type} {enc : TypeId × Value → H} {w : World} {r : Reach} {b0 : Nat} {v : Value} {d : DataW H} {p : List MemPlace} (hv : Value.okWide Try.prog w r b0 28 v) (h : DataW.Trod enc Try.prog w 0 (fun _ => true) true 28 v d p) : ∃ (h : Hd) (A B C : Option Addr) (cp cd cl : Nat), v = hdV A B C h.props.length cp h.dels.length cd h.lays.length cl h.ins h.move ∧ HIn w A B C cp cd cl h := by
  obtain ⟨cs, rfl, hsz⟩ := okWide_struct Try.underlying28 hv
  obtain ⟨fuel, hf⟩ := h
  obtain ⟨f, A, B, C, cp, cd, cl, hcs, hq⟩ := open_head (by rw [c28'] at hsz; simpa [Value.cells] using hsz) hf
  refine ⟨f, A, B, C, cp, cd, cl, ?_, hq⟩
  have : cs.toList = [.slice A f.props.length cp, .int .i64 f.ins, .int .i64 f.move, .slice B f.dels.length cd, .slice C f.lays.length cl] := by simpa [Value.cells] using hcs
  rw [← Array.toArray_toList (xs := cs), this]; rfl
set_option maxRecDepth 100000 in
theorem open_decv {H : Type} {enc : TypeId × Value → H} {w : World} {r : Reach} {b0 : Nat} {v : Value} {d : DataW H} {p : List MemPlace} (hv : Value.okWide Try.prog w r b0 31 v) (h : DataW.Trod enc Try.prog w 0 (fun _ => true) true 31 v d p) : ∃ (la lr : List Int) (A B : Option Addr) (ca cb : Nat), v = .agg #[.slice A la.length ca, .slice B lr.length cb] ∧ DIn w A B ca cb la lr := by
  obtain ⟨cs, rfl, hsz⟩ := okWide_struct Try.underlying31 hv
  obtain ⟨fuel, hf⟩ := h
  obtain ⟨la, lr, A, B, ca, cb, hcs, hq⟩ := open_dec (by rw [c31'] at hsz; simpa [Value.cells] using hsz) hf
  refine ⟨la, lr, A, B, ca, cb, ?_, hq⟩
  have : cs.toList = [.slice A la.length ca, .slice B lr.length cb] := by simpa [Value.cells] using hcs
  rw [← Array.toArray_toList (xs := cs), this]
end Go.Proofs.Ytjhppkjngifibaa
