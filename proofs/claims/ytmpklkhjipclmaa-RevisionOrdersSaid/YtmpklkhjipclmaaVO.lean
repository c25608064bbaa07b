/- Layer 22: arguments: tables, revisions, numbers, filters. -/
import Derived.Test.YtmpklkhjipclmaaVB
import Derived.Deep.Slices
import Derived.Deep.Strs
import Derived.WalkKit
import Derived.ProofKit
import Derived.OpenShut
import Derived.ChangeOld
import Derived.Below
import Derived.Lib.SmallJoins
namespace Go.Proofs.Ytmpklkhjipclmaa
open Go.RowKit Go.Lib Go.ChangeShapes Go.WideShapes Go.ChangeAt
set_option linter.unusedVariables false

theorem c3' : Try.prog.cellsOf 3 = 1 := by kernel_rfl
theorem c9' : Try.prog.cellsOf 9 = 1 := by kernel_rfl
theorem c32' : Try.prog.cellsOf 32 = 1 := by kernel_rfl
theorem c50' : Try.prog.cellsOf 50 = 1 := by kernel_rfl
theorem c23' : Try.prog.cellsOf 23 = 3 := by kernel_rfl
theorem c52' : Try.prog.cellsOf 52 = 4 := by kernel_rfl
theorem wf_i64 {x : Int} (h : (Lit.int .i64 x).wf = true) : I64 x := by
  unfold I64
  simp [Lit.wf, IntKind.bits, IntKind.signed, IntKind.min, IntKind.max] at h
  omega
section
variable {H : Type} {enc : TypeId × Value → H} {w : World} {fuel : Nat}
theorem leaf {t e : TypeId} {cs : List Value} {x : DataW H × List MemPlace} (ht : Try.prog.underlying t = some (.slice e)) (h : DataW.trod enc Try.prog w 0 (fun _ => true) true fuel t cs = some x) : ∃ (A : Option Addr) (n c : Nat), cs = [.slice A n c] := by
  rcases Go.Deep.open_slice ht h with ⟨hcs, _⟩ | ⟨a, len', cap', m, n, D, Pl, hcs, _⟩
  · exact ⟨_, _, _, hcs⟩
  · exact ⟨_, _, _, hcs⟩
theorem addN {a : Addr} {w : World} {v : Value} (h : w.cell? (a.add 0) = some v) : a.spot = none := by simpa [Addr.add] using World.cell?_spot h
theorem add_lit' (b o i : Nat) : ((⟨b, o, none⟩ : Addr).add i) = ⟨b, o + i, none⟩ := by unfold Addr.add; split <;> simp_all
set_option maxRecDepth 100000 in
theorem open_rev {cs : List Value} (hl : cs.length = 3) {x : DataW H × List MemPlace} (h : DataW.trod enc Try.prog w 0 (fun _ => true) true fuel 23 cs = some x) :
    ∃ q : Rv, cs = [.int .i64 q.id, .string q.author, .int .i64 q.time] ∧ I64 q.id ∧ I64 q.time ∧ q.author.size ≤ maxLen := by
  obtain ⟨xs, k, _, _, _, hxl, hf⟩ := DataW.trod_struct Try.underlying23 h
  match xs, hxl, cs, hl with
  | [y0, y1, y2], _, [v0, v1, v2], _ =>
    have g0 := hf 0 _ rfl
    have g1 := hf 1 _ rfl
    have g2 := hf 2 _ rfl
    simp [c3', c9'] at g0 g1 g2
    obtain ⟨z0, p0, _, w0⟩ := DataW.trod_int Try.underlying3 g0
    obtain ⟨z1, p1, _, w1⟩ := DataW.trod_string Try.underlying9 g1
    obtain ⟨z2, p2, _, w2⟩ := DataW.trod_int Try.underlying3 g2
    simp only [List.cons.injEq, and_true] at p0 p1 p2
    subst p0 p1 p2
    exact ⟨⟨z0, z1, z2⟩, rfl, wf_i64 w0, wf_i64 w2, w1⟩
set_option maxRecDepth 100000 in
theorem open_revs {cs : List Value} {x : DataW H × List MemPlace} (h : DataW.trod enc Try.prog w 0 (fun _ => true) true fuel 24 cs = some x) :
    ∃ (A : Option Addr) (c : Nat) (l : List Rv), cs = [.slice A l.length c] ∧ l.length ≤ c ∧ c ≤ maxLen ∧ RsAt w A l ∧ RsOk l := by
  rcases Go.Deep.open_slice Try.underlying24 h with ⟨hcs, _⟩ | ⟨a, len, cap, m, n, D, Pl, hcs, _, hl, hm, hmm, _, hat⟩
  · exact ⟨none, 0, [], hcs, Nat.le_refl _, by decide, .inl rfl, by intro x hx; cases hx⟩
  · simp only [if_true] at hmm
    subst hmm
    have each : ∀ i, i < len → ∃ q : Rv, w.cell? (a.add (i * 3)) ≠ none ∧ (I64 q.id ∧ I64 q.time ∧ q.author.size ≤ maxLen) ∧ ∀ b o, a = ⟨b, o, none⟩ → RvAt w b (o + i * 3) q := by
      intro i hi
      obtain ⟨cs', h1, h2⟩ := hat i (by omega)
      rw [c23'] at h1
      obtain ⟨_, hlen, hcell⟩ := World.cells?_some h1
      obtain ⟨q, hcs', p4⟩ := open_rev hlen h2
      subst hcs'
      refine ⟨q, ?_, p4, fun b o e => ?_⟩
      · have := hcell 0 (by omega)
        rw [Go.Deep.add_add] at this
        intro h
        rw [show i * 3 + 0 = i * 3 by omega, h] at this
        simp at this
      · subst e
        have ee := fun j (hj : j < 3) => hcell j hj
        simp only [add_lit'] at ee
        exact ⟨ee 0 (by omega), ee 1 (by omega), ee 2 (by omega)⟩
    obtain ⟨q, hq⟩ := Go.Deep.choose_lt each
    have hall : RsOk ((List.range len).map q) := by
      intro x hx
      obtain ⟨i, hi, rfl⟩ := List.mem_map.1 hx
      exact (hq i (List.mem_range.1 hi)).2.1
    refine ⟨some a, m, (List.range len).map q, by rw [hcs]; simp, by simpa using hl, hm, ?_, hall⟩
    by_cases h0 : len = 0
    · subst h0; exact .inl rfl
    obtain ⟨b, off, spot⟩ := a
    obtain ⟨v, hv⟩ := Option.ne_none_iff_exists'.1 (hq 0 (by omega)).1
    have hspot : spot = none := addN (a := ⟨b, off, spot⟩) (by simpa using hv)
    subst hspot
    have hg : b < w.heap.size := World.block_lt_of_cell? w ⟨b, off + 0 * 3, none⟩ (by rw [add_lit'] at hv; exact hv)
    refine .inr ⟨b, off, rfl, hg, fun k hk => ?_⟩
    have hk' : k < len := by simpa using hk
    simp only [List.getElem_map, List.getElem_range]
    exact (hq k hk').2.2 b off rfl

set_option maxRecDepth 100000 in
theorem open_nums {cs : List Value} {x : DataW H × List MemPlace} (h : DataW.trod enc Try.prog w 0 (fun _ => true) true fuel 32 cs = some x) :
    ∃ (A : Option Addr) (c : Nat) (l : List Int), cs = [.slice A l.length c] ∧ l.length ≤ c ∧ c ≤ maxLen ∧ NsAt w A l ∧ ∀ y ∈ l, I64 y := by
  rcases Go.Deep.open_slice Try.underlying32 h with ⟨hcs, _⟩ | ⟨a, len, cap, m, n, D, Pl, hcs, _, hl, hm, hmm, _, hat⟩
  · exact ⟨none, 0, [], hcs, Nat.le_refl _, by decide, .inl rfl, by intro x hx; cases hx⟩
  · simp only [if_true] at hmm
    subst hmm
    have each : ∀ i, i < len → ∃ y : Int, w.cell? (a.add i) = some (.int .i64 y) ∧ I64 y := by
      intro i hi
      obtain ⟨cs', h1, h2⟩ := hat i (by omega)
      rw [c3'] at h1
      obtain ⟨_, hlen, hcell⟩ := World.cells?_some h1
      match cs', hlen with
      | [v0], _ =>
        obtain ⟨z0, p0, _, w0⟩ := DataW.trod_int Try.underlying3 h2
        simp only [List.cons.injEq, and_true] at p0
        subst p0
        have := hcell 0 (by omega)
        rw [Go.Deep.add_add] at this
        exact ⟨z0, by simpa using this, wf_i64 w0⟩
    obtain ⟨q, hq⟩ := Go.Deep.choose_lt each
    refine ⟨some a, m, (List.range len).map q, by rw [hcs]; simp, by simpa using hl, hm, ?_, fun y hy => by obtain ⟨i, hi, rfl⟩ := List.mem_map.1 hy; exact (hq i (List.mem_range.1 hi)).2⟩
    by_cases h0 : len = 0
    · subst h0; exact .inl rfl
    obtain ⟨b, off, spot⟩ := a
    have hv := (hq 0 (by omega)).1
    have hspot : spot = none := addN (a := ⟨b, off, spot⟩) hv
    subst hspot
    have hg : b < w.heap.size := World.block_lt_of_cell? w ⟨b, off + 0, none⟩ (by rw [add_lit'] at hv; exact hv)
    refine .inr ⟨b, off, rfl, hg, fun k hk => ?_⟩
    have hk' : k < len := by simpa using hk
    simp only [List.getElem_map, List.getElem_range]
    have := (hq k hk').1
    rw [add_lit'] at this
    exact this

set_option maxRecDepth 100000 in
theorem open_strs_ {cs : List Value} {x : DataW H × List MemPlace} (h : DataW.trod enc Try.prog w 0 (fun _ => true) true fuel 50 cs = some x) :
    ∃ (A : Option Addr) (c : Nat) (l : List ByteArray), cs = [.slice A l.length c] ∧ l.length ≤ c ∧ c ≤ maxLen ∧ SsAt w A l ∧ ∀ y ∈ l, y.size ≤ maxLen := by
  rcases Go.Deep.open_slice Try.underlying50 h with ⟨hcs, _⟩ | ⟨a, len, cap, m, n, D, Pl, hcs, _, hl, hm, hmm, _, hat⟩
  · exact ⟨none, 0, [], hcs, Nat.le_refl _, by decide, .inl rfl, by intro x hx; cases hx⟩
  · simp only [if_true] at hmm
    subst hmm
    have each : ∀ i, i < len → ∃ y : ByteArray, w.cell? (a.add i) = some (.string y) ∧ y.size ≤ maxLen := by
      intro i hi
      obtain ⟨cs', h1, h2⟩ := hat i (by omega)
      rw [c9'] at h1
      obtain ⟨_, hlen, hcell⟩ := World.cells?_some h1
      match cs', hlen with
      | [v0], _ =>
        obtain ⟨z0, p0, _, w0⟩ := DataW.trod_string Try.underlying9 h2
        simp only [List.cons.injEq, and_true] at p0
        subst p0
        have := hcell 0 (by omega)
        rw [Go.Deep.add_add] at this
        exact ⟨z0, by simpa using this, w0⟩
    obtain ⟨q, hq⟩ := Go.Deep.choose_lt each
    refine ⟨some a, m, (List.range len).map q, by rw [hcs]; simp, by simpa using hl, hm, ?_, fun y hy => by obtain ⟨i, hi, rfl⟩ := List.mem_map.1 hy; exact (hq i (List.mem_range.1 hi)).2⟩
    by_cases h0 : len = 0
    · subst h0; exact .inl rfl
    obtain ⟨b, off, spot⟩ := a
    have hv := (hq 0 (by omega)).1
    have hspot : spot = none := addN (a := ⟨b, off, spot⟩) hv
    subst hspot
    have hg : b < w.heap.size := World.block_lt_of_cell? w ⟨b, off + 0, none⟩ (by rw [add_lit'] at hv; exact hv)
    refine .inr ⟨b, off, rfl, hg, fun k hk => ?_⟩
    have hk' : k < len := by simpa using hk
    simp only [List.getElem_map, List.getElem_range]
    have := (hq k hk').1
    rw [add_lit'] at this
    exact this

/-- A filter that came in. -/
structure FlIn (w : World) (f : Fl) (A : Option Addr) (c : Nat) (B : Option Addr) (d : Nat) : Prop where
  a : f.authors.length ≤ c ∧ c ≤ maxLen
  i : f.ids.length ≤ d ∧ d ≤ maxLen
  sa : SsAt w A f.authors
  ni : NsAt w B f.ids
  s : ∀ x ∈ f.authors, x.size ≤ maxLen
  n : ∀ x ∈ f.ids, I64 x
set_option maxRecDepth 100000 in
theorem open_filter {cs : List Value} (hl : cs.length = 4) {x : DataW H × List MemPlace} (h : DataW.trod enc Try.prog w 0 (fun _ => true) true fuel 52 cs = some x) :
    ∃ (f : Fl) (A : Option Addr) (c : Nat) (B : Option Addr) (d : Nat), cs = [.slice A f.authors.length c, .int .i64 f.frm, .int .i64 f.to, .slice B f.ids.length d] ∧ FlIn w f A c B d := by
  obtain ⟨xs, k, _, _, _, hxl, hf⟩ := DataW.trod_struct Try.underlying52 h
  match xs, hxl, cs, hl with
  | [y0, y1, y2, y3], _, [v0, v1, v2, v3], _ =>
    have g0 := hf 0 _ rfl
    have g1 := hf 1 _ rfl
    have g2 := hf 2 _ rfl
    have g3 := hf 3 _ rfl
    simp [c3', c32', c50'] at g0 g1 g2 g3
    obtain ⟨A, c, sa, p0, q1, q2, q3, q4⟩ := open_strs_ g0
    obtain ⟨z1, p1, _, w1⟩ := DataW.trod_int Try.underlying3 g1
    obtain ⟨z2, p2, _, w2⟩ := DataW.trod_int Try.underlying3 g2
    obtain ⟨B, d, ni, p3, r1, r2, r3, r4⟩ := open_nums g3
    simp only [List.cons.injEq, and_true] at p0 p1 p2 p3
    subst p0 p1 p2 p3
    exact ⟨⟨sa, z1, z2, ni⟩, A, c, B, d, rfl, ⟨q1, q2⟩, ⟨r1, r2⟩, q3, r3, q4, r4⟩
end
set_option maxRecDepth 100000 in
theorem open_rvv {H : Type} {enc : TypeId × Value → H} {w : World} {r : Reach} {b0 : Nat} {v : Value} {d : DataW H} {p : List MemPlace} (hv : Value.okWide Try.prog w r b0 23 v) (h : DataW.Trod enc Try.prog w 0 (fun _ => true) true 23 v d p) : ∃ q : Rv, v = rvV q ∧ I64 q.id ∧ I64 q.time ∧ q.author.size ≤ maxLen := by
  obtain ⟨cs, rfl, hsz⟩ := okWide_struct Try.underlying23 hv
  obtain ⟨fuel, hf⟩ := h
  obtain ⟨q, hcs, hq⟩ := open_rev (by rw [c23'] at hsz; simpa [Value.cells] using hsz) hf
  refine ⟨q, ?_, hq⟩
  have : cs.toList = [.int .i64 q.id, .string q.author, .int .i64 q.time] := by simpa [Value.cells] using hcs
  rw [← Array.toArray_toList (xs := cs), this]
set_option maxRecDepth 100000 in
theorem open_flv {H : Type} {enc : TypeId × Value → H} {w : World} {r : Reach} {b0 : Nat} {v : Value} {d : DataW H} {p : List MemPlace} (hv : Value.okWide Try.prog w r b0 52 v) (h : DataW.Trod enc Try.prog w 0 (fun _ => true) true 52 v d p) : ∃ (f : Fl) (A : Option Addr) (c : Nat) (B : Option Addr) (d : Nat), v = flV f A c B d ∧ FlIn w f A c B d := by
  obtain ⟨cs, rfl, hsz⟩ := okWide_struct Try.underlying52 hv
  obtain ⟨fuel, hf⟩ := h
  obtain ⟨f, A, c, B, d, hcs, hq⟩ := open_filter (by rw [c52'] at hsz; simpa [Value.cells] using hsz) hf
  refine ⟨f, A, c, B, d, ?_, hq⟩
  have : cs.toList = [.slice A f.authors.length c, .int .i64 f.frm, .int .i64 f.to, .slice B f.ids.length d] := by simpa [Value.cells] using hcs
  rw [← Array.toArray_toList (xs := cs), this]
end Go.Proofs.Ytmpklkhjipclmaa
