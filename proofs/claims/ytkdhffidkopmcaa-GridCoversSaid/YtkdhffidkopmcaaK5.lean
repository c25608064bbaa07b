/- Layer 12: tables that came in, opened. -/
import Derived.Test.YtkdhffidkopmcaaK4
import Derived.Deep.Slices
namespace Go.Proofs.Ytkdhffidkopmcaa
open Go.RowKit Go.Lib Go.ChangeShapes Go.WideShapes
set_option linter.unusedVariables false

theorem c3' : Try.prog.cellsOf 3 = 1 := by kernel_rfl
theorem c77 : Try.prog.cellsOf 77 = 2 := by kernel_rfl
theorem c74 : Try.prog.cellsOf 74 = 7 := by kernel_rfl
theorem c39 : Try.prog.cellsOf 39 = 6 := by kernel_rfl
theorem c36 : Try.prog.cellsOf 36 = 5 := by kernel_rfl
theorem c34 : Try.prog.cellsOf 34 = 4 := by kernel_rfl
theorem c30 : Try.prog.cellsOf 30 = 1 := by kernel_rfl
theorem c31 : Try.prog.cellsOf 31 = 1 := by kernel_rfl
theorem c32 : Try.prog.cellsOf 32 = 1 := by kernel_rfl
theorem c37 : Try.prog.cellsOf 37 = 1 := by kernel_rfl
theorem c72 : Try.prog.cellsOf 72 = 1 := by kernel_rfl

section
variable {H : Type} {enc : TypeId × Value → H} {w : World} {fuel : Nat}
theorem leaf {t e : TypeId} {cs : List Value} {x : DataW H × List MemPlace} (ht : Try.prog.underlying t = some (.slice e)) (h : DataW.trod enc Try.prog w 0 (fun _ => true) true fuel t cs = some x) : ∃ A n c, cs = [.slice A n c] := by
  rcases Go.Deep.open_slice ht h with ⟨hcs, _⟩ | ⟨a, len', cap', m, n, D, Pl, hcs, _⟩
  · exact ⟨_, _, _, hcs⟩
  · exact ⟨_, _, _, hcs⟩
theorem addN {a : Addr} {w : World} {v : Value} (h : w.cell? (a.add 0) = some v) : a.spot = none := by simpa [Addr.add] using World.cell?_spot h
instance clInh : Inhabited Cl := ⟨⟨[], 0⟩⟩
theorem add_lit' (b o i : Nat) : ((⟨b, o, none⟩ : Addr).add i) = ⟨b, o + i, none⟩ := by unfold Addr.add; split <;> simp_all
set_option maxRecDepth 100000 in
theorem open_props {cs : List Value} {x : DataW H × List MemPlace} (h : DataW.trod enc Try.prog w 0 (fun _ => true) true fuel 30 cs = some x) :
    ∃ (A : Option Addr) (c : Nat) (l : List Pr), cs = [.slice A l.length c] ∧ l.length ≤ c ∧ c ≤ maxLen ∧ PrAt w A l := by
  rcases Go.Deep.open_slice Try.underlying30 h with ⟨hcs, _⟩ | ⟨a, len, cap, m, n, D, Pl, hcs, _, hl, hm, hmm, _, hat⟩
  · exact ⟨none, 0, [], hcs, Nat.le_refl _, by decide, .inl rfl⟩
  · simp only [if_true] at hmm
    subst hmm
    have each : ∀ i, i < len → ∃ q : Pr, w.cell? (a.add (i * 2)) = some (.int .i64 q.1) ∧ w.cell? (a.add (i * 2 + 1)) = some (.int .i64 q.2) := by
      intro i hi
      obtain ⟨cs', h1, h2⟩ := hat i (by omega)
      rw [c77] at h1
      obtain ⟨_, hlen, hcell⟩ := World.cells?_some h1
      obtain ⟨xs, k, _, _, _, hxl, hf⟩ := DataW.trod_struct Try.underlying77 h2
      match xs, hxl, cs', hlen with
      | [y0, y1], _, [v0, v1], _ =>
        have g0 := hf 0 _ rfl
        have g1 := hf 1 _ rfl
        simp [c3'] at g0 g1
        have e0 := hcell 0 (by omega)
        have e1 := hcell 1 (by omega)
        rw [Go.Deep.add_add] at e0 e1
        obtain ⟨z0, p0, _, _⟩ := DataW.trod_int Try.underlying3 g0
        obtain ⟨z1, p1, _, _⟩ := DataW.trod_int Try.underlying3 g1
        simp only [List.cons.injEq, and_true] at p0 p1
        subst p0 p1
        exact ⟨(z0, z1), by simpa using e0, by simpa using e1⟩
    obtain ⟨q, hq⟩ := Go.Deep.choose_lt each
    refine ⟨some a, m, (List.range len).map q, by rw [hcs]; simp, by simpa using hl, hm, ?_⟩
    by_cases h0 : len = 0
    · subst h0; exact .inl rfl
    obtain ⟨b, off, spot⟩ := a
    have hspot : spot = none := addN (a := ⟨b, off, spot⟩) (by have := (hq 0 (by omega)).1; simpa using this)
    subst hspot
    have hg : b < w.heap.size := World.block_lt_of_cell? w ⟨b, off + 0 * 2, none⟩ (by have := (hq 0 (by omega)).1; rw [add_lit'] at this; exact this)
    refine .inr ⟨b, off, rfl, hg, fun k hk => ?_⟩
    have hk' : k < len := by simpa using hk
    obtain ⟨d0, d1⟩ := hq k hk'
    rw [add_lit'] at d0 d1
    simp only [List.getElem_map, List.getElem_range]
    exact ⟨d0, d1⟩
set_option maxRecDepth 100000 in
theorem open_marks {cs : List Value} (hl : cs.length = 4) {x : DataW H × List MemPlace} (h : DataW.trod enc Try.prog w 0 (fun _ => true) true fuel 34 cs = some x) :
    ∃ (a1 a2 : Int) (D : Option Addr) (dn dc : Nat) (Y : Option Addr) (yn yc : Nat), cs = [.int .i64 a1, .int .i64 a2, .slice D dn dc, .slice Y yn yc] := by
  obtain ⟨xs, k, _, _, _, hxl, hf⟩ := DataW.trod_struct Try.underlying34 h
  match xs, hxl, cs, hl with
  | [y0, y1, y2, y3], _, [v0, v1, v2, v3], _ =>
    have g0 := hf 0 _ rfl
    have g1 := hf 1 _ rfl
    have g2 := hf 2 _ rfl
    have g3 := hf 3 _ rfl
    simp [c3', c31, c32] at g0 g1 g2 g3
    obtain ⟨z0, p0, _, _⟩ := DataW.trod_int Try.underlying3 g0
    obtain ⟨z1, p1, _, _⟩ := DataW.trod_int Try.underlying3 g1
    obtain ⟨D, dn, dc, p2⟩ := leaf Try.underlying31 g2
    obtain ⟨Y, yn, yc, p3⟩ := leaf Try.underlying32 g3
    simp only [List.cons.injEq, and_true] at p0 p1 p2 p3
    subst p0 p1 p2 p3
    exact ⟨z0, z1, D, dn, dc, Y, yn, yc, rfl⟩
set_option maxRecDepth 100000 in
theorem open_head {cs : List Value} (hl : cs.length = 5) {x : DataW H × List MemPlace} (h : DataW.trod enc Try.prog w 0 (fun _ => true) true fuel 36 cs = some x) :
    ∃ (A : Option Addr) (c : Nat) (l : List Pr) (a1 a2 : Int) (D : Option Addr) (dn dc : Nat) (Y : Option Addr) (yn yc : Nat), cs = [.slice A l.length c, .int .i64 a1, .int .i64 a2, .slice D dn dc, .slice Y yn yc] ∧ l.length ≤ c ∧ c ≤ maxLen ∧ PrAt w A l := by
  obtain ⟨xs, k, _, _, _, hxl, hf⟩ := DataW.trod_struct Try.underlying36 h
  match xs, hxl, cs, hl with
  | [y0, y1], _, [v0, v1, v2, v3, v4], _ =>
    have g0 := hf 0 _ rfl
    have g1 := hf 1 _ rfl
    simp [c30, c34] at g0 g1
    obtain ⟨A, c, l, p0, h1, h2, h3⟩ := open_props g0
    obtain ⟨a1, a2, D, dn, dc, Y, yn, yc, p1⟩ := open_marks rfl g1
    simp only [List.cons.injEq, and_true] at p0 p1
    obtain ⟨q1, q2, q3, q4⟩ := p1
    subst p0 q1 q2 q3 q4
    exact ⟨A, c, l, a1, a2, D, dn, dc, Y, yn, yc, rfl, h1, h2, h3⟩
set_option maxRecDepth 100000 in
theorem open_cell {cs : List Value} (hl : cs.length = 7) {x : DataW H × List MemPlace} (h : DataW.trod enc Try.prog w 0 (fun _ => true) true fuel 74 cs = some x) :
    ∃ (q : Cl) (a0 a2 a3 : Int) (B : Option Addr) (c : Nat) (D : Option Addr) (dn dc : Nat) (Y : Option Addr) (yn yc : Nat) (F : Option Addr) (fc : Nat),
      cs = [.int .i64 a0, .slice B q.props.length c, .int .i64 a2, .int .i64 a3, .slice D dn dc, .slice Y yn yc, .slice F q.flow fc] ∧ q.props.length ≤ c ∧ c ≤ maxLen ∧ PrAt w B q.props := by
  obtain ⟨xs, k, _, _, _, hxl, hf⟩ := DataW.trod_struct Try.underlying74 h
  match xs, hxl, cs, hl with
  | [y0, y1, y2], _, [v0, v1, v2, v3, v4, v5, v6], _ =>
    have g0 := hf 0 _ rfl
    have g1 := hf 1 _ rfl
    have g2 := hf 2 _ rfl
    simp [c3', c36, c72] at g0 g1 g2
    obtain ⟨z0, p0, _, _⟩ := DataW.trod_int Try.underlying3 g0
    obtain ⟨A, c, l, a1, a2, D, dn, dc, Y, yn, yc, p1, h1, h2, h3⟩ := open_head rfl g1
    obtain ⟨F, fn, fc, p2⟩ := leaf Try.underlying72 g2
    simp only [List.cons.injEq, and_true] at p0 p1 p2
    obtain ⟨q1, q2, q3, q4, q5⟩ := p1
    subst p0 q1 q2 q3 q4 q5 p2
    exact ⟨⟨l, fn⟩, z0, a1, a2, A, c, D, dn, dc, Y, yn, yc, F, fc, rfl, h1, h2, h3⟩
set_option maxRecDepth 100000 in
theorem open_cells {cs : List Value} {x : DataW H × List MemPlace} (h : DataW.trod enc Try.prog w 0 (fun _ => true) true fuel 37 cs = some x) :
    ∃ (A : Option Addr) (c : Nat) (r : List Cl), cs = [.slice A r.length c] ∧ r.length ≤ c ∧ c ≤ maxLen ∧ CsAt w A r := by
  rcases Go.Deep.open_slice Try.underlying37 h with ⟨hcs, _⟩ | ⟨a, len, cap, m, n, D, Pl, hcs, _, hl, hm, hmm, _, hat⟩
  · exact ⟨none, 0, [], hcs, Nat.le_refl _, by decide, .inl rfl⟩
  · simp only [if_true] at hmm
    subst hmm
    have each : ∀ i, i < len → ∃ q : Cl, w.cell? (a.add (i * 7)) ≠ none ∧ ∀ b o, a = ⟨b, o, none⟩ → ClAt w b (o + i * 7) q := by
      intro i hi
      obtain ⟨cs', h1, h2⟩ := hat i (by omega)
      rw [c74] at h1
      obtain ⟨_, hlen, hcell⟩ := World.cells?_some h1
      obtain ⟨q, a0, a2, a3, B, c, D, dn, dc, Y, yn, yc, F, fc, hcs', p1, p2, p3⟩ := open_cell hlen h2
      subst hcs'
      refine ⟨q, ?_, fun b o e => ?_⟩
      · have := hcell 0 (by omega)
        rw [Go.Deep.add_add] at this
        intro h
        rw [show i * 7 + 0 = i * 7 by omega, h] at this
        simp at this
      · subst e
        have ee := fun j (hj : j < 7) => hcell j hj
        simp only [add_lit'] at ee
        have e0 := ee 0 (by omega)
        have e1 := ee 1 (by omega)
        have e2 := ee 2 (by omega)
        have e3 := ee 3 (by omega)
        have e4 := ee 4 (by omega)
        have e5 := ee 5 (by omega)
        have e6 := ee 6 (by omega)
        exact ⟨a0, a2, a3, B, c, D, dn, dc, Y, yn, yc, F, fc, e0, e1, e2, e3, e4, e5, e6, p1, p2, p3⟩
    obtain ⟨q, hq⟩ := Go.Deep.choose_lt each
    refine ⟨some a, m, (List.range len).map q, by rw [hcs]; simp, by simpa using hl, hm, ?_⟩
    by_cases h0 : len = 0
    · subst h0; exact .inl rfl
    obtain ⟨b, off, spot⟩ := a
    obtain ⟨v, hv⟩ := Option.ne_none_iff_exists'.1 (hq 0 (by omega)).1
    have hspot : spot = none := addN (a := ⟨b, off, spot⟩) (by simpa using hv)
    subst hspot
    have hg : b < w.heap.size := World.block_lt_of_cell? w ⟨b, off + 0 * 7, none⟩ (by rw [add_lit'] at hv; exact hv)
    refine .inr ⟨b, off, rfl, hg, fun k hk => ?_⟩
    have hk' : k < len := by simpa using hk
    simp only [List.getElem_map, List.getElem_range]
    exact (hq k hk').2 b off rfl
set_option maxRecDepth 100000 in
theorem open_row {cs : List Value} (hl : cs.length = 6) {x : DataW H × List MemPlace} (h : DataW.trod enc Try.prog w 0 (fun _ => true) true fuel 39 cs = some x) :
    ∃ (r : List Cl) (a1 a2 : Int) (B : Option Addr) (n c : Nat) (D : Option Addr) (dn dc : Nat) (Y : Option Addr) (yn yc : Nat) (A : Option Addr) (k : Nat),
      cs = [.slice B n c, .int .i64 a1, .int .i64 a2, .slice D dn dc, .slice Y yn yc, .slice A r.length k] ∧ r.length ≤ k ∧ k ≤ maxLen ∧ CsAt w A r := by
  obtain ⟨xs, k, _, _, _, hxl, hf⟩ := DataW.trod_struct Try.underlying39 h
  match xs, hxl, cs, hl with
  | [y0, y1], _, [v0, v1, v2, v3, v4, v5], _ =>
    have g0 := hf 0 _ rfl
    have g1 := hf 1 _ rfl
    simp [c36, c37] at g0 g1
    obtain ⟨A, c, l, a1, a2, D, dn, dc, Y, yn, yc, p1, h1, h2, h3⟩ := open_head rfl g0
    obtain ⟨Ac, kc, r, p2, q1', q2', q3'⟩ := open_cells g1
    simp only [List.cons.injEq, and_true] at p1 p2
    obtain ⟨q1, q2, q3, q4, q5⟩ := p1
    subst q1 q2 q3 q4 q5 p2
    exact ⟨r, a1, a2, A, _, c, D, dn, dc, Y, yn, yc, Ac, kc, rfl, q1', q2', q3'⟩
set_option maxRecDepth 100000 in
theorem open_rows {cs : List Value} {x : DataW H × List MemPlace} (h : DataW.trod enc Try.prog w 0 (fun _ => true) true fuel 22 cs = some x) :
    ∃ (A : Option Addr) (c : Nat) (T : List (List Cl)), cs = [.slice A T.length c] ∧ T.length ≤ c ∧ c ≤ maxLen ∧ TbAt w A T := by
  rcases Go.Deep.open_slice Try.underlying22 h with ⟨hcs, _⟩ | ⟨a, len, cap, m, n, D, Pl, hcs, _, hl, hm, hmm, _, hat⟩
  · exact ⟨none, 0, [], hcs, Nat.le_refl _, by decide, .inl rfl⟩
  · simp only [if_true] at hmm
    subst hmm
    have each : ∀ i, i < len → ∃ q : List Cl, w.cell? (a.add (i * 6)) ≠ none ∧ ∀ b o, a = ⟨b, o, none⟩ → RwAt w b (o + i * 6) q := by
      intro i hi
      obtain ⟨cs', h1, h2⟩ := hat i (by omega)
      rw [c39] at h1
      obtain ⟨_, hlen, hcell⟩ := World.cells?_some h1
      obtain ⟨q, a1, a2, B, n, c, D, dn, dc, Y, yn, yc, A, k, hcs', p1, p2, p3⟩ := open_row hlen h2
      subst hcs'
      refine ⟨q, ?_, fun b o e => ?_⟩
      · have := hcell 0 (by omega)
        rw [Go.Deep.add_add] at this
        intro h
        rw [show i * 6 + 0 = i * 6 by omega, h] at this
        simp at this
      · subst e
        have ee := fun j (hj : j < 6) => hcell j hj
        simp only [add_lit'] at ee
        have e0 := ee 0 (by omega)
        have e1 := ee 1 (by omega)
        have e2 := ee 2 (by omega)
        have e3 := ee 3 (by omega)
        have e4 := ee 4 (by omega)
        have e5 := ee 5 (by omega)
        exact ⟨a1, a2, B, n, c, D, dn, dc, Y, yn, yc, A, k, e0, e1, e2, e3, e4, e5, p1, p2, p3⟩
    obtain ⟨q, hq⟩ := Go.Deep.choose_lt each
    refine ⟨some a, m, (List.range len).map q, by rw [hcs]; simp, by simpa using hl, hm, ?_⟩
    by_cases h0 : len = 0
    · subst h0; exact .inl rfl
    obtain ⟨b, off, spot⟩ := a
    obtain ⟨v, hv⟩ := Option.ne_none_iff_exists'.1 (hq 0 (by omega)).1
    have hspot : spot = none := addN (a := ⟨b, off, spot⟩) (by simpa using hv)
    subst hspot
    have hg : b < w.heap.size := World.block_lt_of_cell? w ⟨b, off + 0 * 6, none⟩ (by rw [add_lit'] at hv; exact hv)
    refine .inr ⟨b, off, rfl, hg, fun k hk => ?_⟩
    have hk' : k < len := by simpa using hk
    simp only [List.getElem_map, List.getElem_range]
    exact (hq k hk').2 b off rfl
end
end Go.Proofs.Ytkdhffidkopmcaa
