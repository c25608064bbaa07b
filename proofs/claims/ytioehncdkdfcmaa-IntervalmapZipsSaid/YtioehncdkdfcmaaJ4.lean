/- Layer 5: arguments that are plays. -/
import Derived.Test.YtioehncdkdfcmaaP1
import Derived.Lib.SmallJoins
import Derived.ChangeArms
import Derived.Deep.Slices
namespace Go.Proofs.Ytioehncdkdfcmaa
open Go.RowKit Go.Lib Go.ChangeShapes Go.WideShapes

/-- A play that came in. -/
structure PlayIn (w : World) (v : Value) (L : Nat) (V : Int) (A : Option Addr) (n c : Nat) (ops : List Opr) : Prop where
  eq : v = .agg #[.int .u8 L, .int .i64 V, .slice A n c]
  hL : L < 256
  hn : ops.length = n
  hm : n ≤ maxLen
  at_ : OpAt w A ops
  bd : OpB ops
theorem wf_u8 {z : Int} (h : (Lit.int .u8 z).wf = true) : ∃ n : Nat, z = (n : Int) ∧ n < 256 := by
  have : 0 ≤ z ∧ z < 256 := by
    simp [Lit.wf, IntKind.bits, IntKind.signed, IntKind.min, IntKind.max] at h
    omega
  exact ⟨z.toNat, by omega, by omega⟩
set_option maxRecDepth 100000 in
theorem open_ops {H : Type} {enc : TypeId × Value → H} {w : World} {fuel : Nat} {v : Value} {x : DataW H × List MemPlace}
    (h : DataW.trod enc Try.prog w 0 (fun _ => true) true fuel 22 [v] = some x) : ∃ A n c ops, v = .slice A n c ∧ List.length ops = n ∧ n ≤ maxLen ∧ OpAt w A ops ∧ OpB ops := by
  rcases Go.Deep.open_slice Try.underlying22 h with ⟨hcs, _⟩ | ⟨a, len, cap, m, n, D, Pl, hcs, _, hl, hm, hmm, _, hat⟩
  · simp only [List.cons.injEq, and_true] at hcs
    exact ⟨none, 0, 0, [], hcs, rfl, by decide, .inl rfl, fun k h => by simp at h⟩
  · simp only [List.cons.injEq, and_true] at hcs
    simp only [if_true] at hmm
    subst hmm
    have ce : Try.prog.cellsOf 79 = 5 := by kernel_rfl
    have c3 : Try.prog.cellsOf 3 = 1 := by kernel_rfl
    have c5 : Try.prog.cellsOf 5 = 1 := by kernel_rfl
    have each : ∀ i, i < len → ∃ q : Opr, (w.cell? (a.add (i * 5)) = some (.int .u8 (q.1 : Nat)) ∧ w.cell? (a.add (i * 5 + 1)) = some (.int .u8 (q.2.1 : Nat)) ∧ w.cell? (a.add (i * 5 + 2)) = some (.int .u8 (q.2.2.1 : Nat)) ∧ w.cell? (a.add (i * 5 + 3)) = some (.int .u8 (q.2.2.2.1 : Nat)) ∧ w.cell? (a.add (i * 5 + 4)) = some (.int .i64 q.2.2.2.2)) ∧
        q.1 < 256 ∧ q.2.1 < 256 ∧ q.2.2.1 < 256 ∧ q.2.2.2.1 < 256 := by
      intro i hi
      obtain ⟨cs', h1, h2⟩ := hat i (by omega)
      rw [ce] at h1
      obtain ⟨_, hlen, hcell⟩ := World.cells?_some h1
      obtain ⟨xs, k, _, _, _, hxl, hf⟩ := DataW.trod_struct Try.underlying79 h2
      match xs, hxl, cs', hlen with
      | [y0, y1, y2, y3, y4], _, [v0, v1, v2, v3, v4], _ =>
        have g0 := hf 0 _ rfl
        have g1 := hf 1 _ rfl
        have g2 := hf 2 _ rfl
        have g3 := hf 3 _ rfl
        have g4 := hf 4 _ rfl
        simp [c3, c5] at g0 g1 g2 g3 g4
        have e0 := hcell 0 (by omega)
        have e1 := hcell 1 (by omega)
        have e2 := hcell 2 (by omega)
        have e3 := hcell 3 (by omega)
        have e4 := hcell 4 (by omega)
        rw [Go.Deep.add_add] at e0 e1 e2 e3 e4
        obtain ⟨z0, p0, _, u0⟩ := DataW.trod_int Try.underlying5 g0
        obtain ⟨z1, p1, _, u1⟩ := DataW.trod_int Try.underlying5 g1
        obtain ⟨z2, p2, _, u2⟩ := DataW.trod_int Try.underlying5 g2
        obtain ⟨z3, p3, _, u3⟩ := DataW.trod_int Try.underlying5 g3
        obtain ⟨z4, p4, _, _⟩ := DataW.trod_int Try.underlying3 g4
        simp only [List.cons.injEq, and_true] at p0 p1 p2 p3 p4
        subst p0 p1 p2 p3 p4
        obtain ⟨n0, rfl, b0⟩ := wf_u8 u0
        obtain ⟨n1, rfl, b1⟩ := wf_u8 u1
        obtain ⟨n2, rfl, b2⟩ := wf_u8 u2
        obtain ⟨n3, rfl, b3⟩ := wf_u8 u3
        exact ⟨(n0, n1, n2, n3, z4), ⟨by simpa using e0, by simpa using e1, by simpa using e2, by simpa using e3, by simpa using e4⟩, b0, b1, b2, b3⟩
    obtain ⟨q, hq⟩ := Go.Deep.choose_lt each
    refine ⟨some a, len, _, (List.range len).map q, hcs, by simp, Nat.le_trans hl hm, ?_, fun k hk => ?_⟩
    · by_cases h0 : len = 0
      · subst h0; exact .inl rfl
      obtain ⟨b, off, spot⟩ := a
      have hc := (hq 0 (by omega)).1.1
      have hspot : spot = none := by simpa [Addr.add] using World.cell?_spot hc
      subst hspot
      have hadd : ∀ i, ((⟨b, off, none⟩ : Addr).add i) = ⟨b, off + i, none⟩ := by intro i; unfold Addr.add; split <;> simp_all
      have hg : b < w.heap.size := World.block_lt_of_cell? w ⟨b, off + 0 * 5, none⟩ (by rw [hadd] at hc; exact hc)
      refine .inr ⟨b, off, rfl, hg, fun k hk => ?_⟩
      have hk' : k < len := by simpa using hk
      obtain ⟨⟨d0, d1, d2, d3, d4⟩, _⟩ := hq k hk'
      rw [hadd] at d0 d1 d2 d3 d4
      simp only [List.getElem_map, List.getElem_range]
      exact ⟨d0, by rw [← Nat.add_assoc] at d1; exact d1, by rw [← Nat.add_assoc] at d2; exact d2, by rw [← Nat.add_assoc] at d3; exact d3, by rw [← Nat.add_assoc] at d4; exact d4⟩
    · have hk' : k < len := by simpa using hk
      simp only [List.getElem_map, List.getElem_range]
      exact (hq k hk').2
set_option maxRecDepth 100000 in
theorem open_play {H : Type} {enc : TypeId × Value → H} {w : World} {b0 : Nat} {r : Reach} {v : Value} {d : DataW H} {p : List MemPlace}
    (hv : Value.okWide Try.prog w r b0 24 v) (h : DataW.Trod enc Try.prog w 0 (fun _ => true) true 24 v d p) : ∃ L V A n c ops, PlayIn w v L V A n c ops := by
  obtain ⟨v0, v1, v2, y0, y1, y2, n, rfl, _, _, t0, t1, t2⟩ := Go.Joins.open_agg3 Try.underlying24 (by kernel_rfl) (by kernel_rfl) hv h
  obtain ⟨z0, e0, _, u0⟩ := DataW.trod_int Try.underlying5 t0
  obtain ⟨z1, e1, _, _⟩ := DataW.trod_int Try.underlying3 t1
  simp only [List.cons.injEq, and_true] at e0 e1
  obtain ⟨n0, rfl, b0⟩ := wf_u8 u0
  obtain ⟨A, m, c, ops, rfl, h1, h2, h3, h4⟩ := open_ops t2
  exact ⟨n0, z1, A, m, c, ops, by rw [e0, e1], b0, h1, h2, h3, h4⟩
end Go.Proofs.Ytioehncdkdfcmaa
