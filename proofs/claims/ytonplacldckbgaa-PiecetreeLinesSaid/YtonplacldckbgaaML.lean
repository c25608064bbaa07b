/- Layer 4: arguments that come in: operations, pairs of numbers. -/
import Derived.Test.YtonplacldckbgaaMK
import Derived.Lib.SmallJoins
import Derived.ChangeArms
import Derived.Deep.Slices
import Derived.OpenShut
import Derived.Laws.IdiomArrays
namespace Go.Proofs.Ytonplacldckbgaa
open Go.RowKit Go.Lib Go.ChangeShapes Go.WideShapes Pt

/-- Operations that came in. -/
structure OpsIn (w : World) (A : Option Addr) (n c : Nat) (ops : List Op4) : Prop where
  hn : ops.length = n
  hm : n ≤ maxLen
  at_ : OpsAt w A ops
  bd : OpsB ops
theorem len_of (s : ByteArray) : s.data.toList.length = s.size := by rw [Array.length_toList]; rfl
theorem wf_u8 {z : Int} (h : (Lit.int .u8 z).wf = true) : ∃ n : Nat, z = (n : Int) ∧ n < 256 := by
  have : 0 ≤ z ∧ z < 256 := by
    simp [Lit.wf, IntKind.bits, IntKind.signed, IntKind.min, IntKind.max] at h
    omega
  exact ⟨z.toNat, by omega, by omega⟩
theorem wf_u16 {z : Int} (h : (Lit.int .u16 z).wf = true) : ∃ n : Nat, z = (n : Int) ∧ n < 65536 := by
  have : 0 ≤ z ∧ z < 65536 := by
    simp [Lit.wf, IntKind.bits, IntKind.signed, IntKind.min, IntKind.max] at h
    omega
  exact ⟨z.toNat, by omega, by omega⟩
theorem wf_i64 {z : Int} (h : (Lit.int .i64 z).wf = true) : I64 z := by
  simp [Lit.wf, IntKind.bits, IntKind.signed, IntKind.min, IntKind.max] at h
  unfold I64
  omega
set_option maxRecDepth 100000 in
theorem open_ops {H : Type} {enc : TypeId × Value → H} {w : World} {fuel : Nat} {A : Option Addr} {n c : Nat} {x : DataW H × List MemPlace}
    (h : DataW.trod enc Try.prog w 0 (fun _ => true) true fuel 22 [.slice A n c] = some x) : ∃ ops, OpsIn w A n c ops := by
  rcases Go.Deep.open_slice Try.underlying22 h with ⟨hcs, _⟩ | ⟨a, len, cap, m, n', D, Pl, hcs, _, hl, hm, hmm, _, hat⟩
  · simp only [List.cons.injEq, and_true, Value.slice.injEq] at hcs
    obtain ⟨rfl, rfl, rfl⟩ := hcs
    exact ⟨[], rfl, Nat.zero_le _, .inl rfl, fun k h => by simp at h⟩
  · simp only [List.cons.injEq, and_true, Value.slice.injEq] at hcs
    obtain ⟨rfl, rfl, rfl⟩ := hcs
    simp only [if_true] at hmm
    subst hmm
    have ce : Try.prog.cellsOf 57 = 4 := by kernel_rfl
    have c3 : Try.prog.cellsOf 3 = 1 := by kernel_rfl
    have c5 : Try.prog.cellsOf 5 = 1 := by kernel_rfl
    have c9 : Try.prog.cellsOf 9 = 1 := by kernel_rfl
    have each : ∀ i, i < n → ∃ q : Op4, (w.cell? (a.add (i * 4)) = some (.int .u8 (q.1 : Nat)) ∧ w.cell? (a.add (i * 4 + 1)) = some (.int .i64 q.2.1) ∧ w.cell? (a.add (i * 4 + 2)) = some (.int .i64 q.2.2.1) ∧ w.cell? (a.add (i * 4 + 3)) = some (.string (bs q.2.2.2))) ∧
        q.1 < 256 ∧ I64 q.2.1 ∧ I64 q.2.2.1 ∧ q.2.2.2.length ≤ maxLen := by
      intro i hi
      obtain ⟨cs', h1, h2⟩ := hat i (by omega)
      rw [ce] at h1
      obtain ⟨_, hlen, hcell⟩ := World.cells?_some h1
      obtain ⟨xs, k, _, _, _, hxl, hf⟩ := DataW.trod_struct Try.underlying57 h2
      match xs, hxl, cs', hlen with
      | [y0, y1, y2, y3], _, [v0, v1, v2, v3], _ =>
        have g0 := hf 0 _ rfl
        have g1 := hf 1 _ rfl
        have g2 := hf 2 _ rfl
        have g3 := hf 3 _ rfl
        simp [c3, c5, c9] at g0 g1 g2 g3
        have e0 := hcell 0 (by omega)
        have e1 := hcell 1 (by omega)
        have e2 := hcell 2 (by omega)
        have e3 := hcell 3 (by omega)
        rw [Go.Deep.add_add] at e0 e1 e2 e3
        obtain ⟨z0, p0, _, u0⟩ := DataW.trod_int Try.underlying5 g0
        obtain ⟨z1, p1, _, u1⟩ := DataW.trod_int Try.underlying3 g1
        obtain ⟨z2, p2, _, u2⟩ := DataW.trod_int Try.underlying3 g2
        obtain ⟨z3, p3, _, u3⟩ := DataW.trod_string Try.underlying9 g3
        simp only [List.cons.injEq, and_true] at p0 p1 p2 p3
        subst p0 p1 p2 p3
        obtain ⟨n0, rfl, b0⟩ := wf_u8 u0
        refine ⟨(n0, z1, z2, z3.data.toList), ⟨by simpa using e0, by simpa using e1, by simpa using e2, ?_⟩, b0, wf_i64 u1, wf_i64 u2, by rw [len_of]; exact u3⟩
        rw [← bs_of]
        simpa using e3
    obtain ⟨q, hq⟩ := Go.Deep.choose_lt each
    refine ⟨(List.range n).map q, by simp, Nat.le_trans hl hm, ?_, fun k hk => ?_⟩
    · by_cases h0 : n = 0
      · subst h0; exact .inl rfl
      obtain ⟨b, off, spot⟩ := a
      have hc := (hq 0 (by omega)).1.1
      have hspot : spot = none := by simpa [Addr.add] using World.cell?_spot hc
      subst hspot
      have hadd : ∀ i, ((⟨b, off, none⟩ : Addr).add i) = ⟨b, off + i, none⟩ := by intro i; unfold Addr.add; split <;> simp_all
      have hg : b < w.heap.size := World.block_lt_of_cell? w ⟨b, off + 0 * 4, none⟩ (by rw [hadd] at hc; exact hc)
      refine .inr ⟨b, off, rfl, hg, fun k hk => ?_⟩
      have hk' : k < n := by simpa using hk
      obtain ⟨⟨d0, d1, d2, d3⟩, _⟩ := hq k hk'
      rw [hadd] at d0 d1 d2 d3
      simp only [List.getElem_map, List.getElem_range]
      exact ⟨d0, by rw [← Nat.add_assoc] at d1; exact d1, by rw [← Nat.add_assoc] at d2; exact d2, by rw [← Nat.add_assoc] at d3; exact d3⟩
    · have hk' : k < n := by simpa using hk
      simp only [List.getElem_map, List.getElem_range]
      exact (hq k hk').2
theorem list2 : ∀ (l : List Value), l.length = 2 → ∃ a b, l = [a, b]
  | [a, b], _ => ⟨a, b, rfl⟩
variable {H : Type} {enc : TypeId × Value → H} {w : World} {b0 : Nat} {r : Reach} {v : Value} {d : DataW H} {p : List MemPlace}
set_option maxRecDepth 100000 in
theorem open_i2 (hv : Value.okWide Try.prog w r b0 29 v) (h : DataW.Trod enc Try.prog w 0 (fun _ => true) true 29 v d p) : ∃ x y : Int, v = .agg #[.int .i64 x, .int .i64 y] ∧ I64 x ∧ I64 y := by
  have hct : Try.prog.cellsOf 29 = 2 := by kernel_rfl
  have hce : Try.prog.cellsOf 3 = 1 := by kernel_rfl
  obtain ⟨cs, rfl, hsz, _⟩ : ∃ cs, v = .agg cs ∧ cs.size = Try.prog.cellsOf 29 ∧ Row.okWide Try.prog w r b0 29 cs := by
    simpa [Value.okWide, Try.underlying29] using hv
  rw [hct] at hsz
  obtain ⟨l⟩ := cs
  obtain ⟨c0, c1, rfl⟩ := list2 l hsz
  obtain ⟨fuel, hf⟩ := h
  obtain ⟨xs, m, _, _, _, hl, hel⟩ := DataW.trod_array Try.underlying29 hf
  match xs, hl with
  | [y0, y1], _ =>
    have g0 := hel 0 (by decide)
    have g1 := hel 1 (by decide)
    simp [hce, Value.cells] at g0 g1
    obtain ⟨x0, e0, _, k0⟩ := DataW.trod_int Try.underlying3 g0
    obtain ⟨x1, e1, _, k1⟩ := DataW.trod_int Try.underlying3 g1
    simp only [List.cons.injEq, and_true] at e0 e1
    exact ⟨x0, x1, by rw [e0, e1], wf_i64 k0, wf_i64 k1⟩
set_option maxRecDepth 100000 in
theorem open_op (hv : Value.okWide Try.prog w r b0 57 v) (h : DataW.Trod enc Try.prog w 0 (fun _ => true) true 57 v d p) : ∃ (k : Nat) (x y : Int) (s : List UInt8), v = .agg #[.int .u8 k, .int .i64 x, .int .i64 y, .string (bs s)] ∧ k < 256 ∧ I64 x ∧ I64 y ∧ s.length ≤ maxLen := by
  obtain ⟨v0, v1, v2, v3, y0, y1, y2, y3, n, rfl, _, _, t0, t1, t2, t3⟩ := Go.Joins.open_agg4 Try.underlying57 (by kernel_rfl) (by kernel_rfl) hv h
  obtain ⟨z0, e0, _, u0⟩ := DataW.trod_int Try.underlying5 t0
  obtain ⟨z1, e1, _, u1⟩ := DataW.trod_int Try.underlying3 t1
  obtain ⟨z2, e2, _, u2⟩ := DataW.trod_int Try.underlying3 t2
  obtain ⟨z3, e3, _, u3⟩ := DataW.trod_string Try.underlying9 t3
  simp only [List.cons.injEq, and_true] at e0 e1 e2 e3
  obtain ⟨n0, rfl, b0⟩ := wf_u8 u0
  exact ⟨n0, z1, z2, z3.data.toList, by rw [e0, e1, e2, e3, ← bs_of], b0, wf_i64 u1, wf_i64 u2, by rw [len_of]; exact u3⟩
end Go.Proofs.Ytonplacldckbgaa
