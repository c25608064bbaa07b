/- Layer 5: arguments that are plays, with their values' bounds. -/
import Derived.Test.YtioehncdkdfcmaaJ4
namespace Go.Proofs.Ytioehncdkdfcmaa
open Go.RowKit Go.Lib Go.ChangeShapes Go.WideShapes

/-- A number that 64 bits hold. -/
def I64 (x : Int) : Prop := -9223372036854775808 ≤ x ∧ x ≤ 9223372036854775807
theorem wf_i64 {z : Int} (h : (Lit.int .i64 z).wf = true) : I64 z := by
  simp [Lit.wf, IntKind.bits, IntKind.signed, IntKind.min, IntKind.max] at h
  unfold I64
  omega
theorem i64_wf {z : Int} (h : I64 z) : (Lit.int .i64 z).wf = true := by
  unfold I64 at h
  simp [Lit.wf, IntKind.bits, IntKind.signed, IntKind.min, IntKind.max]
  omega
def OpV (l : List Opr) : Prop := ∀ k (h : k < l.length), I64 l[k].2.2.2.2
structure PlayInW (w : World) (v : Value) (L : Nat) (V : Int) (A : Option Addr) (n c : Nat) (ops : List Opr) : Prop where
  pl : PlayIn w v L V A n c ops
  hV : I64 V
  hO : OpV ops
theorem i64_wrap (x : Int) : I64 (wrap64 x) := by
  unfold I64 wrap64
  omega
/-- All values are numbers that 64 bits hold. -/
def AllI (l : List Int) : Prop := ∀ x ∈ l, I64 x
theorem allI_rep {n : Nat} {v : Int} (h : I64 v) : AllI (List.replicate n v) := fun x hx => by rw [(List.mem_replicate.1 hx).2]; exact h
theorem allI_mp {fn : Int → Int} {l : List Int} {f k : Nat} (h : AllI l) (hf : ∀ x, I64 x → I64 (fn x)) : AllI (mp fn l f k) := by
  intro x hx
  unfold mp at hx
  rw [List.mem_append, List.mem_append, List.mem_map] at hx
  rcases hx with hx | ⟨y, hy, rfl⟩ | hx
  · exact h x (List.mem_of_mem_take hx)
  · exact hf y (h y (List.mem_of_mem_drop (List.mem_of_mem_take hy)))
  · exact h x (List.mem_of_mem_drop (List.mem_of_mem_drop hx))
theorem allI_spc {l : List Int} {a b m : Nat} {v : Int} (h : AllI l) (hv : I64 v) : AllI (l.take a ++ List.replicate m v ++ l.drop b) := by
  intro x hx
  rw [List.mem_append, List.mem_append] at hx
  rcases hx with (hx | hx) | hx
  · exact h x (List.mem_of_mem_take hx)
  · rw [(List.mem_replicate.1 hx).2]; exact hv
  · exact h x (List.mem_of_mem_drop hx)
set_option maxRecDepth 100000 in
theorem open_opsW {H : Type} {enc : TypeId × Value → H} {w : World} {fuel : Nat} {v : Value} {x : DataW H × List MemPlace}
    (h : DataW.trod enc Try.prog w 0 (fun _ => true) true fuel 22 [v] = some x) : ∃ A n c ops, v = .slice A n c ∧ List.length ops = n ∧ n ≤ maxLen ∧ OpAt w A ops ∧ OpB ops ∧ OpV ops := by
  rcases Go.Deep.open_slice Try.underlying22 h with ⟨hcs, _⟩ | ⟨a, len, cap, m, n, D, Pl, hcs, _, hl, hm, hmm, _, hat⟩
  · simp only [List.cons.injEq, and_true] at hcs
    exact ⟨none, 0, 0, [], hcs, rfl, by decide, .inl rfl, fun k h => by simp at h, fun k h => by simp at h⟩
  · simp only [List.cons.injEq, and_true] at hcs
    simp only [if_true] at hmm
    subst hmm
    have ce : Try.prog.cellsOf 79 = 5 := by kernel_rfl
    have c3 : Try.prog.cellsOf 3 = 1 := by kernel_rfl
    have c5 : Try.prog.cellsOf 5 = 1 := by kernel_rfl
    have each : ∀ i, i < len → ∃ q : Opr, (w.cell? (a.add (i * 5)) = some (.int .u8 (q.1 : Nat)) ∧ w.cell? (a.add (i * 5 + 1)) = some (.int .u8 (q.2.1 : Nat)) ∧ w.cell? (a.add (i * 5 + 2)) = some (.int .u8 (q.2.2.1 : Nat)) ∧ w.cell? (a.add (i * 5 + 3)) = some (.int .u8 (q.2.2.2.1 : Nat)) ∧ w.cell? (a.add (i * 5 + 4)) = some (.int .i64 q.2.2.2.2)) ∧
        (q.1 < 256 ∧ q.2.1 < 256 ∧ q.2.2.1 < 256 ∧ q.2.2.2.1 < 256) ∧ I64 q.2.2.2.2 := by
      intro i hi
      obtain ⟨cs', h1, h2⟩ := hat i (by omega)
      rw [ce] at h1
      obtain ⟨_, hlen, hcell⟩ := World.cells?_some h1
      obtain ⟨xs, k, _, _, _, hxl, hf⟩ := DataW.trod_struct Try.underlying79 h2
      match xs, hxl, cs', hlen with
      | [y0, y1, y2, y3, y4], _, [v0, v1, v2, v3, v4], _ =>
        have g0 := hf 0 _ rfl
        have g1 := hf 1 _ rfl
        have g2 := hf 2 _ rfl
        have g3 := hf 3 _ rfl
        have g4 := hf 4 _ rfl
        simp [c3, c5] at g0 g1 g2 g3 g4
        have e0 := hcell 0 (by omega)
        have e1 := hcell 1 (by omega)
        have e2 := hcell 2 (by omega)
        have e3 := hcell 3 (by omega)
        have e4 := hcell 4 (by omega)
        rw [Go.Deep.add_add] at e0 e1 e2 e3 e4
        obtain ⟨z0, p0, _, u0⟩ := DataW.trod_int Try.underlying5 g0
        obtain ⟨z1, p1, _, u1⟩ := DataW.trod_int Try.underlying5 g1
        obtain ⟨z2, p2, _, u2⟩ := DataW.trod_int Try.underlying5 g2
        obtain ⟨z3, p3, _, u3⟩ := DataW.trod_int Try.underlying5 g3
        obtain ⟨z4, p4, _, u4⟩ := DataW.trod_int Try.underlying3 g4
        simp only [List.cons.injEq, and_true] at p0 p1 p2 p3 p4
        subst p0 p1 p2 p3 p4
        obtain ⟨n0, rfl, b0⟩ := wf_u8 u0
        obtain ⟨n1, rfl, b1⟩ := wf_u8 u1
        obtain ⟨n2, rfl, b2⟩ := wf_u8 u2
        obtain ⟨n3, rfl, b3⟩ := wf_u8 u3
        exact ⟨(n0, n1, n2, n3, z4), ⟨by simpa using e0, by simpa using e1, by simpa using e2, by simpa using e3, by simpa using e4⟩, ⟨b0, b1, b2, b3⟩, wf_i64 u4⟩
    obtain ⟨q, hq⟩ := Go.Deep.choose_lt each
    refine ⟨some a, len, _, (List.range len).map q, hcs, by simp, Nat.le_trans hl hm, ?_, fun k hk => ?_, fun k hk => ?_⟩
    · by_cases h0 : len = 0
      · subst h0; exact .inl rfl
      obtain ⟨b, off, spot⟩ := a
      have hc := (hq 0 (by omega)).1.1
      have hspot : spot = none := by simpa [Addr.add] using World.cell?_spot hc
      subst hspot
      have hadd : ∀ i, ((⟨b, off, none⟩ : Addr).add i) = ⟨b, off + i, none⟩ := by intro i; unfold Addr.add; split <;> simp_all
      have hg : b < w.heap.size := World.block_lt_of_cell? w ⟨b, off + 0 * 5, none⟩ (by rw [hadd] at hc; exact hc)
      refine .inr ⟨b, off, rfl, hg, fun k hk => ?_⟩
      have hk' : k < len := by simpa using hk
      obtain ⟨⟨d0, d1, d2, d3, d4⟩, _⟩ := hq k hk'
      rw [hadd] at d0 d1 d2 d3 d4
      simp only [List.getElem_map, List.getElem_range]
      exact ⟨d0, by rw [← Nat.add_assoc] at d1; exact d1, by rw [← Nat.add_assoc] at d2; exact d2, by rw [← Nat.add_assoc] at d3; exact d3, by rw [← Nat.add_assoc] at d4; exact d4⟩
    · have hk' : k < len := by simpa using hk
      simp only [List.getElem_map, List.getElem_range]
      exact (hq k hk').2.1
    · have hk' : k < len := by simpa using hk
      simp only [List.getElem_map, List.getElem_range]
      exact (hq k hk').2.2
set_option maxRecDepth 100000 in
theorem open_playW {H : Type} {enc : TypeId × Value → H} {w : World} {b0 : Nat} {r : Reach} {v : Value} {d : DataW H} {p : List MemPlace}
    (hv : Value.okWide Try.prog w r b0 24 v) (h : DataW.Trod enc Try.prog w 0 (fun _ => true) true 24 v d p) : ∃ L V A n c ops, PlayInW w v L V A n c ops := by
  obtain ⟨v0, v1, v2, y0, y1, y2, n, rfl, _, _, t0, t1, t2⟩ := Go.Joins.open_agg3 Try.underlying24 (by kernel_rfl) (by kernel_rfl) hv h
  obtain ⟨z0, e0, _, u0⟩ := DataW.trod_int Try.underlying5 t0
  obtain ⟨z1, e1, _, u1⟩ := DataW.trod_int Try.underlying3 t1
  simp only [List.cons.injEq, and_true] at e0 e1
  obtain ⟨n0, rfl, b0⟩ := wf_u8 u0
  obtain ⟨A, m, c, ops, rfl, h1, h2, h3, h4, h5⟩ := open_opsW t2
  exact ⟨n0, z1, A, m, c, ops, ⟨by rw [e0, e1], b0, h1, h2, h3, h4⟩, wf_i64 u1, h5⟩
end Go.Proofs.Ytioehncdkdfcmaa
