import Derived.Test.YtigbmhddkcgjfaaDoorLl
namespace Go.Proofs.YtigbmhddkcgjfaaDoor
open Go.RowKit Go.Shelf
open Gc

def IsRow (k : IntKind) (w : World) (a : Option Addr) (len cap : Nat) (zs : List Int) : Prop :=
  (a = none ∧ len = 0 ∧ cap = 0 ∧ zs = []) ∨
  ∃ x, a = some x ∧ len ≤ cap ∧ cap ≤ maxLen ∧ zs.length = cap ∧ (∀ i, i < zs.length → w.cell? (x.add i) = some (.int k (zs.getD i 0))) ∧ ∀ n ∈ zs, (Lit.int k n).wf = true

theorem u8_of' {x : Int} (h : (Lit.int .u8 x).wf = true) : 0 ≤ x ∧ x ≤ 255 := by
  simpa [Lit.wf, IntKind.bits, IntKind.signed, IntKind.min, IntKind.max] using h

theorem law_lines (a0 : Option Addr) (len0 cap0 : Nat) (z0 : List Int) (w : World) (w0 : IsRow .u8 w a0 len0 cap0 z0) (hT : Tabs w) :
    Calls Tryd.prog 11 #[.slice a0 len0 cap0] w (BoolPost true w) := by
  rcases w0 with ⟨rfl, rfl, rfl, rfl⟩ | ⟨x, rfl, hl, hm, hz, hcell, hwf⟩
  · exact lines_none none 0 (by decide) w hT
  by_cases h0 : len0 = 0
  · subst h0
    exact lines_none _ cap0 hm w hT
  obtain ⟨b, off, spot⟩ := x
  have hc := hcell 0 (by omega)
  have hspot : spot = none := by simpa [Addr.add] using World.cell?_spot hc
  subst hspot
  have hadd : ∀ i, ((⟨b, off, none⟩ : Addr).add i) = ⟨b, off + i, none⟩ := by intro i; unfold Addr.add; split <;> simp_all
  have hg : b < w.heap.size := World.block_lt_of_cell? w ⟨b, off + 0, none⟩ (by rw [hadd] at hc; exact hc)
  have hlen : (z0.take (min len0 300)).length = min len0 300 := by rw [List.length_take]; omega
  have hcells : ∀ j (h : j < (z0.take (min len0 300)).length), w.cell? ⟨b, off + j, none⟩ = some (.int .u8 (z0.take (min len0 300))[j]) := by
    intro j h
    have hj : j < z0.length := by rw [List.length_take] at h; omega
    have := hcell j hj
    rw [hadd] at this
    rw [this, List.getElem_take]
    simp [List.getD, hj]
  have hin : ∀ z ∈ z0.take (min len0 300), 0 ≤ z ∧ z ≤ 255 := fun z hz => u8_of' (hwf z (List.mem_of_mem_take hz))
  generalize z0.take (min len0 300) = zs at hlen hcells hin
  refine lines_some b off len0 cap0 zs (zs.map fun z => (z.tmod 128).toNat) (min len0 300) (by rw [List.length_map]; exact hlen) hlen (by omega) (by omega) (by omega) (by omega) hl hm ?_ ?_ w hg hcells hT
  · intro p hp
    obtain ⟨z, hz, rfl⟩ := List.mem_map.1 hp
    have h1 := hin z hz
    have h2 := Int.tmod_lt_of_pos z (b := 128) (by omega)
    have h3 := Int.tmod_nonneg 128 h1.1
    omega
  · intro k h h2
    have h1 := hin _ (List.getElem_mem h)
    have h3 := Int.tmod_nonneg 128 h1.1
    rw [List.getElem_map]
    omega
end Go.Proofs.YtigbmhddkcgjfaaDoor
