/- Layer 6: Elements (15). -/
import Derived.Test.YtknbglcmjggkjaaT8
namespace Go.Proofs.Ytknbglcmjggkjaa
open Go.RowKit Go.Lib Co

/-- The error of Elements. -/
def errS (st : Int) (s : ByteArray) (bad : List UInt8) : Int := if st < 1 ∨ 4 < st then 5 else if 4096 < s.size then 10 else if bad ≠ [] then 12 else 0
theorem errS_zero {st : Int} {s : ByteArray} {bad : List UInt8} (h : errS st s bad = 0) : (1 ≤ st ∧ st ≤ 4) ∧ s.size ≤ 4096 ∧ bad = [] := by
  unfold errS at h
  by_cases h1 : st < 1 ∨ 4 < st
  · rw [if_pos h1] at h; omega
  · rw [if_neg h1] at h
    by_cases h2 : 4096 < s.size
    · rw [if_pos h2] at h; omega
    · rw [if_neg h2] at h
      by_cases h3 : bad ≠ []
      · rw [if_pos h3] at h; omega
      · exact ⟨by omega, by omega, by simpa using h3⟩
/-- What Elements hands back. -/
def ElAns (er : Int) (l : List El) (w : World) (e : Ending) (w' : World) : Prop :=
  ∃ v, e = .returned (.tuple #[v, .int .i64 er]) ∧ (er ≠ 0 → v = .slice none 0 0) ∧ (er = 0 → Els w.heap.size w' v l) ∧ Below w.heap.size w w'
theorem pts_len {s : ByteArray} {P : List Nat} {bad : List UInt8} (h : Cp.Str s P bad) : P.length ≤ s.size := by
  have := h.size
  have := (U.bytes_len P).1
  omega
set_option maxRecDepth 100000 in
set_option maxHeartbeats 4000000 in
theorem elements_any {s : ByteArray} {P : List Nat} {bad : List UInt8} (hs : Cp.Str s P bad) (st : Int) (nu ig uf : Bool) (w : World) :
    Calls Try.prog 15 #[.string s, opV st nu ig uf] w (ElAns (errS st s bad) (elems nu (upN uf) ig P) w) := by
  have hB : Below w.heap.size w (w.alloc (.cells #[.int .i64 st, .bool nu, .bool ig, .bool uf] 23)) := (Below.refl _ w).alloc (Nat.le_refl _) _
  have hlW : w.heap.size < (w.alloc (.cells #[.int .i64 st, .bool nu, .bool ig, .bool uf] 23)).heap.size := by rw [World.size_alloc]; exact Nat.lt_succ_self _
  have zz : ∀ k, k < 4 → (w.alloc (.cells #[.int .i64 st, .bool nu, .bool ig, .bool uf] 23)).cell? ⟨w.heap.size, k, none⟩ = (#[Value.int .i64 st, .bool nu, .bool ig, .bool uf])[k]? := fun k _ => by rw [World.cell?_alloc_new]
  have z0 : _ = some (Value.int .i64 st) := zz 0 (by omega)
  have z1 : _ = some (Value.bool nu) := zz 1 (by omega)
  have z2 : _ = some (Value.bool ig) := zz 2 (by omega)
  have z3 : _ = some (Value.bool uf) := zz 3 (by omega)
  clear zz
  unfold opV
  go_enter Try.func15, Try.ntmps15
  go_wp2_with fail
  generalize w.alloc (.cells #[.int .i64 st, .bool nu, .bool ig, .bool uf] 23) = W at *
  refine (check_any st nu ig uf W).mono ?_
  rintro e w1 ⟨rfl, k1⟩
  have hB1 : Below w.heap.size w w1 := hB.trans (k1.mono (Nat.le_of_lt hlW))
  have y0 := (k1.cell (p := ⟨w.heap.size, 0, none⟩) hlW).trans z0
  have y1 := (k1.cell (p := ⟨w.heap.size, 1, none⟩) hlW).trans z1
  have y2 := (k1.cell (p := ⟨w.heap.size, 2, none⟩) hlW).trans z2
  have y3 := (k1.cell (p := ⟨w.heap.size, 3, none⟩) hlW).trans z3
  have hs1 := hB1.size
  clear z0 z1 z2 z3 hB k1 hlW
  by_cases h1 : st < 1 ∨ 4 < st
  · have HE := Go.Lib.hid (show errS st s bad = 5 by unfold errS; rw [if_pos h1])
    rw [if_pos h1]
    clear h1
    go_wp2
    go_ret2
    exact ⟨_, by rw [HE.out]; rfl, fun _ => rfl, fun h => absurd (HE.out.symm.trans h) (by decide), hB1⟩
  · rw [if_neg h1]
    go_wp2_with fail
    refine (maker_any st nu ig uf _).mono ?_
    rintro e w2 ⟨b, rfl, hb, hm, k2⟩
    have hB2 : Below w.heap.size w w2 := hB1.trans (k2.mono hs1)
    have hs2 := hB2.size
    clear y0 y1 y2 y3
    by_cases h2 : 4096 < s.size
    · have HE := Go.Lib.hid (show errS st s bad = 10 by unfold errS; rw [if_neg h1, if_pos h2])
      go_wp2_with (go_at_call 35; (with_reducible refine (elements_long h2 b _).mono ?_); rintro e w4 ⟨rfl, rfl⟩)
      go_ret2
      exact ⟨_, by rw [HE.out]; rfl, fun _ => rfl, fun h => absurd (HE.out.symm.trans h) (by decide), hB2⟩
    · by_cases h3 : bad = []
      · subst h3
        have HE := Go.Lib.hid (show errS st s [] = 0 by unfold errS; rw [if_neg h1, if_neg h2, if_neg (by simp)])
        have hpl := pts_len hs
        go_wp2_with (go_at_call 35; (with_reducible refine (elements_ok hs (by omega) (by omega) _ hm).mono ?_); intro e w4 h4; unfold ElmRet at h4; obtain ⟨v4, rfl, hv4, hb4⟩ := h4)
        have HV := Go.Lib.hid (Els.mono hv4 hs2)
        clear hv4
        go_wp2
        go_ret2
        exact ⟨_, by rw [HE.out]; rfl, fun h => absurd HE.out h, fun _ => HV.out, hB2.trans (hb4.mono hs2)⟩
      · have HE := Go.Lib.hid (show errS st s bad = 12 by unfold errS; rw [if_neg h1, if_neg h2, if_pos h3])
        go_wp2_with (go_at_call 35; (with_reducible refine (elements_bad hs h3 (by omega) b _).mono ?_); rintro e w4 ⟨rfl, rfl⟩)
        go_ret2
        exact ⟨_, by rw [HE.out]; rfl, fun _ => rfl, fun h => absurd (HE.out.symm.trans h) (by decide), hB2⟩
end Go.Proofs.Ytknbglcmjggkjaa
