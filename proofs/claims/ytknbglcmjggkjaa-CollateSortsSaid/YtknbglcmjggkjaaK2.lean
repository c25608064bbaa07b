/- Layer 6: fault (18). -/
import Derived.Test.YtknbglcmjggkjaaK1
import Derived.Test.YtknbglcmjggkjaaR1
namespace Go.Proofs.Ytknbglcmjggkjaa
open Go.RowKit Go.Shelf Go.Lib Co

/-- A string with its points and its rest. -/
structure Sx where
  s : ByteArray
  P : List Nat
  bad : List UInt8
  str : Cp.Str s P bad
  small : s.size ≤ 100000
theorem Sx.ex (s : ByteArray) (h : s.size ≤ 100000) : ∃ x : Sx, x.s = s := by
  obtain ⟨P, bad, hs⟩ := Cp.Str.ex s (by omega)
  exact ⟨⟨s, P, bad, hs, h⟩, rfl⟩
/-- Strings in memory. -/
def StrsAt (w : World) (v : Value) (l : List Sx) : Prop :=
  (l = [] ∧ v = .slice none 0 0) ∨ ∃ g cap, v = .slice (some ⟨g, 0, none⟩) l.length cap ∧ g < w.heap.size ∧ ∀ j (h : j < l.length), w.cell? ⟨g, j, none⟩ = some (.string l[j].s)
theorem StrsAt.below {w w' : World} {v : Value} {l : List Sx} (h : StrsAt w v l) (hb : Below w.heap.size w w') : StrsAt w' v l := by
  rcases h with h | ⟨g, cap, hv, hg, hc⟩
  · exact .inl h
  · exact .inr ⟨g, cap, hv, Nat.lt_of_lt_of_le hg hb.size, fun j hj => (hb.cell (p := ⟨g, j, none⟩) hg).trans (hc j hj)⟩
/-- The error of fault. -/
def faultN (st : Int) (l : List Sx) : Int := if st < 1 ∨ 4 < st then 5 else if ∀ x ∈ l, x.bad = [] then 0 else 12
theorem faultN_zero {st : Int} {l : List Sx} (h : faultN st l = 0) : (1 ≤ st ∧ st ≤ 4) ∧ ∀ x ∈ l, x.bad = [] := by
  unfold faultN at h
  by_cases h1 : st < 1 ∨ 4 < st
  · rw [if_pos h1] at h; omega
  · rw [if_neg h1] at h
    by_cases h2 : ∀ x ∈ l, x.bad = []
    · exact ⟨by omega, h2⟩
    · rw [if_neg h2] at h; omega
set_option maxRecDepth 100000 in
set_option maxHeartbeats 4000000 in
theorem fault_any {st : Int} {nu ig uf : Bool} {v : Value} {l : List Sx} (w : World) (h : StrsAt w v l) (hl : l.length ≤ 1000) :
    Calls Try.prog 18 #[opV st nu ig uf, v] w fun e w' => e = .returned (.int .i64 (faultN st l)) ∧ Below w.heap.size w w' := by
  have hB : Below w.heap.size w (w.alloc (.cells #[.int .i64 st, .bool nu, .bool ig, .bool uf] 23)) := (Below.refl _ w).alloc (Nat.le_refl _) _
  unfold opV
  by_cases h1 : st < 1
  · have HF := Go.Lib.hid (show faultN st l = 5 by unfold faultN; rw [if_pos (.inl h1)])
    go_enter Try.func18, Try.ntmps18
    go_wp2
    go_ret
    exact ⟨by rw [HF.out]; rfl, hB⟩
  · by_cases h2 : 4 < st
    · have HF := Go.Lib.hid (show faultN st l = 5 by unfold faultN; rw [if_pos (.inr h2)])
      go_enter Try.func18, Try.ntmps18
      go_wp2
      go_ret
      exact ⟨by rw [HF.out]; rfl, hB⟩
    · have HST := Go.Lib.hid (show ¬ (st < 1 ∨ 4 < st) by omega)
      obtain ⟨A, m, d, hv, hml⟩ : ∃ A m d, v = .slice A m d ∧ m = l.length := by
        rcases h with ⟨rfl, rfl⟩ | ⟨g, cap, rfl, _⟩
        · exact ⟨_, _, _, rfl, rfl⟩
        · exact ⟨_, _, _, rfl, rfl⟩
      subst hv
      have HH := Go.Lib.hid h
      have HML := Go.Lib.hid hml
      have hm : m ≤ 1000 := by omega
      clear h hml
      go_enter Try.func18, Try.ntmps18
      go_wp2_with fail
      go_loopw [5] (fun kv wr => ∃ k : Nat, k ≤ m ∧ kv = .int .i64 (k : Nat) ∧ Hid (∀ x ∈ l.take k, x.bad = []) ∧ Below w.heap.size w wr) (fun kv _ => m - (RowKit.intOf kv).toNat)
      case atStart => exact ⟨0, Nat.zero_le _, rfl, Go.Lib.hid (by simp), hB⟩
      case round =>
        clear hB
        obtain ⟨k, hk, rfl, HK, hbk⟩ := hrel
        have hsk := hbk.size
        by_cases hlt : k < m
        · have hkl : k < l.length := by rw [← HML.out]; exact hlt
          have j0 : (0 : Int) ≤ (k : Int) := by omega
          have j1 : (k : Int) < (m : Int) := by omega
          rcases HH.out with ⟨h0, _⟩ | ⟨g, cap, hv, hg, hc⟩
          · rw [h0] at hkl; exact absurd hkl (Nat.not_lt_zero _)
          injection hv with hv1 hv2 hv3
          subst hv1 hv3
          clear hv2
          have c0 := (hbk.cell (p := ⟨g, k, none⟩) hg).trans (hc k hkl)
          have HT := Go.Lib.hid (show l.take (k + 1) = l.take k ++ [l[k]] from List.take_succ_eq_append_getElem hkl)
          have HM := Go.Lib.hid (List.getElem_mem hkl)
          clear hc
          generalize l[k] = x at c0 HT HM
          have hstr := Str.of x.str x.small
          by_cases hbad : x.bad = []
          · have HK2 := Go.Lib.hid (show ∀ y ∈ l.take (k + 1), y.bad = [] by
              intro y hy
              rw [HT.out] at hy
              rcases List.mem_append.1 hy with hy | hy
              · exact HK.out y hy
              · rw [List.mem_singleton.1 hy]; exact hbad)
            rw [hbad] at hstr
            go_wp2_with (go_at_call 26; (with_reducible refine (points_ok hstr _).mono ?_); rintro e w2 ⟨v1, v2, rfl, _, _, k2⟩)
            go_roundw
            case rel => exact ⟨k + 1, by omega, by go_num, HK2, hbk.trans (k2.mono hsk)⟩
            case measure => simp [RowKit.intOf]; omega
          · have HF := Go.Lib.hid (show faultN st l = 12 by
              unfold faultN
              rw [if_neg HST.out, if_neg (fun h => hbad (h x HM.out))])
            go_wp2_with (go_at_call 26; (with_reducible refine (points_bad hstr hbad _).mono ?_); rintro e w2 ⟨rfl, k2⟩)
            go_ret
            exact ⟨by rw [HF.out]; rfl, hbk.trans (k2.mono hsk)⟩
        · have j1 : ¬ (k : Int) < (m : Int) := by omega
          have HF := Go.Lib.hid (show faultN st l = 0 by
            unfold faultN
            rw [if_neg HST.out, if_pos]
            have := HK.out
            rwa [List.take_of_length_le (by rw [← HML.out]; omega)] at this)
          go_wp2
          go_ret
          exact ⟨by rw [HF.out]; rfl, hbk⟩
/-- Strings in a new row. -/
theorem strs_new (w : World) (l : List Sx) (t : TypeId) (c : Nat) : StrsAt (w.alloc (.cells (l.map fun x => Value.string x.s).toArray t)) (.slice (some ⟨w.heap.size, 0, none⟩) l.length c) l := by
  refine .inr ⟨w.heap.size, c, rfl, by rw [World.size_alloc]; exact Nat.lt_succ_self _, fun j hj => ?_⟩
  rw [World.cell?_alloc_new]
  simp [hj]
end Go.Proofs.Ytknbglcmjggkjaa
