/- Layer 12: merge (79); the reference's Get (39), Span (17), merge (60). -/
import Derived.Test.YtkdhffidkopmcaaA3
namespace Go.Proofs.Ytkdhffidkopmcaa
open Go.RowKit Go.Lib
set_option linter.unusedVariables false

def getD' (l : List Pr) (p z : Int) : Int := ((l.find? (·.1 == p)).map (·.2)).getD z
theorem getD_zero (l : List Pr) (p : Int) : getD' l p 0 = getV l p := rfl
theorem getD_one (l : List Pr) (p : Int) : max (getD' l p 1) 1 = max (getV l p) 1 := by
  unfold getD' getV
  cases l.find? (·.1 == p) with
  | none => rfl
  | some x => rfl
theorem getD_at {l : List Pr} {p : Int} (z : Int) {k : Nat} (hk : k < l.length) (he : l[k].1 = p) (hn : ∀ j (h : j < l.length), j < k → l[j].1 ≠ p) : getD' l p z = l[k].2 := by
  unfold getD'
  have : l.find? (·.1 == p) = some l[k] := by
    rw [List.find?_eq_some_iff_getElem]
    refine ⟨by simpa using he, k, hk, rfl, fun j hj => ?_⟩
    have := hn j (by omega) hj
    simpa using this
  rw [this]; rfl
theorem getD_none {l : List Pr} {p : Int} (z : Int) (hn : ∀ j (h : j < l.length), l[j].1 ≠ p) : getD' l p z = z := by
  unfold getD'
  have : l.find? (·.1 == p) = none := by
    rw [List.find?_eq_none]
    intro x hx
    obtain ⟨j, hj, rfl⟩ := List.mem_iff_getElem.1 hx
    simpa using hn j hj
  rw [this]; rfl

set_option maxRecDepth 100000 in
set_option maxHeartbeats 4000000 in
theorem rget_any (A : Option Addr) (len c : Nat) (l : List Pr) (hl : l.length = len) (hc : len ≤ c ∧ c ≤ maxLen) (p z : Int) (w : World) (hA : PrAt w A l) :
    Calls Try.prog 39 #[.slice A len c, .int .i64 p, .int .i64 z] w fun e w' => e = .returned (.int .i64 (getD' l p z)) ∧ w = w' := by
  have HA := Go.Lib.hid hA
  have HL := Go.Lib.hid hl
  obtain ⟨hc1, hc2⟩ := hc
  unfold maxLen at hc2
  clear hA hl
  go_enter Try.func39, Try.ntmps39
  go_wp2
  go_loop [7] (fun i => ∃ k : Nat, k ≤ len ∧ i = .int .i64 k ∧ Hid (∀ j (h : j < l.length), j < k → l[j].1 ≠ p)) (fun i => len - (intOf i).toNat)
  case atStart => exact ⟨0, Nat.zero_le _, rfl, Go.Lib.hid fun j _ h => by omega⟩
  case round =>
    obtain ⟨k, hk, rfl, HN⟩ := hrel
    by_cases hlt : k < len
    · have hkl : k < l.length := by rw [HL.out]; exact hlt
      rcases HA.out with hA0 | ⟨g, o', rfl, hg, hcl⟩
      · rw [hA0] at hkl; exact absurd hkl (Nat.not_lt_zero _)
      obtain ⟨c0, c1⟩ := hcl k hkl
      have HG := Go.Lib.hid (fun he => getD_at (p := p) z hkl he HN.out)
      have HS := Go.Lib.hid (fun (he : l[k].1 ≠ p) j (h : j < l.length) (hj : j < k + 1) => if e : j = k then by subst e; exact he else HN.out j h (by omega))
      clear hcl
      generalize l[k] = y at c0 c1 HG HS
      obtain ⟨ya, yb⟩ := y
      dsimp only at c0 c1 HG HS
      by_cases he : ya = p
      · have hb : (ya == p) = true := by simpa using he
        have HE := Go.Lib.hid he
        clear he
        go_wp2
        go_ret
        exact ⟨by simp [HG.out HE.out], rfl⟩
      · have hb : (ya == p) = false := by simpa using he
        have HE := Go.Lib.hid he
        clear he
        go_wp2
        go_round
        case rel => exact ⟨k + 1, by omega, by go_num, Go.Lib.hid (HS.out HE.out)⟩
        case measure => simp [intOf]; omega
    · obtain rfl : k = len := by omega
      go_wp2
      go_ret
      have h0 := getD_none (l := l) (p := p) z fun j h => HN.out j h (by rw [← HL.out]; exact h)
      exact ⟨by simp [h0], rfl⟩

set_option maxRecDepth 100000 in
set_option maxHeartbeats 4000000 in
theorem merge_any (x : Cl) (hx : GoodC x) (v0 v2 v3 v4 v5 v6 : Value) (B : Option Addr) (n c : Nat) (hn : x.props.length = n) (hc : n ≤ c ∧ c ≤ maxLen) (w : World) (hP : PrAt w B x.props) :
    Calls Try.prog 79 #[.agg #[v0, .slice B n c, v2, v3, v4, v5, v6]] w fun e w' => e = .returned (.int .i64 (val x).2) ∧ Below w.heap.size w w' := by
  have o1 := ObjAt.new w #[v0, .slice B n c, v2, v3, v4, v5, v6] 74
  have z1 : (w.alloc (.cells #[v0, .slice B n c, v2, v3, v4, v5, v6] 74)).cell? ⟨w.heap.size, 1, none⟩ = some (.slice B n c) := o1.get rfl
  have hB : Below w.heap.size w (w.alloc (.cells #[v0, .slice B n c, v2, v3, v4, v5, v6] 74)) := (Below.refl _ w).alloc (Nat.le_refl _) _
  have cG := fun w' (hA' : PrAt w' B x.props) => get_any x.props hx.1 B n c hn (by have := hx.2.1; omega) hc 61 w' hA'
  have HP := Go.Lib.hid (hP.below hB (Nat.le_refl _))
  have HB := Go.Lib.hid hB
  have HV := Go.Lib.hid (show getV x.props 61 = (val x).2 from rfl)
  rw [HV.out] at cG
  clear o1 hB
  generalize (val x).2 = m at *
  go_enter Try.func79, Try.ntmps79
  go_wp2_with fail
  (with_reducible refine (cG _ HP.out).mono ?_)
  rintro e w1 ⟨rfl, k1⟩
  go_wp2
  go_ret
  exact ⟨by simp, HB.out.trans (k1.mono HB.out.size)⟩

set_option maxRecDepth 100000 in
set_option maxHeartbeats 4000000 in
theorem rmerge_any (r : List Cl) (v0 v1 v2 v3 v4 : Value) (A : Option Addr) (n c : Nat) (hn : r.length = n) (hc : n ≤ c ∧ c ≤ maxLen) (j : Nat) (hj : j < n) (w : World) (hA : CsAt w A r) :
    Calls Try.prog 60 #[.agg #[v0, v1, v2, v3, v4, .slice A n c], .int .i64 (j : Nat)] w fun e w' => (∃ h : j < r.length, e = .returned (.int .i64 (val r[j]).2)) ∧ Below w.heap.size w w' := by
  have hjr : j < r.length := by omega
  have o1 := ObjAt.new w #[v0, v1, v2, v3, v4, .slice A n c] 39
  have z5 := obj6 o1
  have hB : Below w.heap.size w (w.alloc (.cells #[v0, v1, v2, v3, v4, .slice A n c] 39)) := (Below.refl _ w).alloc (Nat.le_refl _) _
  rcases hA with h0 | ⟨g, o, rfl, hg, hcl⟩
  · rw [h0] at hjr; exact absurd hjr (Nat.not_lt_zero _)
  obtain ⟨a0, a2, a3, Bp, cp, D, dn, dc, Y, yn, yc, F, fc, c0, c1, c2, c3, c4, c5, c6, hp1, hp2, hP⟩ := (hcl j hjr).below hg hB
  have cG := rget_any Bp r[j].props.length cp r[j].props rfl ⟨hp1, hp2⟩ 61 0 _ hP
  have HV := Go.Lib.hid (show getD' r[j].props 61 0 = (val r[j]).2 from rfl)
  rw [HV.out] at cG
  have HB := Go.Lib.hid hB
  have q0 : (0 : Int) ≤ (j : Int) := by omega
  have q1 : (j : Int) < (n : Int) := by omega
  obtain ⟨hc1, hc2⟩ := hc
  unfold maxLen at hc2
  clear o1 hB hcl c0 c2 c3 c4 c5 c6 hP HV
  generalize r[j].props.length = lp at *
  have HX := Go.Lib.hid (⟨hjr, rfl⟩ : ∃ h : j < r.length, (val r[j]).2 = (val r[j]).2)
  generalize hm : (val r[j]).2 = m at *
  have HM := Go.Lib.hid hm
  clear hm HX
  go_enter Try.func60, Try.ntmps60
  go_wp2_with fail
  (with_reducible refine cG.mono ?_)
  rintro e w1 ⟨rfl, rfl⟩
  go_wp2
  go_ret
  exact ⟨⟨hjr, by simp [HM.out]⟩, HB.out⟩

/-- What Span hands back. -/
def SpanR (r : List Cl) (j : Nat) (e : Ending) : Prop := ∃ (f t : Nat) (m : Int), (plR r)[j]? = some (f, t, m) ∧ e = .returned (.tuple #[.int .i64 (f : Nat), .int .i64 (t : Nat)])
set_option maxRecDepth 100000 in
set_option maxHeartbeats 4000000 in
theorem span_any (r : List Cl) (v0 v1 v2 v3 v4 : Value) (A : Option Addr) (n c : Nat) (hn : r.length = n) (hn40 : n ≤ 1000) (hc : n ≤ c ∧ c ≤ maxLen) (j : Nat) (hj : j < n) (w : World) (hA : CsAt w A r) :
    Calls Try.prog 17 #[.agg #[v0, v1, v2, v3, v4, .slice A n c], .int .i64 (j : Nat)] w fun e w' =>
      SpanR r j e ∧ Below w.heap.size w w' := by
  have HN := Go.Lib.hid hn
  have o1 := ObjAt.new w #[v0, v1, v2, v3, v4, .slice A n c] 39
  have z5 := obj6 o1
  have hB : Below w.heap.size w (w.alloc (.cells #[v0, v1, v2, v3, v4, .slice A n c] 39)) := (Below.refl _ w).alloc (Nat.le_refl _) _
  obtain ⟨hc1, hc2⟩ := hc
  unfold maxLen at hc2
  have HA := Go.Lib.hid (hA.below hB)
  have HB := Go.Lib.hid hB
  clear hn hA o1 hB
  go_enter Try.func17, Try.ntmps17
  go_wp2_with fail
  generalize (w.alloc (.cells #[v0, v1, v2, v3, v4, .slice A n c] 39)) = W at *
  go_loopw [4, 5, 6] (fun s4 s5 s6 wr => ∃ k f t : Nat, k ≤ j + 1 ∧ s6 = .int .i64 (k : Nat) ∧ s4 = .int .i64 (f : Nat) ∧ s5 = .int .i64 (t : Nat) ∧ t ≤ 32 ∧ f ≤ 32 ∧ Hid (t = Gd.fin 0 ((r.map val).take k) ∧ (0 < k → f = Gd.fin 0 ((r.map val).take (k - 1)))) ∧ W = wr) (fun _ _ s6 _ => j + 1 - (RowKit.intOf s6).toNat)
  case atStart => exact ⟨0, 0, 0, Nat.zero_le _, rfl, rfl, rfl, by omega, by omega, Go.Lib.hid ⟨rfl, fun h => absurd h (Nat.lt_irrefl _)⟩, rfl⟩
  case round =>
    obtain ⟨k, f, t, hk, rfl, rfl, rfl, ht, hf, HF, rfl⟩ := hrel
    by_cases hlt : k ≤ j
    · have hkr : k < r.length := by rw [HN.out]; omega
      rcases HA.out with h0 | ⟨ga, o, rfl, hga, hcl⟩
      · rw [h0] at hkr; exact absurd hkr (Nat.not_lt_zero _)
      obtain ⟨a0, a2, a3, Bp, cp, D, dn, dc, Y, yn, yc, F, fc, c0, c1, c2, c3, c4, c5, c6, hp1, hp2, hP⟩ := hcl k hkr
      have cG := rget_any Bp r[k].props.length cp r[k].props rfl ⟨hp1, hp2⟩ 60 1 _ hP
      have hst : Gd.stp t (getV r[k].props 60) = Gd.fin 0 ((r.map val).take (k + 1)) := by
        rw [Gd.fin_take_succ _ _ _ (by rw [List.length_map]; exact hkr), ← HF.out.1]; simp [val]
      have hst' : Gd.stp t (getD' r[k].props 60 1) = Gd.stp t (getV r[k].props 60) := by unfold Gd.stp; rw [getD_one]
      rw [← hst'] at hst
      have hle := Gd.stp_le (getD' r[k].props 60 1) ht
      obtain ⟨mx, d, hmx, hd, ES, _⟩ := stp_cast t (getD' r[k].props 60 1) ht
      have q0 : (0 : Int) ≤ (k : Int) := by omega
      have q1 : (k : Int) < (n : Int) := by omega
      have q2 : (k : Int) ≤ (j : Int) := by omega
      have q3 : IntKind.i64.wrap ((32 : Int) - (t : Int)) = 32 - (t : Int) := IntWalk.i64_in _ (by omega)
      have q4 : IntKind.i64.wrap ((t : Int) + d) = (Gd.stp t (getD' r[k].props 60 1) : Nat) := by rw [ES]; exact IntWalk.i64_in _ (by omega)
      have HST := Go.Lib.hid hst
      clear hcl c0 c2 c3 c4 c5 c6 hP ES hst hst'
      generalize r[k].props.length = lp at *
      generalize Gd.stp t (getD' r[k].props 60 1) = t2 at *
      generalize getD' r[k].props 60 1 = cv at *
      go_wp2_with fail
      (with_reducible refine cG.mono ?_)
      rintro e w1 ⟨rfl, rfl⟩
      clear cG
      go_wp2
      go_roundw
      case rel => exact ⟨k + 1, t, t2, by omega, by go_num, rfl, rfl, hle, ht, Go.Lib.hid ⟨HST.out, fun _ => by rw [Nat.add_sub_cancel]; exact HF.out.1⟩, trivial⟩
      case measure => simp [RowKit.intOf]; omega
    · obtain rfl : k = j + 1 := by omega
      have q2 : ¬ (j : Int) + 1 ≤ (j : Int) := by omega
      go_wp2
      go_ret2
      have hjr : j < r.length := by rw [HN.out]; exact hj
      refine ⟨⟨f, t, getV r[j].props 61, ?_, rfl⟩, HB.out⟩
      have h1 := Gd.cel_get (r.map val) 0 j (by rw [List.length_map]; exact hjr)
      have h2 := HF.out.2 (Nat.succ_pos _)
      rw [Nat.add_sub_cancel] at h2
      rw [← HF.out.1, ← h2] at h1
      unfold plR
      rw [List.getElem?_eq_getElem (by rw [Gd.cel_len, List.length_map]; exact hjr), h1]
      simp [val]
end Go.Proofs.Ytkdhffidkopmcaa
