/- Layer 8: inherited (54). -/
import Derived.Test.YtbkpokipibgdfaaSC
import Derived.Test.YtbkpokipibgdfaaSE
namespace Go.Proofs.Ytbkpokipibgdfaa
open Go.RowKit Go.Lib Go.Maps
set_option linter.unusedVariables false

/-- The id of the style that an element names. -/
def idOf (kind : Int) (o : List Pr) : Int := valP o (if (kind == 2) = true then 1 else 20)
/-- What inherited hands back. -/
def InhR (l : List St) (kind : Int) (o : List Pr) (w : World) (e : Ending) (w' : World) : Prop :=
  if idOf kind o ≠ 0 ∧ hasB l kind (idOf kind o) = false then e = .returned (.tuple #[.slice none 0 0, .int .i64 25]) ∧ Below w.heap.size w w'
  else ∃ xs v, ChP l (plc l (idOf kind o)) xs ∧ nxt l (plc l (idOf kind o)) xs = none ∧ e = .returned (.tuple #[v, .int .i64 0]) ∧ w'.ownsRow w.heap.size 55 2 v (effP l xs).length (rowP (effP l xs)) ∧ Below w.heap.size w w'
set_option maxRecDepth 100000 in
set_option maxHeartbeats 8000000 in
theorem inherited_any (l : List St) (hok : LsOk l) (hps : PrsOk l) (A : Option Addr) (m d b N : Nat) (kind : Int) (o : List Pr) (hs : SortP o) (B : Option Addr) (n cb : Nat) (ho : o.length = n) (hn : n ≤ 1000) (hc : n ≤ cb ∧ cb ≤ maxLen)
    (hi : I64 (idOf kind o)) (hbd : Bnd l (plc l (idOf kind o)) N) (w : World) (h : ShAt w A m d b l) (hB : PrAt w B o) :
    Calls Try.prog 54 #[.agg #[.slice A m d, .map (some b)], .int .i64 kind, .slice B n cb] w (InhR l kind o w) := by
  have hb0 := (Below.refl w.heap.size w).alloc (Nat.le_refl _) (.cells #[.slice A m d, .map (some b)] 73)
  have o0 := ObjAt.new w #[.slice A m d, .map (some b)] 73
  have s0 := hb0.size
  have cV := value_any o hs B n cb ho hn hc (if (kind == 2) = true then 1 else 20) _ (hB.below hb0 (Nat.le_refl _))
  have cH := Lib.hid (fun w' (hb : Below w.heap.size w w') => has_any l A m d b kind (idOf kind o) hi w' (h.below hb))
  have cE := Lib.hid (fun w' (hb : Below w.heap.size w w') => effective_any l hok hps A m d b N (idOf kind o) hi hbd w' (h.below hb))
  clear h hB hbd hok hps hs ho
  rw [show valP o (if (kind == 2) = true then 1 else 20) = idOf kind o from rfl] at cV
  go_enter Try.func54, Try.ntmps54
  by_cases hk : (kind == 2) = true
  · rw [if_pos hk] at cV
    go_wp2_with fail
    (with_reducible refine cV.mono ?_)
    rintro e w1 ⟨rfl, k1⟩
    have K1 := Lib.hid (hb0.trans (k1.mono s0))
    have O1 := Lib.hid (o0.below k1)
    clear cV k1 o0 hb0
    have p0 := O1.out.a0
    have p1 := O1.out.a1
    have hs1 := K1.out.size
    by_cases hz : idOf kind o = 0
    · have e1 : (idOf kind o != 0) = false := by simpa using hz
      have ce := cE.out w1 K1.out
      have HZ := Lib.hid hz
      clear hz
      go_wp2_with fail
      (with_reducible refine ce.mono ?_)
      rintro e w2 ⟨xs, q1, q2, v, rfl, hr, k2⟩
      clear ce
      go_wp2
      go_ret2
      unfold InhR
      rw [if_neg (fun h => h.1 HZ.out)]
      exact ⟨xs, v, q1, q2, rfl, own_lower hr hs1, K1.out.trans (k2.mono hs1)⟩
    · have e1 : (idOf kind o != 0) = true := by simpa using hz
      have ch := cH.out w1 K1.out
      have HZ := Lib.hid hz
      clear hz
      cases hh : hasB l kind (idOf kind o) with
      | false =>
        rw [hh] at ch
        go_wp2_with fail
        (with_reducible refine ch.mono ?_)
        rintro e w2 ⟨rfl, k2⟩
        clear ch
        go_wp2
        go_ret2
        unfold InhR
        rw [if_pos ⟨HZ.out, hh⟩]
        exact ⟨rfl, K1.out.trans (k2.mono hs1)⟩
      | true =>
        rw [hh] at ch
        go_wp2_with fail
        (with_reducible refine ch.mono ?_)
        rintro e w2 ⟨rfl, k2⟩
        have K2 := Lib.hid (K1.out.trans (k2.mono hs1))
        have O2 := Lib.hid (O1.out.below k2)
        clear ch k2 p0 p1
        have p0 := O2.out.a0
        have p1 := O2.out.a1
        have hs2 := K2.out.size
        have ce := cE.out w2 K2.out
        go_wp2_with fail
        (with_reducible refine ce.mono ?_)
        rintro e w3 ⟨xs, q1, q2, v, rfl, hr, k3⟩
        clear ce
        go_wp2
        go_ret2
        unfold InhR
        rw [if_neg (fun h => by rw [hh] at h; cases h.2)]
        exact ⟨xs, v, q1, q2, rfl, own_lower hr hs2, K2.out.trans (k3.mono hs2)⟩
  · rw [if_neg hk] at cV
    have hk' : (kind == 2) = false := by simpa using hk
    go_wp2_with fail
    (with_reducible refine cV.mono ?_)
    rintro e w1 ⟨rfl, k1⟩
    have K1 := Lib.hid (hb0.trans (k1.mono s0))
    have O1 := Lib.hid (o0.below k1)
    clear cV k1 o0 hb0
    have p0 := O1.out.a0
    have p1 := O1.out.a1
    have hs1 := K1.out.size
    by_cases hz : idOf kind o = 0
    · have e1 : (idOf kind o != 0) = false := by simpa using hz
      have ce := cE.out w1 K1.out
      have HZ := Lib.hid hz
      clear hz
      go_wp2_with fail
      (with_reducible refine ce.mono ?_)
      rintro e w2 ⟨xs, q1, q2, v, rfl, hr, k2⟩
      clear ce
      go_wp2
      go_ret2
      unfold InhR
      rw [if_neg (fun h => h.1 HZ.out)]
      exact ⟨xs, v, q1, q2, rfl, own_lower hr hs1, K1.out.trans (k2.mono hs1)⟩
    · have e1 : (idOf kind o != 0) = true := by simpa using hz
      have ch := cH.out w1 K1.out
      have HZ := Lib.hid hz
      clear hz
      cases hh : hasB l kind (idOf kind o) with
      | false =>
        rw [hh] at ch
        go_wp2_with fail
        (with_reducible refine ch.mono ?_)
        rintro e w2 ⟨rfl, k2⟩
        clear ch
        go_wp2
        go_ret2
        unfold InhR
        rw [if_pos ⟨HZ.out, hh⟩]
        exact ⟨rfl, K1.out.trans (k2.mono hs1)⟩
      | true =>
        rw [hh] at ch
        go_wp2_with fail
        (with_reducible refine ch.mono ?_)
        rintro e w2 ⟨rfl, k2⟩
        have K2 := Lib.hid (K1.out.trans (k2.mono hs1))
        have O2 := Lib.hid (O1.out.below k2)
        clear ch k2 p0 p1
        have p0 := O2.out.a0
        have p1 := O2.out.a1
        have hs2 := K2.out.size
        have ce := cE.out w2 K2.out
        go_wp2_with fail
        (with_reducible refine ce.mono ?_)
        rintro e w3 ⟨xs, q1, q2, v, rfl, hr, k3⟩
        clear ce
        go_wp2
        go_ret2
        unfold InhR
        rw [if_neg (fun h => by rw [hh] at h; cases h.2)]
        exact ⟨xs, v, q1, q2, rfl, own_lower hr hs2, K2.out.trans (k3.mono hs2)⟩
end Go.Proofs.Ytbkpokipibgdfaa
