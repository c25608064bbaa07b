/- Layer 8: the texts SM SN SO SP SQ SR ST SU. -/
import Derived.Test.YtbkpokipibgdfaaNG
import Derived.Test.YtbkpokipibgdfaaND
import Derived.Deep.Slices
import Derived.Test.YtbkpokipibgdfaaNK
import Derived.Test.YtbkpokipibgdfaaNE
import Derived.Laws.CopyOwn

/- Layer 8: Equal's closure (64). -/
namespace Go.Proofs.Ytbkpokipibgdfaa
open Go.RowKit Go.Lib
set_option linter.unusedVariables false

/-- Are two styles equal? -/
def eqS (x y : St) : Bool := x.id == y.id && x.kind == y.kind && x.name.toList == y.name.toList && x.base == y.base && x.next == y.next && decide (x.props = y.props)
set_option maxRecDepth 100000 in
set_option maxHeartbeats 8000000 in
theorem eqs_any (x1 x2 x4 x5 y1 y2 y4 y5 : Int) (x3 y3 : ByteArray) (xs ys : List Pr) (B C : Option Addr) (c d : Nat) (hc : xs.length ≤ c ∧ c ≤ maxLen) (hd : ys.length ≤ d ∧ d ≤ maxLen) (w : World) (hB : PrAt w B xs) (hC : PrAt w C ys) :
    Calls Try.prog 64 #[.agg #[.int .i64 x1, .int .i64 x2, .string x3, .int .i64 x4, .int .i64 x5, .slice B xs.length c], .agg #[.int .i64 y1, .int .i64 y2, .string y3, .int .i64 y4, .int .i64 y5, .slice C ys.length d]] w
      fun e w' => e = .returned (.bool (eqS ⟨x1, x2, x3, x4, x5, xs⟩ ⟨y1, y2, y3, y4, y5, ys⟩)) ∧ Below w.heap.size w w' := by
  have hb := ((Below.refl w.heap.size w).alloc (Nat.le_refl _) (.cells #[.int .i64 x1, .int .i64 x2, .string x3, .int .i64 x4, .int .i64 x5, .slice B xs.length c] 28)).alloc (by simp) (.cells #[.int .i64 y1, .int .i64 y2, .string y3, .int .i64 y4, .int .i64 y5, .slice C ys.length d] 28)
  have cE := equal_any B C xs.length ys.length c d xs ys rfl rfl hc hd _ (hB.below hb (Nat.le_refl _)) (hC.below hb (Nat.le_refl _))
  have HB := Lib.hid hb
  clear hb hB hC
  go_enter Try.func64, Try.ntmps64
  by_cases h1 : (x1 == y1) = true
  case neg =>
    have h1' : (x1 == y1) = false := by simpa using h1
    clear h1
    clear cE
    have HV := Lib.hid (show eqS ⟨x1, x2, x3, x4, x5, xs⟩ ⟨y1, y2, y3, y4, y5, ys⟩ = false from by unfold eqS; dsimp only; rw [h1']; simp)
    go_wp2
    go_ret
    exact ⟨ret_bool' HV.out.symm, HB.out⟩
  by_cases h2 : (x2 == y2) = true
  case neg =>
    have h2' : (x2 == y2) = false := by simpa using h2
    clear h2
    clear cE
    have HV := Lib.hid (show eqS ⟨x1, x2, x3, x4, x5, xs⟩ ⟨y1, y2, y3, y4, y5, ys⟩ = false from by unfold eqS; dsimp only; rw [h2']; simp)
    go_wp2
    go_ret
    exact ⟨ret_bool' HV.out.symm, HB.out⟩
  by_cases h3 : (x3.toList == y3.toList) = true
  case neg =>
    have h3' : (x3.toList == y3.toList) = false := by simpa using h3
    clear h3
    clear cE
    have HV := Lib.hid (show eqS ⟨x1, x2, x3, x4, x5, xs⟩ ⟨y1, y2, y3, y4, y5, ys⟩ = false from by unfold eqS; dsimp only; rw [h3']; simp)
    go_wp2
    go_ret
    exact ⟨ret_bool' HV.out.symm, HB.out⟩
  by_cases h4 : (x4 == y4) = true
  case neg =>
    have h4' : (x4 == y4) = false := by simpa using h4
    clear h4
    clear cE
    have HV := Lib.hid (show eqS ⟨x1, x2, x3, x4, x5, xs⟩ ⟨y1, y2, y3, y4, y5, ys⟩ = false from by unfold eqS; dsimp only; rw [h4']; simp)
    go_wp2
    go_ret
    exact ⟨ret_bool' HV.out.symm, HB.out⟩
  by_cases h5 : (x5 == y5) = true
  case neg =>
    have h5' : (x5 == y5) = false := by simpa using h5
    clear h5
    clear cE
    have HV := Lib.hid (show eqS ⟨x1, x2, x3, x4, x5, xs⟩ ⟨y1, y2, y3, y4, y5, ys⟩ = false from by unfold eqS; dsimp only; rw [h5']; simp)
    go_wp2
    go_ret
    exact ⟨ret_bool' HV.out.symm, HB.out⟩
  have HV := Lib.hid (show eqS ⟨x1, x2, x3, x4, x5, xs⟩ ⟨y1, y2, y3, y4, y5, ys⟩ = decide (xs = ys) from by unfold eqS; dsimp only; rw [h1, h2, h3, h4, h5]; simp)
  go_wp2_with fail
  (with_reducible refine cE.mono ?_)
  rintro e w5 ⟨rfl, k5⟩
  have K5 := Lib.hid (HB.out.trans (k5.mono HB.out.size))
  clear cE k5
  generalize decide (xs = ys) = bb at HV
  go_wp2
  go_ret
  exact ⟨ret_bool' HV.out.symm, K5.out⟩
end Go.Proofs.Ytbkpokipibgdfaa

/- Layer 8: slices.EqualFunc over styles (63), Equal (43). -/
namespace Go.Proofs.Ytbkpokipibgdfaa
open Go.RowKit Go.Lib
set_option linter.unusedVariables false

/-- Are two lists of styles equal? -/
def eqL (l l' : List St) : Bool := decide (l.length = l'.length) && (List.range l.length).all fun k => eqS (l.getD k default) (l'.getD k default)
theorem eqL_len {l l' : List St} (h : l.length ≠ l'.length) : eqL l l' = false := by unfold eqL; rw [decide_eq_false h]; rfl
theorem eqL_no {l l' : List St} {k : Nat} (hk : k < l.length) (hk' : k < l'.length) (h : eqS l[k] l'[k] = false) : eqL l l' = false := by
  unfold eqL
  rw [Bool.and_eq_false_iff]
  refine .inr ?_
  rw [List.all_eq_false]
  refine ⟨k, List.mem_range.2 hk, ?_⟩
  rw [List.getD_eq_getElem?_getD, List.getD_eq_getElem?_getD, List.getElem?_eq_getElem hk, List.getElem?_eq_getElem hk']
  show ¬ eqS l[k] l'[k] = true
  rw [h]; simp
theorem eqL_yes {l l' : List St} (hl : l.length = l'.length) (h : ∀ k (hk : k < l.length) (hk' : k < l'.length), eqS l[k] l'[k] = true) : eqL l l' = true := by
  unfold eqL
  rw [decide_eq_true hl, Bool.true_and, List.all_eq_true]
  intro k hk
  have hk1 := List.mem_range.1 hk
  have hk2 : k < l'.length := by omega
  rw [List.getD_eq_getElem?_getD, List.getD_eq_getElem?_getD, List.getElem?_eq_getElem hk1, List.getElem?_eq_getElem hk2]
  exact h k hk1 hk2
set_option maxRecDepth 100000 in
set_option maxHeartbeats 8000000 in
theorem eqfunc_any (l l' : List St) (n m : Nat) (hn : l.length = n) (hm : l'.length = m) (h1000 : n ≤ 1000) (h1000' : m ≤ 1000) (A A' : Option Addr) (c c' : Nat) (w : World) (hA : LsAt w A l) (hA' : LsAt w A' l') :
    Calls Try.prog 63 #[.slice A n c, .slice A' m c', .func (.func 64) #[] #[]] w fun e w' => e = .returned (.bool (eqL l l')) ∧ Below w.heap.size w w' := by
  by_cases hnm : n = m
  case neg =>
    have HE := Lib.hid (eqL_len (l := l) (l' := l') (by omega))
    have e3 : ((n : Int) != (m : Int)) = true := by rw [bne_iff_ne]; omega
    go_enter Try.func63, Try.ntmps63
    go_wp2
    go_ret
    exact ⟨ret_bool' HE.out.symm, Below.refl _ _⟩
  subst hnm
  have e3 : ((n : Int) != (n : Int)) = false := by simp
  have HN := Lib.hid hn
  have HM := Lib.hid hm
  have HA := Lib.hid hA
  have HA' := Lib.hid hA'
  clear hn hm hA hA'
  go_enter Try.func63, Try.ntmps63
  go_wp2_with fail
  go_loopw [7, 17] (fun _ s17 wr => ∃ k : Nat, k ≤ n ∧ s17 = .int .i64 (k : Nat) ∧ Hid (∀ j (h : j < l.length) (h' : j < l'.length), j < k → eqS l[j] l'[j] = true) ∧ Hid (Below w.heap.size w wr)) (fun _ s17 _ => n - (intOf s17).toNat)
  case atStart => exact ⟨0, Nat.zero_le _, rfl, Lib.hid (fun j _ _ h => absurd h (Nat.not_lt_zero _)), Lib.hid (Below.refl _ _)⟩
  case round =>
    obtain ⟨k, hk, rfl, HQ, HB⟩ := hrel
    by_cases hlt : k < n
    · have hkl : k < l.length := by rw [HN.out]; exact hlt
      have hkl' : k < l'.length := by rw [HM.out]; exact hlt
      obtain ⟨g, o, rfl, hg, hcl⟩ := HA.out.pos (by omega)
      obtain ⟨g', o', rfl, hg', hcl'⟩ := HA'.out.pos (by omega)
      obtain ⟨B, cc, z0, z1, z2, z3, z4, z5, zc1, zc2, zp⟩ := (hcl k hkl)
      obtain ⟨B', cc', y0, y1, y2, y3, y4, y5, yc1, yc2, yp⟩ := (hcl' k hkl')
      replace z0 := (HB.out.cell (p := ⟨g, o + k * 6, none⟩) hg).trans z0
      replace z1 := (HB.out.cell (p := ⟨g, o + k * 6 + 1, none⟩) hg).trans z1
      replace z2 := (HB.out.cell (p := ⟨g, o + k * 6 + 2, none⟩) hg).trans z2
      replace z3 := (HB.out.cell (p := ⟨g, o + k * 6 + 3, none⟩) hg).trans z3
      replace z4 := (HB.out.cell (p := ⟨g, o + k * 6 + 4, none⟩) hg).trans z4
      replace z5 := (HB.out.cell (p := ⟨g, o + k * 6 + 5, none⟩) hg).trans z5
      replace y0 := (HB.out.cell (p := ⟨g', o' + k * 6, none⟩) hg').trans y0
      replace y1 := (HB.out.cell (p := ⟨g', o' + k * 6 + 1, none⟩) hg').trans y1
      replace y2 := (HB.out.cell (p := ⟨g', o' + k * 6 + 2, none⟩) hg').trans y2
      replace y3 := (HB.out.cell (p := ⟨g', o' + k * 6 + 3, none⟩) hg').trans y3
      replace y4 := (HB.out.cell (p := ⟨g', o' + k * 6 + 4, none⟩) hg').trans y4
      replace y5 := (HB.out.cell (p := ⟨g', o' + k * 6 + 5, none⟩) hg').trans y5
      have f0 : (0 : Int) ≤ (k : Int) := by omega
      have f1 : (k : Int) < (n : Int) := by omega
      have hs := HB.out.size
      have HY := Lib.hid (fun (h : eqS l[k] l'[k] = false) => eqL_no hkl hkl' h)
      have HX := Lib.hid (fun (h : eqS l[k] l'[k] = true) => show ∀ j (h : j < l.length) (h' : j < l'.length), j < k + 1 → eqS l[j] l'[j] = true from fun j hj hj' hl => if e : j = k then by subst e; exact h else HQ.out j hj hj' (by omega))
      have CE := Lib.hid (fun w' (hb : Below w.heap.size w w') => eqs_any l[k].id l[k].kind l[k].base l[k].next l'[k].id l'[k].kind l'[k].base l'[k].next l[k].name l'[k].name l[k].props l'[k].props B B' cc cc' ⟨zc1, zc2⟩ ⟨yc1, yc2⟩ w' (zp.below hb (Nat.le_refl _)) (yp.below hb (Nat.le_refl _)))
      clear hcl hcl' zc1 zc2 zp yc1 yc2 yp
      generalize l[k] = x at z0 z1 z2 z3 z4 z5 HY HX CE
      generalize l'[k] = y at y0 y1 y2 y3 y4 y5 HY HX CE
      obtain ⟨a1, a2, a3, a4, a5, ps⟩ := x
      obtain ⟨b1, b2, b3, b4, b5, qs⟩ := y
      dsimp only at z0 z1 z2 z3 z4 z5 y0 y1 y2 y3 y4 y5 HY HX CE
      have B7 := (HB.out.alloc hs (.cells #[.int .i64 a1, .int .i64 a2, .string a3, .int .i64 a4, .int .i64 a5, .slice B ps.length cc] 28)).alloc (by simp; omega) (.cells #[.int .i64 b1, .int .i64 b2, .string b3, .int .i64 b4, .int .i64 b5, .slice B' qs.length cc'] 28)
      have s7 := B7.size
      have hbA := (Below.refl wr.heap.size wr).alloc (Nat.le_refl _) (.cells #[.int .i64 a1, .int .i64 a2, .string a3, .int .i64 a4, .int .i64 a5, .slice B ps.length cc] 28)
      have hgw : g' < wr.heap.size := by omega
      have v0 := (hbA.cell (p := ⟨g', o' + k * 6, none⟩) hgw).trans y0
      have v1 := (hbA.cell (p := ⟨g', o' + k * 6 + 1, none⟩) hgw).trans y1
      have v2 := (hbA.cell (p := ⟨g', o' + k * 6 + 2, none⟩) hgw).trans y2
      have v3 := (hbA.cell (p := ⟨g', o' + k * 6 + 3, none⟩) hgw).trans y3
      have v4 := (hbA.cell (p := ⟨g', o' + k * 6 + 4, none⟩) hgw).trans y4
      have v5 := (hbA.cell (p := ⟨g', o' + k * 6 + 5, none⟩) hgw).trans y5
      have U1 := (ObjAt.new wr #[.int .i64 a1, .int .i64 a2, .string a3, .int .i64 a4, .int .i64 a5, .slice B ps.length cc] 28).alloc (.cells #[.int .i64 b1, .int .i64 b2, .string b3, .int .i64 b4, .int .i64 b5, .slice B' qs.length cc'] 28)
      have U2 := ObjAt.new (wr.alloc (.cells #[.int .i64 a1, .int .i64 a2, .string a3, .int .i64 a4, .int .i64 a5, .slice B ps.length cc] 28)) #[.int .i64 b1, .int .i64 b2, .string b3, .int .i64 b4, .int .i64 b5, .slice B' qs.length cc'] 28
      rw [World.size_alloc] at U2
      have p0 := U1.s0
      have p1 := U1.s1
      have p2 := U1.s2
      have p3 := U1.s3
      have p4 := U1.s4
      have p5 := U1.s5
      have q0 := U2.s0
      have q1 := U2.s1
      have q2 := U2.s2
      have q3 := U2.s3
      have q4 := U2.s4
      have q5 := U2.s5
      have ce := CE.out _ B7
      cases hv : eqS ⟨a1, a2, a3, a4, a5, ps⟩ ⟨b1, b2, b3, b4, b5, qs⟩ with
      | false =>
        rw [hv] at ce
        have HE := Lib.hid (HY.out hv)
        clear HY HX hv
        go_wp2_with fail
        (with_reducible refine ce.mono ?_)
        rintro e w7 ⟨rfl, k7⟩
        have K7 := Lib.hid (B7.trans (k7.mono s7))
        clear ce k7 B7
        go_wp2
        go_ret
        exact ⟨ret_bool' HE.out.symm, K7.out⟩
      | true =>
        rw [hv] at ce
        have HE := Lib.hid (HX.out hv)
        clear HY HX hv
        go_wp2_with fail
        (with_reducible refine ce.mono ?_)
        rintro e w7 ⟨rfl, k7⟩
        have K7 := Lib.hid (B7.trans (k7.mono s7))
        clear ce k7 B7 U1 U2 hbA v0 v1 v2 v3 v4 v5 p0 p1 p2 p3 p4 p5 q0 q1 q2 q3 q4 q5 z0 z1 z2 z3 z4 z5 y0 y1 y2 y3 y4 y5
        go_wp2
        go_roundw
        case rel => exact ⟨k + 1, by omega, by go_num, HE, K7⟩
        case measure => simp [intOf]; omega
    · obtain rfl : k = n := by omega
      have HE := Lib.hid (eqL_yes (l := l) (l' := l') (by rw [HN.out, HM.out]) (fun j h h' => HQ.out j h h' (by rw [← HN.out]; exact h)))
      go_wp2
      go_ret
      exact ⟨ret_bool' HE.out.symm, HB.out⟩
theorem Equal_any (l l' : List St) (n m : Nat) (hn : l.length = n) (hm : l'.length = m) (h1000 : n ≤ 1000) (h1000' : m ≤ 1000) (A A' : Option Addr) (c c' : Nat) (w : World) (hA : LsAt w A l) (hA' : LsAt w A' l') :
    Calls Try.prog 43 #[.slice A n c, .slice A' m c'] w fun e w' => e = .returned (.bool (eqL l l')) ∧ Below w.heap.size w w' := by
  have cE := eqfunc_any l l' n m hn hm h1000 h1000' A A' c c' w hA hA'
  clear hA hA' hn hm
  generalize eqL l l' = b at cE ⊢
  go_enter Try.func43, Try.ntmps43
  go_wp2_with fail
  (with_reducible refine cE.mono ?_)
  rintro e w1 ⟨rfl, k1⟩
  clear cE
  go_wp2
  go_ret
  exact ⟨rfl, k1⟩
end Go.Proofs.Ytbkpokipibgdfaa

/- Layer 8: arguments that are lists of styles. -/
namespace Go.Proofs.Ytbkpokipibgdfaa
open Go.RowKit Go.Lib Go.ChangeShapes Go.WideShapes
set_option linter.unusedVariables false

theorem c3' : Try.prog.cellsOf 3 = 1 := by kernel_rfl
theorem c9' : Try.prog.cellsOf 9 = 1 := by kernel_rfl
theorem c26' : Try.prog.cellsOf 26 = 1 := by kernel_rfl
theorem c28' : Try.prog.cellsOf 28 = 6 := by kernel_rfl
theorem wf_i64 {x : Int} (h : (Lit.int .i64 x).wf = true) : I64 x := by
  unfold I64
  simp [Lit.wf, IntKind.bits, IntKind.signed, IntKind.min, IntKind.max] at h
  omega
section
variable {H : Type} {enc : TypeId × Value → H} {w : World} {fuel : Nat}
theorem leaf {t e : TypeId} {cs : List Value} {x : DataW H × List MemPlace} (ht : Try.prog.underlying t = some (.slice e)) (h : DataW.trod enc Try.prog w 0 (fun _ => true) true fuel t cs = some x) : ∃ (A : Option Addr) (n c : Nat), cs = [.slice A n c] := by
  rcases Go.Deep.open_slice ht h with ⟨hcs, _⟩ | ⟨a, len', cap', m, n, D, Pl, hcs, _⟩
  · exact ⟨_, _, _, hcs⟩
  · exact ⟨_, _, _, hcs⟩
theorem addN {a : Addr} {w : World} {v : Value} (h : w.cell? (a.add 0) = some v) : a.spot = none := by simpa [Addr.add] using World.cell?_spot h
theorem add_lit' (b o i : Nat) : ((⟨b, o, none⟩ : Addr).add i) = ⟨b, o + i, none⟩ := by unfold Addr.add; split <;> simp_all
/-- What is sure of a style that came in. -/
def StIn (x : St) : Prop := I64 x.id ∧ I64 x.kind ∧ I64 x.base ∧ I64 x.next ∧ x.name.size ≤ maxLen ∧ ∀ y ∈ x.props, I64 y.1 ∧ I64 y.2
set_option maxRecDepth 100000 in
theorem open_style {cs : List Value} (hl : cs.length = 6) {x : DataW H × List MemPlace} (h : DataW.trod enc Try.prog w 0 (fun _ => true) true fuel 28 cs = some x) :
    ∃ (q : St) (B : Option Addr) (c : Nat), cs = [.int .i64 q.id, .int .i64 q.kind, .string q.name, .int .i64 q.base, .int .i64 q.next, .slice B q.props.length c] ∧ q.props.length ≤ c ∧ c ≤ maxLen ∧ PrAt w B q.props ∧ StIn q := by
  obtain ⟨xs, k, _, _, _, hxl, hf⟩ := DataW.trod_struct Try.underlying28 h
  match xs, hxl, cs, hl with
  | [y0, y1, y2, y3, y4, y5], _, [v0, v1, v2, v3, v4, v5], _ =>
    have g0 := hf 0 _ rfl
    have g1 := hf 1 _ rfl
    have g2 := hf 2 _ rfl
    have g3 := hf 3 _ rfl
    have g4 := hf 4 _ rfl
    have g5 := hf 5 _ rfl
    simp [c3', c9', c26'] at g0 g1 g2 g3 g4 g5
    obtain ⟨z0, p0, _, w0⟩ := DataW.trod_int Try.underlying3 g0
    obtain ⟨z1, p1, _, w1⟩ := DataW.trod_int Try.underlying3 g1
    obtain ⟨z2, p2, _, w2⟩ := DataW.trod_string Try.underlying9 g2
    obtain ⟨z3, p3, _, w3⟩ := DataW.trod_int Try.underlying3 g3
    obtain ⟨z4, p4, _, w4⟩ := DataW.trod_int Try.underlying3 g4
    obtain ⟨A, n, c, p5⟩ := leaf Try.underlying26 g5
    rw [p5] at g5
    obtain ⟨l, hl1, hl2, hl3, hl4, hl5⟩ := open_props g5
    simp only [List.cons.injEq, and_true] at p0 p1 p2 p3 p4 p5
    subst p0 p1 p2 p3 p4 p5 hl1
    exact ⟨⟨z0, z1, z2, z3, z4, l⟩, A, c, rfl, hl2, hl3, hl4, wf_i64 w0, wf_i64 w1, wf_i64 w3, wf_i64 w4, w2, fun y hy => ⟨wf_i64 (hl5 y hy).1, wf_i64 (hl5 y hy).2⟩⟩
set_option maxRecDepth 100000 in
theorem open_styles {cs : List Value} {x : DataW H × List MemPlace} (h : DataW.trod enc Try.prog w 0 (fun _ => true) true fuel 22 cs = some x) :
    ∃ (A : Option Addr) (c : Nat) (l : List St), cs = [.slice A l.length c] ∧ l.length ≤ c ∧ c ≤ maxLen ∧ LsAt w A l ∧ ∀ x ∈ l, StIn x := by
  rcases Go.Deep.open_slice Try.underlying22 h with ⟨hcs, _⟩ | ⟨a, len, cap, m, n, D, Pl, hcs, _, hl, hm, hmm, _, hat⟩
  · exact ⟨none, 0, [], hcs, Nat.le_refl _, by decide, .inl rfl, by simp⟩
  · simp only [if_true] at hmm
    subst hmm
    have each : ∀ i, i < len → ∃ q : St, w.cell? (a.add (i * 6)) ≠ none ∧ StIn q ∧ ∀ b o, a = ⟨b, o, none⟩ → StAt w b (o + i * 6) q := by
      intro i hi
      obtain ⟨cs', h1, h2⟩ := hat i (by omega)
      rw [c28'] at h1
      obtain ⟨_, hlen, hcell⟩ := World.cells?_some h1
      obtain ⟨q, B, c, hcs', p1, p2, p3, p4⟩ := open_style hlen h2
      subst hcs'
      refine ⟨q, ?_, p4, fun b o e => ?_⟩
      · have := hcell 0 (by omega)
        rw [Go.Deep.add_add] at this
        intro h
        rw [show i * 6 + 0 = i * 6 by omega, h] at this
        simp at this
      · subst e
        have ee := fun j (hj : j < 6) => hcell j hj
        simp only [add_lit'] at ee
        have e0 := ee 0 (by omega)
        have e1 := ee 1 (by omega)
        have e2 := ee 2 (by omega)
        have e3 := ee 3 (by omega)
        have e4 := ee 4 (by omega)
        have e5 := ee 5 (by omega)
        exact ⟨B, c, e0, e1, e2, e3, e4, e5, p1, p2, p3⟩
    obtain ⟨q, hq⟩ := Go.Deep.choose_lt each
    have hall : ∀ x ∈ (List.range len).map q, StIn x := by
      intro x hx
      obtain ⟨i, hi, rfl⟩ := List.mem_map.1 hx
      exact (hq i (List.mem_range.1 hi)).2.1
    refine ⟨some a, m, (List.range len).map q, by rw [hcs]; simp, by simpa using hl, hm, ?_, hall⟩
    by_cases h0 : len = 0
    · subst h0; exact .inl rfl
    obtain ⟨b, off, spot⟩ := a
    obtain ⟨v, hv⟩ := Option.ne_none_iff_exists'.1 (hq 0 (by omega)).1
    have hspot : spot = none := addN (a := ⟨b, off, spot⟩) (by simpa using hv)
    subst hspot
    have hg : b < w.heap.size := World.block_lt_of_cell? w ⟨b, off + 0 * 6, none⟩ (by rw [add_lit'] at hv; exact hv)
    refine .inr ⟨b, off, rfl, hg, fun k hk => ?_⟩
    have hk' : k < len := by simpa using hk
    simp only [List.getElem_map, List.getElem_range]
    exact (hq k hk').2.2 b off rfl
end
end Go.Proofs.Ytbkpokipibgdfaa

/- Layer 8: slices.DeleteFunc on a row of one's own (74). -/
namespace Go.Proofs.Ytbkpokipibgdfaa
open Go.RowKit Go.Lib
set_option linter.unusedVariables false

def keepP (gr : Int) (l : List Pr) : List Pr := l.filter fun y => !isOt gr y
theorem keepP_snoc (gr : Int) (l : List Pr) (k : Nat) (h : k < l.length) : keepP gr (l.take (k + 1)) = keepP gr (l.take k) ++ (if isOt gr l[k] = true then [] else [l[k]]) := by
  unfold keepP
  rw [List.take_succ_eq_append_getElem h, List.filter_append]
  by_cases e : isOt gr l[k] = true
  · rw [if_pos e, List.filter_cons_of_neg (p := fun y : Pr => !isOt gr y) (by simp [e])]; rfl
  · rw [if_neg e, List.filter_cons_of_pos (p := fun y : Pr => !isOt gr y) (by simp [e])]; rfl
theorem keepP_all {gr : Int} {l : List Pr} (h : ∀ j (h : j < l.length), isOt gr l[j] = false) : keepP gr l = l := by
  unfold keepP
  rw [List.filter_eq_self]
  intro x hx
  obtain ⟨j, hj, rfl⟩ := List.mem_iff_getElem.1 hx
  rw [h j hj]; rfl
theorem keepP_len (gr : Int) (l : List Pr) : (keepP gr l).length ≤ l.length := List.length_filter_le _ _
theorem tset (cs : List Value) (x : Nat) (v : Value) : (cs.toArray).modify x (fun _ => v) = (cs.set x v).toArray := by
  apply Array.ext
  · simp
  · intro i h1 h2
    simp only [List.modify_toArray, List.getElem_toArray, List.getElem_modify, List.getElem_set]
theorem run_clearN (w : World) (g o m c : Nat) (cs : List Value) (t : TypeId) (hg : w.heap[g]? = some (.cells cs.toArray t (0, 0))) (hfit : o + m * 2 ≤ cs.length) (hm : 0 < m) :
    ∃ zs : List Value, zs.length = m * 2 ∧ ∀ ty, (Builtin.clear_ #[26] ty #[.slice (some ⟨g, o, none⟩) m c]).run Try.prog w = .ok (.tuple #[]) (w.setRow g (cs.take o ++ zs ++ cs.drop (o + m * 2)).toArray) := by
  have hz := Try.zeroValue55 w
  have hl : (Builtin.zeroCells (Value.agg #[.int .i64 0, .int .i64 0]).cells m).toList.length = m * 2 := by
    rw [Array.length_toList, Go.size_zeroCells]; rfl
  have h1 : ∀ u ∈ (Builtin.zeroCells (Value.agg #[.int .i64 0, .int .i64 0]).cells m).toList, u.oneCell' = true := by
    intro u hu
    unfold Builtin.zeroCells at hu
    simp only [Array.toList_map, List.mem_map] at hu
    obtain ⟨i, _, rfl⟩ := hu
    have : i % 2 = 0 ∨ i % 2 = 1 := by omega
    show ((#[Value.int .i64 0, Value.int .i64 0] : Array Value)[i % 2]!).oneCell' = true
    rcases this with e | e <;> rw [e] <;> rfl
  have e1 := run_storeCells_at Try.prog g o t _ 0 cs.toArray w hg (by rw [hl]; simpa using hfit) h1
  refine ⟨_, hl, fun ty => ?_⟩
  rw [hl] at e1
  simp only [Nat.add_zero] at e1
  cases m with
  | zero => omega
  | succ m => simp [Builtin.clear_, run_underlying Try.underlying26, hz, e1]
theorem grown_setC (W : World) (b i : Nat) (u : Value) : W.grownBy (W.setCell ⟨b, i, none⟩ u) (some b) :=
  ⟨rfl, rfl, rfl, by simp [World.setCell], fun k hk hne => Below.heap_setCell W ⟨b, i, none⟩ u k (by rintro rfl; exact hne rfl)⟩
theorem take_set2 (cs : List Value) (i : Nat) (a b : Value) (h : i * 2 + 1 < cs.length) : ((cs.set (i * 2) a).set (i * 2 + 1) b).take ((i + 1) * 2) = cs.take (i * 2) ++ [a, b] := by
  apply List.ext_getElem?
  intro q
  rw [List.getElem?_take]
  by_cases h1 : q < i * 2
  · rw [if_pos (by omega), List.getElem?_set_ne (by omega), List.getElem?_set_ne (by omega), List.getElem?_append_left (by simp; omega), List.getElem?_take, if_pos h1]
  · have hl : (cs.take (i * 2)).length = i * 2 := by simp; omega
    rw [List.getElem?_append_right (by omega), hl]
    by_cases h2 : q = i * 2
    · subst h2
      rw [if_pos (by omega), List.getElem?_set_ne (by omega), List.getElem?_set_self (by omega), Nat.sub_self]; rfl
    · by_cases h3 : q = i * 2 + 1
      · subst h3
        rw [if_pos (by omega), List.getElem?_set_self (by simp; omega), show i * 2 + 1 - i * 2 = 1 by omega]; rfl
      · rw [if_neg (by omega), List.getElem?_eq_none (by simp; omega)]
/-- A row of one's own, gone through up to j: i of them are kept. -/
structure DL (base g cap : Nat) (l : List Pr) (gr : Int) (w : World) (i j : Nat) (cs : List Value) (wr : World) : Prop where
  lt : i < j
  le : j ≤ l.length
  len : cs.length = cap * 2
  row : ObjAt wr g cs.toArray 55
  kept : cs.take (i * 2) = rowP (keepP gr (l.take j))
  rest : ∀ q (h : q < l.length), j ≤ q → cs[q * 2]? = some (.int .i64 l[q].1) ∧ cs[q * 2 + 1]? = some (.int .i64 l[q].2)
  below : Below base w wr
set_option maxRecDepth 100000 in
set_option maxHeartbeats 8000000 in
theorem delfunc_any (l : List Pr) (n cap : Nat) (hn : l.length = n) (h1000 : n ≤ 1000) (B : Option Addr) (base : Nat) (gr : Int) (bg : Nat) (hbg : bg < base) (w : World) (hbs : base ≤ w.heap.size) (hown : w.ownsRow base 55 2 (.slice B n cap) n (rowP l)) (hgr : w.cell? ⟨bg, 0, none⟩ = some (.int .i64 gr)) :
    Calls Try.prog 74 #[.slice B n cap, .func (.func 76) #[] #[.pointer (some ⟨bg, 0, none⟩)]] w fun e w' => ∃ k, e = .returned (.slice B k cap) ∧ (keepP gr l).length = k ∧ w'.ownsRow base 55 2 (.slice B k cap) k (rowP (keepP gr l)) ∧ Below base w w' := by
  obtain ⟨A2, c2, he2, hc1, hc2, hpr⟩ := PVal.own hown hn
  injection he2 with q1 q2 q3
  subst q1 q3
  clear q2
  rw [hn] at hc1
  have cI := indexot_any l n hn B cap ⟨hc1, hc2⟩ gr bg w hpr hgr
  have HO := Lib.hid hown
  have HN := Lib.hid hn
  have CB := Lib.hid (fun a b w' (hb : Below base w w') => isot_any a b gr bg w' ((hb.cell (p := ⟨bg, 0, none⟩) hbg).trans hgr))
  unfold maxLen at hc2
  clear hown hgr hpr hn
  go_enter Try.func74, Try.ntmps74
  go_wp2_with fail
  (with_reducible refine cI.mono ?_)
  rintro e w1 ⟨(⟨k, hk, rfl, hk1, hk2⟩ | ⟨rfl, hall⟩), k1⟩
  · have hkn : k < n := by rw [← HN.out]; exact hk
    have e1 : ((k : Int) == -1) = false := by rw [beq_eq_false_iff_ne]; omega
    have hro := row_below HO.out k1
    rcases hro.2 with ⟨hvv, h0⟩ | ⟨g, cap', cur, hvv, hgb, hg, hcap, hcm, hsz, htk⟩
    · omega
    injection hvv with z1 z2 z3
    subst z1 z3
    obtain ⟨cs⟩ := cur
    simp only [List.size_toArray] at hsz htk
    have hks : keepP gr (l.take k) = l.take k := keepP_all (fun j hj => by
      rw [List.length_take] at hj
      rw [List.getElem_take]
      exact hk2 j (by omega) (by omega))
    have hcell : ∀ q u, (rowP l)[q]? = some u → cs[q]? = some u := fun q u hq => by
      rw [← htk, List.getElem?_take] at hq
      split at hq
      · exact hq
      · cases hq
    have S0 := Lib.hid (show DL base g cap l gr w k (k + 1) cs w1 from ⟨by omega, by omega, by rw [hsz], hg, by
        rw [keepP_snoc gr l k hk, if_pos hk1, List.append_nil, hks]
        have := congrArg (List.take (k * 2)) htk
        rw [List.take_take, Nat.min_eq_left (by omega)] at this
        rw [this]
        have e : rowP l = rowP (l.take k) ++ rowP (l.drop k) := by unfold rowP; rw [← List.flatMap_append, List.take_append_drop]
        rw [e, List.take_left' (by rw [rowP_len, List.length_take]; omega)],
      fun q hq _ => by
        have hl := rowP_get l q hq
        exact ⟨hcell _ _ hl.1, hcell _ _ hl.2⟩, k1.mono hbs⟩)
    clear cI hk1 hk2 hro hg htk hks hcell k1 hcm
    go_wp2_with fail
    go_loopw [5, 6] (fun s5 s6 wr => ∃ (i j : Nat) (cs : List Value), s5 = .int .i64 (i : Nat) ∧ s6 = .int .i64 (j : Nat) ∧ j ≤ n ∧ Hid (DL base g cap l gr w i j cs wr)) (fun _ s6 _ => n - (intOf s6).toNat)
    case atStart => exact ⟨k, k + 1, cs, rfl, by go_num, by omega, S0⟩
    case round =>
      obtain ⟨i, j, cs', rfl, rfl, hj, HD⟩ := hrel
      clear S0
      by_cases hlt : j < n
      · have hjl : j < l.length := by rw [HN.out]; exact hlt
        have hr := HD.out.rest j hjl (Nat.le_refl _)
        have z0 := HD.out.row.get (k := j * 2) (v := .int .i64 l[j].1) (by simpa using hr.1)
        have z1 := HD.out.row.get (k := j * 2 + 1) (v := .int .i64 l[j].2) (by simpa using hr.2)
        have f0 : (0 : Int) ≤ (j : Int) := by omega
        have f1 : (j : Int) < (n : Int) := by omega
        have hij := HD.out.lt
        have hs : base ≤ wr.heap.size := Nat.le_trans hbs HD.out.below.size
        have HK := Lib.hid (keepP_snoc gr l j hjl)
        clear hr
        generalize l[j] = x at z0 z1 HK
        obtain ⟨xa, xb⟩ := x
        dsimp only at z0 z1
        have cb := CB.out xa xb (wr.alloc (.cells #[.int .i64 xa, .int .i64 xb] 55)) (HD.out.below.alloc hs _)
        have U := ObjAt.new wr #[.int .i64 xa, .int .i64 xb] 55
        have R1 := HD.out.row.alloc (.cells #[.int .i64 xa, .int .i64 xb] 55)
        have B1 := HD.out.below.alloc hs (.cells #[.int .i64 xa, .int .i64 xb] 55)
        have u0 := U.a0
        have u1 := U.a1
        have sB : base ≤ (wr.alloc (.cells #[.int .i64 xa, .int .i64 xb] 55)).heap.size := by rw [World.size_alloc]; omega
        cases hv : isOt gr (xa, xb) with
        | true =>
          rw [hv] at cb
          go_wp2_with fail
          (with_reducible refine cb.mono ?_)
          rintro e w5 ⟨rfl, k5⟩
          have HD' := Lib.hid (show DL base g cap l gr w i (j + 1) cs' w5 from ⟨by omega, by omega, HD.out.len, R1.below k5, by rw [HK.out, if_pos hv, List.append_nil]; exact HD.out.kept, fun q hq hqj => HD.out.rest q hq (by omega), B1.trans (k5.mono sB)⟩)
          clear cb k5 U R1 B1 u0 u1 z0 z1
          go_wp2
          go_roundw
          case rel => exact ⟨i, j + 1, cs', rfl, by go_num, by omega, HD'⟩
          case measure => simp [intOf]; omega
        | false =>
          rw [hv] at cb
          go_wp2_with fail
          (with_reducible refine cb.mono ?_)
          rintro e w5 ⟨rfl, k5⟩
          have U5 := U.below k5
          have v0 := U5.a0
          have v1 := U5.a1
          have R5 := R1.below k5
          have w0 := R5.get (k := i * 2) (v := cs'[i * 2]'(by have := HD.out.len; omega)) (by simp)
          have w1 := R5.get (k := i * 2 + 1) (v := cs'[i * 2 + 1]'(by have := HD.out.len; omega)) (by simp)
          have y0 := R5.frozen (i * 2)
          have y1 := R5.frozen (i * 2 + 1)
          have g0 : (0 : Int) ≤ (i : Int) := by omega
          have g1 : (i : Int) < (n : Int) := by omega
          have HLN := Lib.hid HD.out.len
          have HD' := Lib.hid (show DL base g cap l gr w (i + 1) (j + 1) ((cs'.set (i * 2) (.int .i64 xa)).set (i * 2 + 1) (.int .i64 xb)) ((w5.setCell ⟨g, i * 2, none⟩ (.int .i64 xa)).setCell ⟨g, i * 2 + 1, none⟩ (.int .i64 xb)) from by
            have r1 := (R5.set (i * 2) (.int .i64 xa)).set (i * 2 + 1) (.int .i64 xb)
            rw [tset, tset] at r1
            have hb5 := B1.trans (k5.mono sB)
            refine ⟨by omega, by omega, by simp [HLN.out], r1, ?_, fun q hq hqj => ?_, (hb5.grown (grown_setC w5 g (i * 2) _) (Nat.le_trans hbs hb5.size) (fun e h => by cases h; exact hgb)).grown (grown_setC _ g (i * 2 + 1) _) (by have := Nat.le_trans hbs hb5.size; simpa [World.setCell] using this) (fun e h => by cases h; exact hgb)⟩
            · rw [HK.out, if_neg (by rw [hv]; simp), rowP_snoc, ← HD.out.kept]
              exact take_set2 cs' i _ _ (by have := HLN.out; omega)
            · have := HD.out.rest q hq (by omega)
              rw [List.getElem?_set_ne (by omega), List.getElem?_set_ne (by omega), List.getElem?_set_ne (by omega), List.getElem?_set_ne (by omega)]
              exact this)
          clear cb k5 U R1 B1 u0 u1 z0 z1 U5 R5
          go_wp2_with fail
          go_roundw
          case rel => exact ⟨i + 1, j + 1, _, by go_num, by go_num, by omega, HD'⟩
          case measure => simp [intOf]; omega
      · obtain rfl : j = n := by omega
        have hij := HD.out.lt
        have hcapn : ¬ (cap = i) := by omega
        have hcc : i ≤ cap := by omega
        have hln := HD.out.len
        obtain ⟨zs, hzl, hclr⟩ := run_clearN wr g (i * 2) (j - i) (cap - i) cs' 55 HD.out.row (by omega) (by omega)
        have HK := Lib.hid HD.out.kept
        have hkl : (keepP gr l).length = i := by
          have h1 := congrArg List.length HD.out.kept
          rw [List.length_take, List.take_of_length_le (by rw [HN.out]; exact Nat.le_refl _), rowP_len] at h1
          omega
        have HKL := Lib.hid hkl
        have hsb : base ≤ wr.heap.size := Nat.le_trans hbs HD.out.below.size
        clear hkl
        go_wp2_with fail
        go_ret
        have htl : l.take j = l := List.take_of_length_le (by rw [HN.out]; exact Nat.le_refl _)
        have hk2 := HK.out
        rw [htl] at hk2
        refine ⟨i, rfl, HKL.out, ⟨by rw [rowP_len, HKL.out], .inr ⟨g, cap, _, rfl, hgb, setRow_heap wr g _ _ 55 _ HD.out.row, hcc, by unfold maxLen; omega, ?_, ?_⟩⟩, below_setRow HD.out.below hgb _⟩
        · simp only [List.size_toArray, List.length_append, List.length_take, List.length_drop, hzl, hln]
          omega
        · show (cs'.take (i * 2) ++ _).take (i * 2) = _
          rw [List.take_left' (by rw [List.length_take, hln]; omega), hk2]
  · go_wp2
    go_ret
    have hka := keepP_all hall
    exact ⟨n, rfl, by rw [hka]; exact HN.out, by rw [hka]; exact row_below HO.out k1, k1.mono hbs⟩
end Go.Proofs.Ytbkpokipibgdfaa

/- Layer 8: pick (55). -/
namespace Go.Proofs.Ytbkpokipibgdfaa
open Go.RowKit Go.Lib
set_option linter.unusedVariables false

set_option maxRecDepth 100000 in
set_option maxHeartbeats 8000000 in
theorem pick_any (gr : Int) (l : List Pr) (n c : Nat) (hn : l.length = n) (h1000 : n ≤ 1000) (A : Option Addr) (hc : n ≤ c ∧ c ≤ maxLen) (w : World) (hA : PrAt w A l) :
    Calls Try.prog 55 #[.int .i64 gr, .slice A n c] w fun e w' => ∃ B k cap, e = .returned (.slice B k cap) ∧ (keepP gr l).length = k ∧ w'.ownsRow w.heap.size 55 2 (.slice B k cap) k (rowP (keepP gr l)) ∧ Below w.heap.size w w' := by
  have hb0 := (Below.refl w.heap.size w).alloc (Nat.le_refl _) (.cells #[.int .i64 gr] 3)
  have b0 := Boxed.new w 3 (.int .i64 gr)
  have s0 := hb0.size
  have cC := clone_any A n c l hn hc h1000 (w.alloc (.cells #[.int .i64 gr] 3)) (hA.below hb0 (Nat.le_refl _))
  have CD := Lib.hid (fun B cap w1 (hb : w.heap.size + 1 ≤ w1.heap.size) (ho : w1.ownsRow (w.heap.size + 1) 55 2 (.slice B n cap) n (rowP l)) hg => delfunc_any l n cap hn h1000 B (w.heap.size + 1) gr w.heap.size (by omega) w1 hb ho hg)
  clear hA hn
  go_enter Try.func55, Try.ntmps55
  go_wp2_with fail
  (with_reducible refine cC.mono ?_)
  rintro e w1 ⟨B, cb, rfl, hown, k1⟩
  have hs1 := k1.size
  rw [World.size_alloc] at hs1 hown k1
  have g1 := (boxed_below b0 (by rw [World.size_alloc]; exact k1)).cell
  have cD := CD.out B cb w1 hs1 hown g1
  have K1 := Lib.hid (hb0.trans (k1.mono (by omega)))
  clear cC b0 hb0 k1 g1
  go_wp2_with fail
  (with_reducible refine cD.mono ?_)
  rintro e w2 ⟨k, rfl, hk, hr, k2⟩
  clear cD
  go_wp2
  go_ret
  exact ⟨B, k, cb, rfl, hk, own_lower hr (by omega), K1.out.trans (k2.mono (by omega))⟩
end Go.Proofs.Ytbkpokipibgdfaa

/- Layer 8: Text (31) where nothing is wrong. -/
namespace Go.Proofs.Ytbkpokipibgdfaa
open Go.RowKit Go.Lib Go.Maps
set_option linter.unusedVariables false

/-- What Text hands back where nothing is wrong. -/
def TxtR (l : List St) (pl ol : List Pr) (w : World) (e : Ending) (w' : World) : Prop :=
  ∃ xs1 xs2 B k cap, (ChP l (plc l (idOf 1 pl)) xs1 ∧ nxt l (plc l (idOf 1 pl)) xs1 = none) ∧ (ChP l (plc l (idOf 2 ol)) xs2 ∧ nxt l (plc l (idOf 2 ol)) xs2 = none) ∧
    e = .returned (.tuple #[.slice B k cap, .int .i64 0]) ∧ (keepP 1 (mergeL (effP l xs1) (mergeL (effP l xs2) ol))).length = k ∧
    w'.ownsRow w.heap.size 55 2 (.slice B k cap) k (rowP (keepP 1 (mergeL (effP l xs1) (mergeL (effP l xs2) ol)))) ∧ Below w.heap.size w w'
set_option maxRecDepth 100000 in
set_option maxHeartbeats 16000000 in
theorem text_good (l : List St) (hok : LsOk l) (hnm : NmsOk l) (hps : PrsOk l) (A : Option Addr) (m d N : Nat) (hm : l.length = m) (hs : m ≤ 1000) (pl ol : List Pr) (C D : Option Addr) (n1 c1 n2 c2 : Nat) (hn1 : pl.length = n1) (hn2 : ol.length = n2) (hc1 : n1 ≤ c1 ∧ c1 ≤ maxLen) (hc2 : n2 ≤ c2 ∧ c2 ≤ maxLen) (h1 : n1 ≤ 1000) (h2 : n2 ≤ 1000)
    (hs1 : SortP pl) (hs2 : SortP ol) (h0 : chkA l = 0) (hcp : chkP 2 pl = 0) (hco : chkP 1 ol = 0) (hi1 : I64 (idOf 1 pl)) (hi2 : I64 (idOf 2 ol)) (hg1 : ¬ (idOf 1 pl ≠ 0 ∧ hasB l 1 (idOf 1 pl) = false)) (hg2 : ¬ (idOf 2 ol ≠ 0 ∧ hasB l 2 (idOf 2 ol) = false))
    (hb1 : Bnd l (plc l (idOf 1 pl)) N) (hb2 : Bnd l (plc l (idOf 2 ol)) N) (hbm : ∀ xs, ChP l (plc l (idOf 2 ol)) xs → (mergeL (effP l xs) ol).length ≤ 1000) (hbm2 : ∀ xs ys, ChP l (plc l (idOf 1 pl)) xs → ChP l (plc l (idOf 2 ol)) ys → (mergeL (effP l xs) (mergeL (effP l ys) ol)).length ≤ 1000)
    (w : World) (hA : LsAt w A l) (hC : PrAt w C pl) (hD : PrAt w D ol) :
    Calls Try.prog 31 #[.slice A m d, .slice C n1 c1, .slice D n2 c2] w (TxtR l pl ol w) := by
  have cO := open_any l hok hnm A m d hm hs w hA
  have C1 := Lib.hid (fun w' (hb : Below w.heap.size w w') => check_in 2 C n1 c1 pl hn1 hc1 (by omega) w' (hC.below hb (Nat.le_refl _)))
  have C2 := Lib.hid (fun w' (hb : Below w.heap.size w w') => check_in 1 D n2 c2 ol hn2 hc2 (by omega) w' (hD.below hb (Nat.le_refl _)))
  have I1 := Lib.hid (fun b w' (hb : Below w.heap.size w w') (h : ShAt w' A m d b l) => inherited_any l hok hps A m d b N 1 pl hs1 C n1 c1 hn1 h1 hc1 hi1 hb1 w' h (hC.below hb (Nat.le_refl _)))
  have I2 := Lib.hid (fun b w' (hb : Below w.heap.size w w') (h : ShAt w' A m d b l) => inherited_any l hok hps A m d b N 2 ol hs2 D n2 c2 hn2 h2 hc2 hi2 hb2 w' h (hD.below hb (Nat.le_refl _)))
  have HD := Lib.hid hD
  have HG := Lib.hid (⟨hg1, hg2⟩ : ¬ (idOf 1 pl ≠ 0 ∧ hasB l 1 (idOf 1 pl) = false) ∧ ¬ (idOf 2 ol ≠ 0 ∧ hasB l 2 (idOf 2 ol) = false))
  have HBM := Lib.hid (⟨hb1, hb2, hbm, hbm2⟩ : Bnd l (plc l (idOf 1 pl)) N ∧ Bnd l (plc l (idOf 2 ol)) N ∧ (∀ xs, ChP l (plc l (idOf 2 ol)) xs → (mergeL (effP l xs) ol).length ≤ 1000) ∧ (∀ xs ys, ChP l (plc l (idOf 1 pl)) xs → ChP l (plc l (idOf 2 ol)) ys → (mergeL (effP l xs) (mergeL (effP l ys) ol)).length ≤ 1000))
  have HN2 := Lib.hid hn2
  have HZ := Lib.hid (⟨hcp, hco⟩ : chkP 2 pl = 0 ∧ chkP 1 ol = 0)
  clear hA hC hD hg1 hg2 hb1 hb2 hbm hbm2 hcp hco hn1 hn2 hok hnm hps hs1 hs2 hi1 hi2
  go_enter Try.func31, Try.ntmps31
  go_wp2_with fail
  (with_reducible refine cO.mono ?_)
  rintro e w1 ⟨⟨v, b, rfl, g1, _⟩, k1⟩
  obtain ⟨rfl, hsh⟩ := g1 h0
  rw [h0]
  have kn := (Below.refl w1.heap.size w1).alloc (Nat.le_refl _) (.cells #[.slice A m d, .map (some b)] 73)
  have SH := Lib.hid (hsh.below kn)
  have O2 := Lib.hid (ObjAt.new w1 #[.slice A m d, .map (some b)] 73)
  have K2 := Lib.hid (k1.alloc k1.size (.cells #[.slice A m d, .map (some b)] 73))
  have s2 := K2.out.size
  have cc := C1.out _ K2.out
  rw [HZ.out.1] at cc
  clear cO g1 hsh kn k1 h0
  go_wp2_with fail
  (with_reducible refine cc.mono ?_)
  rintro e w3 ⟨rfl, k3⟩
  have SH3 := Lib.hid (SH.out.below k3)
  have O3 := Lib.hid (O2.out.below k3)
  have K3 := Lib.hid (K2.out.trans (k3.mono s2))
  have s3 := K3.out.size
  have cc2 := C2.out _ K3.out
  rw [HZ.out.2] at cc2
  clear cc k3
  go_wp2_with fail
  (with_reducible refine cc2.mono ?_)
  rintro e w4 ⟨rfl, k4⟩
  have SH4 := Lib.hid (SH3.out.below k4)
  have O4 := Lib.hid (O3.out.below k4)
  have K4 := Lib.hid (K3.out.trans (k4.mono s3))
  have s4 := K4.out.size
  have ci := I1.out b _ K4.out SH4.out
  have p0 := O4.out.a0
  have p1 := O4.out.a1
  clear cc2 k4
  go_wp2_with fail
  (with_reducible refine ci.mono ?_)
  intro e w5 hR
  unfold InhR at hR
  rw [if_neg HG.out.1] at hR
  obtain ⟨xs1, v1, q1, q2, rfl, hr1, k5⟩ := hR
  obtain ⟨B1, cb1, rfl⟩ := own_form hr1
  have SH5 := Lib.hid (SH4.out.below k5)
  have O5 := Lib.hid (O4.out.below k5)
  have K5 := Lib.hid (K4.out.trans (k5.mono s4))
  have s5 := K5.out.size
  have HR1 := Lib.hid hr1
  have Q1 := Lib.hid (⟨q1, q2⟩ : ChP l (plc l (idOf 1 pl)) xs1 ∧ nxt l (plc l (idOf 1 pl)) xs1 = none)
  have ci2 := I2.out b _ K5.out SH5.out
  clear ci k5 p0 p1 hr1 q1 q2
  have p0 := O5.out.a0
  have p1 := O5.out.a1
  go_wp2_with fail
  (with_reducible refine ci2.mono ?_)
  intro e w6 hR
  unfold InhR at hR
  rw [if_neg HG.out.2] at hR
  obtain ⟨xs2, v2, q1, q2, rfl, hr2, k6⟩ := hR
  obtain ⟨B2, cb2, rfl⟩ := own_form hr2
  have K6 := Lib.hid (K5.out.trans (k6.mono s5))
  have s6 := K6.out.size
  have HR1' := Lib.hid (row_below HR1.out k6)
  have HR2 := Lib.hid hr2
  have Q2 := Lib.hid (⟨q1, q2⟩ : ChP l (plc l (idOf 2 ol)) xs2 ∧ nxt l (plc l (idOf 2 ol)) xs2 = none)
  clear ci2 k6 p0 p1 hr2 q1 q2
  obtain ⟨_, _, he, hx1, hx2, hx3⟩ := PVal.own HR2.out rfl
  injection he with e1 e2 e3
  subst e1 e3
  have cM := merge_any B2 D cb2 c2 (effP l xs2) ol (HBM.out.2.1 _ Q2.out.1).1 (by rw [HN2.out]; exact h2) ⟨hx1, hx2⟩ (by rw [HN2.out]; exact hc2) w6 hx3 (HD.out.below K6.out (Nat.le_refl _))
  rw [HN2.out] at cM
  clear hx1 hx2 hx3 e2
  go_wp2_with fail
  (with_reducible refine cM.mono ?_)
  rintro e w7 ⟨v3, rfl, hr3, k7⟩
  obtain ⟨B3, cb3, rfl⟩ := own_form hr3
  have K7 := Lib.hid (K6.out.trans (k7.mono s6))
  have s7 := K7.out.size
  have HR1s := Lib.hid (row_below HR1'.out k7)
  clear cM k7
  have hl3 : (mergeL (effP l xs2) ol).length = (pairs (effP l xs2) ol).length := by unfold mergeL; rw [List.length_map]
  have hr3' : w7.ownsRow w6.heap.size 55 2 (.slice B3 (pairs (effP l xs2) ol).length cb3) (pairs (effP l xs2) ol).length (rowP (mergeL (effP l xs2) ol)) := hr3
  obtain ⟨_, _, he, hy1, hy2, hy3⟩ := PVal.own hr3' hl3
  injection he with e1 e2 e3
  subst e1 e3
  obtain ⟨_, _, he, hx1, hx2, hx3⟩ := PVal.own HR1s.out rfl
  injection he with e1 e2' e3
  subst e1 e3
  have cM := merge_any B1 B3 cb1 cb3 (effP l xs1) (mergeL (effP l xs2) ol) (HBM.out.1 _ Q1.out.1).1 (HBM.out.2.2.1 _ Q2.out.1) ⟨hx1, hx2⟩ ⟨hy1, hy2⟩ w7 hx3 hy3
  rw [hl3] at cM
  have HL3 := Lib.hid hl3
  clear hx1 hx2 hx3 hy1 hy2 hy3 e2 e2' hr3 hr3' hl3
  go_wp2_with fail
  (with_reducible refine cM.mono ?_)
  rintro e w8 ⟨v4, rfl, hr4, k8⟩
  obtain ⟨B4, cb4, rfl⟩ := own_form hr4
  have K8 := Lib.hid (K7.out.trans (k8.mono s7))
  have s8 := K8.out.size
  clear cM k8
  have hl4 : (mergeL (effP l xs1) (mergeL (effP l xs2) ol)).length = (pairs (effP l xs1) (mergeL (effP l xs2) ol)).length := by rw [mergeL, List.length_map]
  have hr4' : w8.ownsRow w7.heap.size 55 2 (.slice B4 (pairs (effP l xs1) (mergeL (effP l xs2) ol)).length cb4) (pairs (effP l xs1) (mergeL (effP l xs2) ol)).length (rowP (mergeL (effP l xs1) (mergeL (effP l xs2) ol))) := hr4
  obtain ⟨_, _, he, hy1, hy2, hy3⟩ := PVal.own hr4' hl4
  injection he with e1 e2 e3
  subst e1 e3
  have cP := pick_any 1 (mergeL (effP l xs1) (mergeL (effP l xs2) ol)) _ cb4 hl4 (by rw [← hl4]; exact HBM.out.2.2.2 _ _ Q1.out.1 Q2.out.1) B4 ⟨by rw [← hl4]; exact hy1, hy2⟩ w8 hy3
  clear hy1 hy2 hy3 e2 hr4 hr4' hl4
  go_wp2_with fail
  (with_reducible refine cP.mono ?_)
  rintro e w9 ⟨B5, k, cap, rfl, hk, hr5, k9⟩
  clear cP
  go_wp2
  go_ret2
  exact ⟨xs1, xs2, B5, k, cap, Q1.out, Q2.out, rfl, hk, own_lower hr5 s8, K8.out.trans (k9.mono s8)⟩
end Go.Proofs.Ytbkpokipibgdfaa

/- Layer 8: the chapter's example, plainly. -/
namespace Go.Proofs.Ytbkpokipibgdfaa
open Go.RowKit Go.Lib Go.Maps
set_option linter.unusedVariables false

def nA : ByteArray := ⟨#[78, 111, 114, 109, 97, 108]⟩
def nB : ByteArray := ⟨#[72, 101, 97, 100, 105, 110, 103]⟩
def nC : ByteArray := ⟨#[67, 111, 100, 101]⟩
def s1 : St := ⟨1, 1, nA, 0, 0, [(5, 24)]⟩
def s2 : St := ⟨2, 1, nB, 1, 0, [(2, 1), (5, 32)]⟩
def s3 : St := ⟨3, 2, nC, 0, 0, [(7, 2)]⟩
def l0 : List St := [s1, s2, s3]
def p0 : List Pr := [(20, 2)]
def o0 : List Pr := [(1, 3), (3, 1)]
theorem nmA : nmB nA = true := nmB_yes ⟨by decide, by decide, by decide, by decide, by decide⟩
theorem nmBq : nmB nB = true := nmB_yes ⟨by decide, by decide, by decide, by decide, by decide⟩
theorem nmC : nmB nC = true := nmB_yes ⟨by decide, by decide, by decide, by decide, by decide⟩
theorem l0_ok : LsOk l0 := by
  intro x hx
  simp only [l0, List.mem_cons, List.not_mem_nil, or_false] at hx
  unfold I64
  rcases hx with rfl | rfl | rfl <;> (simp [s1, s2, s3])
theorem l0_nms : NmsOk l0 := by
  intro x hx
  simp only [l0, List.mem_cons, List.not_mem_nil, or_false] at hx
  rcases hx with rfl | rfl | rfl <;> decide
theorem l0_prs : PrsOk l0 := by
  intro x hx
  simp only [l0, List.mem_cons, List.not_mem_nil, or_false] at hx
  rcases hx with rfl | rfl | rfl <;> decide
theorem ck1 : ckP 1 [(5, 24)] = 0 := by kernel_rfl
theorem ck2 : ckP 1 [(2, 1), (5, 32)] = 0 := by kernel_rfl
theorem ck3 : ckP 2 [(7, 2)] = 0 := by kernel_rfl
theorem p0_chk : chkP 2 p0 = 0 := by kernel_rfl
theorem o0_chk : chkP 1 o0 = 0 := by kernel_rfl
theorem l0_fld : fldP l0 = 0 := by
  unfold fldP
  refine chk_none (fldK l0) l0.length ?_
  intro k hk
  have hk3 : k < 3 := hk
  rw [fldK_at l0 k hk]
  rcases (by omega : k = 0 ∨ k = 1 ∨ k = 2) with rfl | rfl | rfl
  · show fldX s1 0 false = 0
    unfold fldX
    simp [s1, nmA, ck1]
  · show fldX s2 1 (seenT l0 1 1 nB) = 0
    have h : seenT l0 1 1 nB = false := by decide
    rw [h]
    unfold fldX
    simp [s2, nmBq, ck2]
  · show fldX s3 2 (seenT l0 2 2 nC) = 0
    have h : seenT l0 2 2 nC = false := by decide
    rw [h]
    unfold fldX
    simp [s3, nmC, ck3]
theorem l0_lnk : lnkP l0 = 0 := by decide
theorem l0_end : endB l0 = true := endB_yes (fun j hj => ⟨3, by
  have hk3 : j < 3 := hj
  rcases (by omega : j = 0 ∨ j = 1 ∨ j = 2) with rfl | rfl | rfl <;> decide⟩)
theorem l0_chk : chkA l0 = 0 := by
  unfold chkA chkL
  rw [if_neg (by decide), if_neg (by simp [l0_fld]), if_neg (by simp [l0_lnk]), if_pos l0_end]
theorem id1 : idOf 1 p0 = 2 := by kernel_rfl
theorem id2 : idOf 2 o0 = 3 := by kernel_rfl
theorem plc2 : plc l0 2 = some 1 := by decide
theorem plc3 : plc l0 3 = some 2 := by decide
theorem has1 : hasB l0 1 2 = true := by decide
theorem has2 : hasB l0 2 3 = true := by decide
theorem stp0 : stp l0 0 = none := by decide
theorem stp1 : stp l0 1 = some 0 := by decide
theorem stp2 : stp l0 2 = none := by decide
theorem ch2 {pre : List Nat} (h : ChP l0 (some 1) pre) : pre = [] ∨ pre = [1] ∨ pre = [1, 0] := by
  rcases pre with _ | ⟨x, _ | ⟨y, _ | ⟨z, t⟩⟩⟩
  · exact .inl rfl
  · have h1 := h [] x [] rfl
    cases h1
    exact .inr (.inl rfl)
  · have h1 := h [] x [y] rfl
    cases h1
    have h2 := h [1] y [] rfl
    rw [show nxt l0 (some 1) [1] = stp l0 1 from rfl, stp1] at h2
    cases h2
    exact .inr (.inr rfl)
  · have h1 := h [] x (y :: z :: t) rfl
    cases h1
    have h2 := h [1] y (z :: t) rfl
    rw [show nxt l0 (some 1) [1] = stp l0 1 from rfl, stp1] at h2
    cases h2
    have h3 := h [1, 0] z t rfl
    rw [show nxt l0 (some 1) [1, 0] = stp l0 0 from rfl, stp0] at h3
    cases h3
theorem ch3 {pre : List Nat} (h : ChP l0 (some 2) pre) : pre = [] ∨ pre = [2] := by
  rcases pre with _ | ⟨x, _ | ⟨y, t⟩⟩
  · exact .inl rfl
  · have h1 := h [] x [] rfl
    cases h1
    exact .inr rfl
  · have h1 := h [] x (y :: t) rfl
    cases h1
    have h2 := h [2] y t rfl
    rw [show nxt l0 (some 2) [2] = stp l0 2 from rfl, stp2] at h2
    cases h2
theorem ch2_end {xs : List Nat} (h : ChP l0 (some 1) xs) (hn : nxt l0 (some 1) xs = none) : xs = [1, 0] := by
  rcases ch2 h with rfl | rfl | rfl
  · cases hn
  · rw [show nxt l0 (some 1) [1] = stp l0 1 from rfl, stp1] at hn; cases hn
  · rfl
theorem ch3_end {xs : List Nat} (h : ChP l0 (some 2) xs) (hn : nxt l0 (some 2) xs = none) : xs = [2] := by
  rcases ch3 h with rfl | rfl
  · cases hn
  · rfl
theorem bnd2 : Bnd l0 (some 1) 4 := by
  intro pre h
  rcases ch2 h with rfl | rfl | rfl <;> exact ⟨of_decide_eq_true (by kernel_rfl), by decide⟩
theorem bnd3 : Bnd l0 (some 2) 4 := by
  intro pre h
  rcases ch3 h with rfl | rfl <;> exact ⟨of_decide_eq_true (by kernel_rfl), by decide⟩
theorem bm2 : ∀ xs, ChP l0 (some 2) xs → (mergeL (effP l0 xs) o0).length ≤ 1000 := by
  intro pre h
  rcases ch3 h with rfl | rfl <;> exact of_decide_eq_true (by kernel_rfl)
theorem bm3 : ∀ xs ys, ChP l0 (some 1) xs → ChP l0 (some 2) ys → (mergeL (effP l0 xs) (mergeL (effP l0 ys) o0)).length ≤ 1000 := by
  intro xs ys h1 h2
  rcases ch2 h1 with rfl | rfl | rfl <;> rcases ch3 h2 with rfl | rfl <;> exact of_decide_eq_true (by kernel_rfl)
theorem sort1 : SortP p0 := by
  intro i j hi hj h
  have h1 : i < 1 := hi
  have h2 : j < 1 := hj
  omega
theorem sort2 : SortP o0 := by
  intro i j hi hj h
  have h1 : i < 2 := hi
  have h2 : j < 2 := hj
  obtain rfl : i = 0 := by omega
  obtain rfl : j = 1 := by omega
  show (1 : Int) < 3
  decide
theorem txt0 : keepP 1 (mergeL (effP l0 [1, 0]) (mergeL (effP l0 [2]) o0)) = [(1, 3), (2, 1), (3, 1), (5, 32), (7, 2)] := by kernel_rfl
end Go.Proofs.Ytbkpokipibgdfaa

/- Layer 8: known (13). -/
namespace Go.Proofs.Ytbkpokipibgdfaa
open Go.RowKit Go.Lib Go.Maps
set_option linter.unusedVariables false

theorem pr_of {W : World} {b : Nat} {l : List Pr} (h : ObjAt W b (rowP l).toArray 55) : PrAt W (some ⟨b, 0, none⟩) l := by
  refine .inr ⟨b, 0, rfl, h.lt, fun k hk => ?_⟩
  obtain ⟨h1, h2⟩ := rowP_get l k hk
  rw [Nat.zero_add]
  exact ⟨h.get (by simpa using h1), h.get (by simpa using h2)⟩
set_option maxRecDepth 100000 in
set_option maxHeartbeats 8000000 in
theorem known_any (w : World) : Calls Try.prog 13 #[] w fun e w' => e = .returned (.bool true) ∧ Below w.heap.size w w' := by
  have o0 := (((((ObjAt.new w #[.int .i64 5, .int .i64 24] 55).alloc (.cells #[.int .i64 2, .int .i64 1, .int .i64 5, .int .i64 32] 55)).alloc (.cells #[.int .i64 7, .int .i64 2] 55)).alloc (.cells #[.int .i64 1, .int .i64 1, .string ⟨#[78, 111, 114, 109, 97, 108]⟩, .int .i64 0, .int .i64 0, .slice (some ⟨w.heap.size, 0, none⟩) 1 1, .int .i64 2, .int .i64 1, .string ⟨#[72, 101, 97, 100, 105, 110, 103]⟩, .int .i64 1, .int .i64 0, .slice (some ⟨w.heap.size + 1, 0, none⟩) 2 2, .int .i64 3, .int .i64 2, .string ⟨#[67, 111, 100, 101]⟩, .int .i64 0, .int .i64 0, .slice (some ⟨w.heap.size + 1 + 1, 0, none⟩) 1 1] 28)).alloc (.cells #[.int .i64 20, .int .i64 2] 55)).alloc (.cells #[.int .i64 1, .int .i64 3, .int .i64 3, .int .i64 1] 55)
  have o1 := ((((ObjAt.new (w.alloc (.cells #[.int .i64 5, .int .i64 24] 55)) #[.int .i64 2, .int .i64 1, .int .i64 5, .int .i64 32] 55).alloc (.cells #[.int .i64 7, .int .i64 2] 55)).alloc (.cells #[.int .i64 1, .int .i64 1, .string ⟨#[78, 111, 114, 109, 97, 108]⟩, .int .i64 0, .int .i64 0, .slice (some ⟨w.heap.size, 0, none⟩) 1 1, .int .i64 2, .int .i64 1, .string ⟨#[72, 101, 97, 100, 105, 110, 103]⟩, .int .i64 1, .int .i64 0, .slice (some ⟨w.heap.size + 1, 0, none⟩) 2 2, .int .i64 3, .int .i64 2, .string ⟨#[67, 111, 100, 101]⟩, .int .i64 0, .int .i64 0, .slice (some ⟨w.heap.size + 1 + 1, 0, none⟩) 1 1] 28)).alloc (.cells #[.int .i64 20, .int .i64 2] 55)).alloc (.cells #[.int .i64 1, .int .i64 3, .int .i64 3, .int .i64 1] 55)
  rw [World.size_alloc] at o1
  have o2 := (((ObjAt.new ((w.alloc (.cells #[.int .i64 5, .int .i64 24] 55)).alloc (.cells #[.int .i64 2, .int .i64 1, .int .i64 5, .int .i64 32] 55)) #[.int .i64 7, .int .i64 2] 55).alloc (.cells #[.int .i64 1, .int .i64 1, .string ⟨#[78, 111, 114, 109, 97, 108]⟩, .int .i64 0, .int .i64 0, .slice (some ⟨w.heap.size, 0, none⟩) 1 1, .int .i64 2, .int .i64 1, .string ⟨#[72, 101, 97, 100, 105, 110, 103]⟩, .int .i64 1, .int .i64 0, .slice (some ⟨w.heap.size + 1, 0, none⟩) 2 2, .int .i64 3, .int .i64 2, .string ⟨#[67, 111, 100, 101]⟩, .int .i64 0, .int .i64 0, .slice (some ⟨w.heap.size + 1 + 1, 0, none⟩) 1 1] 28)).alloc (.cells #[.int .i64 20, .int .i64 2] 55)).alloc (.cells #[.int .i64 1, .int .i64 3, .int .i64 3, .int .i64 1] 55)
  rw [World.size_alloc, World.size_alloc] at o2
  have o3 := ((ObjAt.new (((w.alloc (.cells #[.int .i64 5, .int .i64 24] 55)).alloc (.cells #[.int .i64 2, .int .i64 1, .int .i64 5, .int .i64 32] 55)).alloc (.cells #[.int .i64 7, .int .i64 2] 55)) #[.int .i64 1, .int .i64 1, .string ⟨#[78, 111, 114, 109, 97, 108]⟩, .int .i64 0, .int .i64 0, .slice (some ⟨w.heap.size, 0, none⟩) 1 1, .int .i64 2, .int .i64 1, .string ⟨#[72, 101, 97, 100, 105, 110, 103]⟩, .int .i64 1, .int .i64 0, .slice (some ⟨w.heap.size + 1, 0, none⟩) 2 2, .int .i64 3, .int .i64 2, .string ⟨#[67, 111, 100, 101]⟩, .int .i64 0, .int .i64 0, .slice (some ⟨w.heap.size + 1 + 1, 0, none⟩) 1 1] 28).alloc (.cells #[.int .i64 20, .int .i64 2] 55)).alloc (.cells #[.int .i64 1, .int .i64 3, .int .i64 3, .int .i64 1] 55)
  rw [World.size_alloc, World.size_alloc, World.size_alloc] at o3
  have o4 := (ObjAt.new ((((w.alloc (.cells #[.int .i64 5, .int .i64 24] 55)).alloc (.cells #[.int .i64 2, .int .i64 1, .int .i64 5, .int .i64 32] 55)).alloc (.cells #[.int .i64 7, .int .i64 2] 55)).alloc (.cells #[.int .i64 1, .int .i64 1, .string ⟨#[78, 111, 114, 109, 97, 108]⟩, .int .i64 0, .int .i64 0, .slice (some ⟨w.heap.size, 0, none⟩) 1 1, .int .i64 2, .int .i64 1, .string ⟨#[72, 101, 97, 100, 105, 110, 103]⟩, .int .i64 1, .int .i64 0, .slice (some ⟨w.heap.size + 1, 0, none⟩) 2 2, .int .i64 3, .int .i64 2, .string ⟨#[67, 111, 100, 101]⟩, .int .i64 0, .int .i64 0, .slice (some ⟨w.heap.size + 1 + 1, 0, none⟩) 1 1] 28)) #[.int .i64 20, .int .i64 2] 55).alloc (.cells #[.int .i64 1, .int .i64 3, .int .i64 3, .int .i64 1] 55)
  rw [World.size_alloc, World.size_alloc, World.size_alloc, World.size_alloc] at o4
  have o5 := ObjAt.new (((((w.alloc (.cells #[.int .i64 5, .int .i64 24] 55)).alloc (.cells #[.int .i64 2, .int .i64 1, .int .i64 5, .int .i64 32] 55)).alloc (.cells #[.int .i64 7, .int .i64 2] 55)).alloc (.cells #[.int .i64 1, .int .i64 1, .string ⟨#[78, 111, 114, 109, 97, 108]⟩, .int .i64 0, .int .i64 0, .slice (some ⟨w.heap.size, 0, none⟩) 1 1, .int .i64 2, .int .i64 1, .string ⟨#[72, 101, 97, 100, 105, 110, 103]⟩, .int .i64 1, .int .i64 0, .slice (some ⟨w.heap.size + 1, 0, none⟩) 2 2, .int .i64 3, .int .i64 2, .string ⟨#[67, 111, 100, 101]⟩, .int .i64 0, .int .i64 0, .slice (some ⟨w.heap.size + 1 + 1, 0, none⟩) 1 1] 28)).alloc (.cells #[.int .i64 20, .int .i64 2] 55)) #[.int .i64 1, .int .i64 3, .int .i64 3, .int .i64 1] 55
  rw [World.size_alloc, World.size_alloc, World.size_alloc, World.size_alloc, World.size_alloc] at o5
  have hb : Below w.heap.size w ((((((w.alloc (.cells #[.int .i64 5, .int .i64 24] 55)).alloc (.cells #[.int .i64 2, .int .i64 1, .int .i64 5, .int .i64 32] 55)).alloc (.cells #[.int .i64 7, .int .i64 2] 55)).alloc (.cells #[.int .i64 1, .int .i64 1, .string ⟨#[78, 111, 114, 109, 97, 108]⟩, .int .i64 0, .int .i64 0, .slice (some ⟨w.heap.size, 0, none⟩) 1 1, .int .i64 2, .int .i64 1, .string ⟨#[72, 101, 97, 100, 105, 110, 103]⟩, .int .i64 1, .int .i64 0, .slice (some ⟨w.heap.size + 1, 0, none⟩) 2 2, .int .i64 3, .int .i64 2, .string ⟨#[67, 111, 100, 101]⟩, .int .i64 0, .int .i64 0, .slice (some ⟨w.heap.size + 1 + 1, 0, none⟩) 1 1] 28)).alloc (.cells #[.int .i64 20, .int .i64 2] 55)).alloc (.cells #[.int .i64 1, .int .i64 3, .int .i64 3, .int .i64 1] 55)) := ((((((Below.refl _ w).alloc (Nat.le_refl _) _).alloc (by simp) _).alloc (by simp; omega) _).alloc (by simp; omega) _).alloc (by simp; omega) _).alloc (by simp; omega) _
  have hsz := hb.size
  obtain ⟨W, hW⟩ : ∃ W, W = ((((((w.alloc (.cells #[.int .i64 5, .int .i64 24] 55)).alloc (.cells #[.int .i64 2, .int .i64 1, .int .i64 5, .int .i64 32] 55)).alloc (.cells #[.int .i64 7, .int .i64 2] 55)).alloc (.cells #[.int .i64 1, .int .i64 1, .string ⟨#[78, 111, 114, 109, 97, 108]⟩, .int .i64 0, .int .i64 0, .slice (some ⟨w.heap.size, 0, none⟩) 1 1, .int .i64 2, .int .i64 1, .string ⟨#[72, 101, 97, 100, 105, 110, 103]⟩, .int .i64 1, .int .i64 0, .slice (some ⟨w.heap.size + 1, 0, none⟩) 2 2, .int .i64 3, .int .i64 2, .string ⟨#[67, 111, 100, 101]⟩, .int .i64 0, .int .i64 0, .slice (some ⟨w.heap.size + 1 + 1, 0, none⟩) 1 1] 28)).alloc (.cells #[.int .i64 20, .int .i64 2] 55)).alloc (.cells #[.int .i64 1, .int .i64 3, .int .i64 3, .int .i64 1] 55)) := ⟨_, rfl⟩
  rw [← hW] at o0 o1 o2 o3 o4 o5 hb hsz
  have P0 : PrAt W (some ⟨w.heap.size, 0, none⟩) [(5, 24)] := pr_of o0
  have P1 : PrAt W (some ⟨w.heap.size + 1, 0, none⟩) [(2, 1), (5, 32)] := pr_of o1
  have P2 : PrAt W (some ⟨w.heap.size + 1 + 1, 0, none⟩) [(7, 2)] := pr_of o2
  have P4 : PrAt W (some ⟨w.heap.size + 1 + 1 + 1 + 1, 0, none⟩) p0 := pr_of o4
  have P5 : PrAt W (some ⟨w.heap.size + 1 + 1 + 1 + 1 + 1, 0, none⟩) _root_.Go.Proofs.Ytbkpokipibgdfaa.o0 := pr_of o5
  have hA : LsAt W (some ⟨w.heap.size + 1 + 1 + 1, 0, none⟩) l0 := by
    refine .inr ⟨_, 0, rfl, o3.lt, fun k hk => ?_⟩
    have hk3 : k < 3 := hk
    rcases (by omega : k = 0 ∨ k = 1 ∨ k = 2) with rfl | rfl | rfl
    · exact ⟨_, 1, o3.get rfl, o3.get rfl, o3.get rfl, o3.get rfl, o3.get rfl, o3.get rfl, (show 1 ≤ 1 from Nat.le_refl _), (show 1 ≤ maxLen from by decide), P0⟩
    · exact ⟨_, 2, o3.get rfl, o3.get rfl, o3.get rfl, o3.get rfl, o3.get rfl, o3.get rfl, (show 2 ≤ 2 from Nat.le_refl _), (show 2 ≤ maxLen from by decide), P1⟩
    · exact ⟨_, 1, o3.get rfl, o3.get rfl, o3.get rfl, o3.get rfl, o3.get rfl, o3.get rfl, (show 1 ≤ 1 from Nat.le_refl _), (show 1 ≤ maxLen from by decide), P2⟩
  have cT := text_good l0 l0_ok l0_nms l0_prs (some ⟨w.heap.size + 1 + 1 + 1, 0, none⟩) 3 3 4 rfl (by decide) p0 _root_.Go.Proofs.Ytbkpokipibgdfaa.o0 (some ⟨w.heap.size + 1 + 1 + 1 + 1, 0, none⟩) (some ⟨w.heap.size + 1 + 1 + 1 + 1 + 1, 0, none⟩) 1 1 2 2 rfl rfl (by decide) (by decide) (by decide) (by decide) sort1 sort2 l0_chk p0_chk o0_chk
    (by rw [id1]; unfold I64; decide) (by rw [id2]; unfold I64; decide) (by rw [id1, has1]; simp) (by rw [id2, has2]; simp) (by rw [id1, plc2]; exact bnd2) (by rw [id2, plc3]; exact bnd3) (by rw [id2, plc3]; exact bm2) (by rw [id1, plc2, id2, plc3]; exact bm3) W hA P4 P5
  have HB := Lib.hid hb
  rw [hW] at cT
  have HW := Lib.hid hW
  clear o0 o1 o2 o3 o4 o5 P0 P1 P2 P4 P5 hA hb hW
  go_enter Try.func13, Try.ntmps13
  go_wp2_with fail
  (with_reducible refine cT.mono ?_)
  rintro e w9 ⟨xs1, xs2, B, k, cap, ⟨h1, h2⟩, ⟨h3, h4⟩, rfl, hk, hr, k9⟩
  rw [id1, plc2] at h1 h2
  rw [id2, plc3] at h3 h4
  obtain rfl := ch2_end h1 h2
  obtain rfl := ch3_end h3 h4
  rw [txt0] at hk hr
  obtain rfl : 5 = k := hk
  rw [← HW.out] at k9
  have K9 := Lib.hid (HB.out.trans (k9.mono hsz))
  obtain ⟨_, _, he, hx1, hx2, hx3⟩ := PVal.own hr rfl
  injection he with e1 e2 e3
  subst e1 e3
  have kn := (Below.refl w9.heap.size w9).alloc (Nat.le_refl _) (.cells #[.int .i64 1, .int .i64 3, .int .i64 2, .int .i64 1, .int .i64 3, .int .i64 1, .int .i64 5, .int .i64 32, .int .i64 7, .int .i64 2] 55)
  have on := ObjAt.new w9 #[.int .i64 1, .int .i64 3, .int .i64 2, .int .i64 1, .int .i64 3, .int .i64 1, .int .i64 5, .int .i64 32, .int .i64 7, .int .i64 2] 55
  have cE := eqprops_any B (some ⟨w9.heap.size, 0, none⟩) 5 5 cap 5 [(1, 3), (2, 1), (3, 1), (5, 32), (7, 2)] [(1, 3), (2, 1), (3, 1), (5, 32), (7, 2)] rfl rfl ⟨hx1, hx2⟩ (by decide) _ (hx3.below kn (Nat.le_refl _)) (pr_of on)
  rw [decide_eq_true rfl] at cE
  have sn := kn.size
  clear hx1 hx2 hx3 hr k9 h1 h2 h3 h4 cT on e2
  go_wp2_with fail
  (with_reducible refine cE.mono ?_)
  rintro e w10 ⟨rfl, k10⟩
  clear cE
  go_wp2
  go_ret
  exact ⟨rfl, K9.out.trans ((kn.trans (k10.mono sn)).mono K9.out.size)⟩
end Go.Proofs.Ytbkpokipibgdfaa
