/- Layer 23: what decide holds in memory. -/
import Derived.Test.YtjhppkjngifibaaEM0
import Derived.Test.YtjhppkjngifibaaEL
import Derived.Test.YtjhppkjngifibaaEI
namespace Go.Proofs.Ytjhppkjngifibaa
open Go.RowKit Go.Lib
set_option linter.unusedVariables false

/-! ## What decide holds in memory -/
structure DS (w : World) (b q : Nat) (vb hv ov : Array Value) (vp : Value) (np : Nat) (xp : List Value) (vd : Value) (nd : Nat) (xd : List Value) (vl : Value) (nl : Nat) (xl : List Value) (W : World) : Prop where
  hb : w.heap.size = b
  hq : b + 3 ≤ q
  bel : Below b w W
  o1 : ObjAt W b vb 81
  o2 : ObjAt W (b + 1) hv 28
  o3 : ObjAt W (b + 1 + 1) ov 28
  oq : ObjAt W q #[.pointer (some ⟨b + 1 + 1, 1, none⟩)] 113
  rp : W.ownsRow (b + 3) 61 2 vp np xp
  rd : W.ownsRow (b + 3) 59 2 vd nd xd
  rl : W.ownsRow (b + 3) 74 4 vl nl xl
section
variable {w : World} {b q : Nat} {vb hv ov : Array Value} {vp : Value} {np : Nat} {xp : List Value} {vd : Value} {nd : Nat} {xd : List Value} {vl : Value} {nl : Nat} {xl : List Value} {W W' : World}
theorem DS.sz (x : DS w b q vb hv ov vp np xp vd nd xd vl nl xl W) : b + 3 ≤ W.heap.size ∧ q < W.heap.size := ⟨by have := x.o3.lt; omega, x.oq.lt⟩
theorem own_keptC {base n sz : Nat} {t : TypeId} {v : Value} {xs : List Value} (h : W.ownsRow base t sz v n xs) (k : ∀ (j : Nat) (c : Array Value) (t : TypeId) (z : Nat × Nat), v.ownBlock = some j → W.heap[j]? = some (Obj.cells c t z) → W'.heap[j]? = some (Obj.cells c t z)) : W'.ownsRow base t sz v n xs := by
  refine ⟨h.1, ?_⟩
  rcases h.2 with hn | ⟨g, cap, cur, rfl, hb, hgg, rest⟩
  · exact .inl hn
  · exact .inr ⟨g, cap, cur, rfl, hb, k _ _ _ _ rfl hgg, rest⟩
theorem DS.kept (x : DS w b q vb hv ov vp np xp vd nd xd vl nl xl W) (k : ∀ (j : Nat) (c : Array Value) (t : TypeId) (z : Nat × Nat), W.heap[j]? = some (Obj.cells c t z) → W'.heap[j]? = some (Obj.cells c t z)) (hb : Below b w W') : DS w b q vb hv ov vp np xp vd nd xd vl nl xl W' :=
  ⟨x.hb, x.hq, hb, k _ _ _ _ x.o1, k _ _ _ _ x.o2, k _ _ _ _ x.o3, k _ _ _ _ x.oq, own_keptC x.rp fun j c t z _ => k j c t z, own_keptC x.rd fun j c t z _ => k j c t z, own_keptC x.rl fun j c t z _ => k j c t z⟩
theorem DS.below (x : DS w b q vb hv ov vp np xp vd nd xd vl nl xl W) (h : Below W.heap.size W W') : DS w b q vb hv ov vp np xp vd nd xd vl nl xl W' :=
  x.kept (fun j c t z hj => (h.block j (Array.getElem?_eq_some_iff.1 hj).1).trans hj) (x.bel.trans (h.mono (by have := x.sz.1; omega)))
theorem DS.alloc (x : DS w b q vb hv ov vp np xp vd nd xd vl nl xl W) (o : Obj) : DS w b q vb hv ov vp np xp vd nd xd vl nl xl (W.alloc o) :=
  x.below ((Below.refl _ W).alloc (Nat.le_refl _) o)
theorem DS.drew (x : DS w b q vb hv ov vp np xp vd nd xd vl nl xl W) : DS w b q vb hv ov vp np xp vd nd xd vl nl xl W.drew := x.below (Below.refl _ W).drew
theorem DS.out (x : DS w b q vb hv ov vp np xp vd nd xd vl nl xl W) (i : Nat) (u : Value) : DS w b q vb hv (ov.modify i (fun _ => u)) vp np xp vd nd xd vl nl xl (W.setCell ⟨b + 1 + 1, i, none⟩ u) :=
  ⟨x.hb, x.hq, x.bel.setCell (p := ⟨b + 1 + 1, i, none⟩) (Nat.le_add_right b 2) u, x.o1.other (by omega) i u, x.o2.other (by omega) i u, x.o3.set i u, x.oq.other (by have := x.hq; omega) i u, row_setO x.rp (by omega) i u, row_setO x.rd (by omega) i u, row_setO x.rl (by omega) i u⟩
theorem DS.noL (x : DS w b q vb hv ov vp np xp vd nd xd vl nl xl W) : DS w b q vb hv ov vp np xp vd nd xd (.slice none 0 0) 0 [] W := ⟨x.hb, x.hq, x.bel, x.o1, x.o2, x.o3, x.oq, x.rp, x.rd, World.ownsRow_nil _ _ _ _⟩
theorem DS.newP (x : DS w b q vb hv ov vp np xp vd nd xd vl nl xl W) {vp' : Value} {np' : Nat} {xp' : List Value} (h : W.ownsRow (b + 3) 61 2 vp' np' xp') : DS w b q vb hv ov vp' np' xp' vd nd xd vl nl xl W := ⟨x.hb, x.hq, x.bel, x.o1, x.o2, x.o3, x.oq, h, x.rd, x.rl⟩
/-- Another type's row. -/
theorem own_far {base base' n n' sz sz' : Nat} {t t' : TypeId} {v v' : Value} {xs xs' : List Value} (h : W.ownsRow base t sz v n xs) (h' : W.ownsRow base' t' sz' v' n' xs') (hne : t ≠ t') : ∀ j, v.ownBlock = some j → v'.ownBlock ≠ some j := by
  intro j hj hj'
  rcases h.2 with ⟨rfl, _⟩ | ⟨g, cap, cur, rfl, _, hg, _⟩
  · cases hj
  · rcases h'.2 with ⟨rfl, _⟩ | ⟨g', cap', cur', rfl, _, hg', _⟩
    · cases hj'
    · injection hj with hj
      injection hj' with hj'
      have e1 : g = j := hj
      have e2 : g' = j := hj'
      subst e1
      rw [e2, hg] at hg'
      injection hg' with hg'
      injection hg' with _ h1 _
      exact hne h1
theorem obj_far {base n sz k : Nat} {t t' : TypeId} {v : Value} {xs : List Value} {c : Array Value} (h : W.ownsRow base t sz v n xs) (h' : ObjAt W k c t') (hne : t' ≠ t) : v.ownBlock ≠ some k := fun e => own_ne h' h hne e.symm
/-- The deletions are gone through in place. -/
theorem DS.delD (x : DS w b q vb hv ov vp np xp vd nd xd vl nl xl W) {vd' : Value} {nd' : Nat} {xd' : List Value} (h : W'.ownsRow (b + 3) 59 2 vd' nd' xd') (hb : Below (b + 3) W W') (oth : ∀ k, k < W.heap.size → vd.ownBlock ≠ some k → W'.heap[k]? = W.heap[k]?) : DS w b q vb hv ov vp np xp vd' nd' xd' vl nl xl W' := by
  have hk : ∀ (k : Nat) (c : Array Value) (t : TypeId), ObjAt W k c t → t ≠ 59 → ObjAt W' k c t := fun k c t ho hne => (oth k ho.lt (obj_far x.rd ho hne)).trans ho
  refine ⟨x.hb, x.hq, x.bel.trans (hb.mono (by omega)), hk _ _ _ x.o1 (by decide), hk _ _ _ x.o2 (by decide), hk _ _ _ x.o3 (by decide), hk _ _ _ x.oq (by decide), ?_, h, ?_⟩
  · exact own_keptC x.rp fun j c t z hj hc => (oth j (Array.getElem?_eq_some_iff.1 hc).1 (own_far x.rp x.rd (by decide) j hj)).trans hc
  · exact own_keptC x.rl fun j c t z hj hc => (oth j (Array.getElem?_eq_some_iff.1 hc).1 (own_far x.rl x.rd (by decide) j hj)).trans hc
/-- The layers are appended to. -/
theorem DS.appL (x : DS w b q vb hv ov vp np xp vd nd xd vl nl xl W) {vl' : Value} {nl' : Nat} {xl' : List Value} (h : W'.ownsRow (b + 3) 74 4 vl' nl' xl') (hg : W.grownBy W' vl.ownBlock) : DS w b q vb hv ov vp np xp vd nd xd vl' nl' xl' W' := by
  have hk : ∀ (k : Nat) (c : Array Value) (t : TypeId), ObjAt W k c t → t ≠ 74 → ObjAt W' k c t := fun k c t ho hne => (hg.block k ho.lt (fun e => obj_far x.rl ho hne e.symm)).trans ho
  refine ⟨x.hb, x.hq, x.bel.grown hg (by have := x.sz.1; omega) (fun j e => by have := (x.rl.lt j e).1; omega), hk _ _ _ x.o1 (by decide), hk _ _ _ x.o2 (by decide), hk _ _ _ x.o3 (by decide), hk _ _ _ x.oq (by decide), ?_, ?_, h⟩
  · exact own_keptC x.rp fun j c t z hj hc => (hg.block j (Array.getElem?_eq_some_iff.1 hc).1 (fun e => own_far x.rp x.rl (by decide) j hj e.symm)).trans hc
  · exact own_keptC x.rd fun j c t z hj hc => (hg.block j (Array.getElem?_eq_some_iff.1 hc).1 (fun e => own_far x.rd x.rl (by decide) j hj e.symm)).trans hc
theorem DS.turn (x : DS w b q vb hv ov vp np xp vd nd xd vl nl xl W) {B : Nat} {row : Option Nat} (hB : b ≤ B) (hg : W.grownBy W' row) (hr : ∀ r, row = some r → B ≤ r ∧ ∃ o : Obj, W.heap[r]? = some o ∧ (mine TZ o = true ∨ o.isCells = false)) : DS w b q vb hv ov vp np xp vd nd xd vl nl xl W' :=
  x.kept (fun j c t z hj => (hg.block j (Array.getElem?_eq_some_iff.1 hj).1 (not_turned hj rfl hr)).trans hj) (x.bel.grown hg (by have := x.sz.1; omega) (fun k e => Nat.le_trans hB (hr k e).1))
end
/-! ## An append to a row of layers: of some elements, or of none -/
theorem run_appL0 (w : World) (B : Option Addr) (n cap : Nat) (hn : n ≤ cap) (hB : ∀ a, B = some a → a.off = 0 ∧ a.spot = none) (h0 : B = none → n = 0 ∧ cap = 0) (ao : Option Addr) (c : Nat) (ty : TypeId) : (Builtin.append_ #[24, 24] ty #[.slice B n cap, .slice ao 0 c]).run Try.prog w = .ok (.slice B n cap) w := by
  obtain ⟨i0, hi, hz0, hz1, hz2⟩ := info_parts info74
  have e1 : ∀ b, (loadCells b 0).run Try.prog w = .ok #[] w := fun b => by unfold loadCells; unfold loadCellsFrom; rfl
  cases B with
  | none =>
    obtain ⟨rfl, rfl⟩ := h0 rfl
    cases ao with
    | none => simp [Builtin.append_, run_underlying Try.underlying24, sizeOf, typeInfo, hi, Builtin.lenOf, Builtin.firstCells]
    | some b => simp [Builtin.append_, run_underlying Try.underlying24, sizeOf, typeInfo, hi, Builtin.lenOf, Builtin.firstCells, e1]
  | some a =>
    cases ao with
    | none => simp [Builtin.append_, run_underlying Try.underlying24, sizeOf, typeInfo, hi, Builtin.lenOf, Builtin.firstCells, hn, storeCells]
    | some b => simp [Builtin.append_, run_underlying Try.underlying24, sizeOf, typeInfo, hi, Builtin.lenOf, Builtin.firstCells, hn, e1, storeCells]
theorem step_ownL {ops : Array Oper} {o : Oper} {a : Act} {w : World} {K : Act → World → Prop} {Q : Exit → Act → World → Prop} {E : Prop} (hgd : o.guard = none) (s x : Operand)
    (ho : o.op = .call { callee := .builtin .append, args := #[s, x], argTypes := #[24, 24] }) (base : Nat) (B : Option Addr) (n cap : Nat) (l : List Ly) (hs : a.eval s = .slice B n cap) (hown : w.ownsRow base 74 4 (.slice B n cap) n (rowL l))
    (X : Option Addr) (m c : Nat) (l' : List Ly) (hx : a.eval x = .slice X m c) (hl' : l'.length = m) (hX : AtL w X l') (hbig : n + m ≤ 100000) (hbase : base ≤ w.heap.size)
    (h : ∀ B' cap' w', w'.ownsRow base 74 4 (.slice B' (n + m) cap') (n + m) (rowL (l ++ l')) → w.grownBy w' (Value.ownBlock (.slice B n cap)) → K (a.put o.dst (.slice B' (n + m) cap')) w') :
    if Region.wanted o (yielded ops a.tmps) = true then Oper.wp Try.prog o a w K Q else E := by
  have hw : Region.wanted o (yielded ops a.tmps) = true := by simp [Region.wanted, hgd]
  obtain ⟨i0, hi, hz0, hz1, hz2⟩ := info_parts info74
  by_cases hm : m = 0
  · subst hm
    have e : l' = [] := List.eq_nil_of_length_eq_zero hl'
    subst e
    rw [if_pos hw]
    have h1 : n ≤ cap := (own_caps hown).1
    have h2 : ∀ a, B = some a → a.off = 0 ∧ a.spot = none := fun a e => by
      rcases hown.2 with ⟨h, _⟩ | ⟨g, cap', cur, h, _⟩
      · injection h with h; rw [e] at h; cases h
      · injection h with h; rw [e] at h; injection h with h; subst h; exact ⟨rfl, rfl⟩
    have h3 : B = none → n = 0 ∧ cap = 0 := fun e => by
      rcases hown.2 with ⟨h, _⟩ | ⟨g, cap', cur, h, _⟩
      · injection h with _ h4 h5; exact ⟨h4, h5⟩
      · injection h with h; rw [e] at h; cases h
    unfold Oper.wp execOp
    simp only [ho, resolve, invoke, builtin, Sem.run_bind, Sem.run_pure, Result.andThen_ok, List.map_toArray, List.map_cons, List.map_nil, hs, hx, run_appL0 w B n cap h1 h2 h3 X c o.type]
    exact h B cap w (by rw [List.append_nil]; exact hown) ⟨rfl, rfl, rfl, Nat.le_refl _, fun _ _ _ => rfl⟩
  · obtain ⟨g, oo, rfl, hg, hcl⟩ := hX.pos (by omega)
    refine step_append_lies w hgd s x 24 ho base 74 i0 (.agg #[.int .i64 0, .int .i64 0, .int .i64 0, .bool false]) 4 32 Try.underlying24 hi hz0 hz1 hz2 rfl (by decide) _ n (rowL l) hs hown ⟨g, oo, none⟩ m c (rowL l') hx (by rw [rowL_len, hl']) (fun j u hj => by have := hX.cells j u hj; rw [Addr.add_lit]; exact this) (rowL_one l') (by omega) (by unfold maxLen; omega) (by omega) hbase _ rfl ?_
    intro g' cap' w' h1 h2 _ _
    exact h (some ⟨g', 0, none⟩) cap' w' (by rw [rowL_append]; exact h1) h2
/-! ## What a round keeps -/
structure KK (Ba B : Nat) (V W' : World) : Prop where
  f : KeepsFrom B V W'
  k : Kpt TZ Ba V W'
section
variable {Ba B : Nat} {V W' W2 : World}
theorem KK.refl (V : World) : KK Ba B V V := ⟨KeepsFrom.refl _ _, Kpt.refl _⟩
theorem KK.trans (h : KK Ba B V W') (h' : KK Ba B W' W2) : KK Ba B V W2 := ⟨h.f.trans h'.f, h.k.trans h'.k⟩
theorem KK.below (hBa : Ba < V.heap.size) (hb : Below V.heap.size V W') : KK Ba B V W' :=
  ⟨(KeepsOthers.of_grownBy (grown_below hb rfl) (fun j o e _ => by cases e)).from B, Kpt.of_grownBy hBa (grown_below hb rfl) (fun r e => by cases e)⟩
theorem KK.grown {v : Value} (hbx : Boxed V Ba 24 v) {row : Option Nat} (hg : V.grownBy W' row) (hr : ∀ r, row = some r → ∃ c t z, V.heap[r]? = some (.cells c t z) ∧ t ≠ 24) : KK Ba B V W' := by
  refine ⟨(KeepsOthers.of_grownBy hg (fun j o e ho => ?_)).from B, Kpt.of_grownBy (Array.getElem?_eq_some_iff.1 hbx).1 hg (fun r e => ?_)⟩
  · obtain ⟨c, t, z, hc, _⟩ := hr j e
    rw [hc] at ho; cases ho; rfl
  · obtain ⟨c, t, z, hc, ht⟩ := hr r e
    refine ⟨fun e2 => ?_, _, hc, rfl⟩
    subst e2
    have h1 : V.heap[r]? = _ := hbx
    rw [hc] at h1
    injection h1 with h1
    injection h1 with _ h1 _
    exact ht h1
theorem KK.out {v : Value} {k : Nat} {c : Array Value} (hbx : Boxed V Ba 24 v) (ho : ObjAt V k c 28) (i : Nat) (u : Value) : KK Ba B V (V.setCell ⟨k, i, none⟩ u) :=
  KK.grown hbx (grown_setC V k i u) (fun r e => by cases e; exact ⟨_, _, _, ho, by decide⟩)
theorem KK.row {v vl : Value} {base n sz : Nat} {xl : List Value} (hbx : Boxed V Ba 24 v) (hr : V.ownsRow base 74 sz vl n xl) (hg : V.grownBy W' vl.ownBlock) : KK Ba B V W' :=
  KK.grown hbx hg (fun r e => by
    rcases hr.2 with ⟨rfl, _⟩ | ⟨g, cap, cur, rfl, _, hgg, _⟩
    · cases e
    · injection e with e; subst e; exact ⟨_, _, _, hgg, by decide⟩)
theorem KK.box {v : Value} (h : KK Ba B V W') (hbx : Boxed V Ba 24 v) : Boxed W' Ba 24 v := h.k.str.trans hbx
end
/-- What a decision's loop says between two rounds. -/
def DI (fa fr : Int → Bool) (h : Hd) (w : World) (b q Ba : Nat) (vb hv : Array Value) (iv mv : Int) (vd : Value) (nd : Nat) (xd : List Value) (bv : Value) (pre : List (Nat × Nat)) (V : World) : Prop :=
  ∃ A1 c1 L1 d1, DS w b q vb hv #[.slice A1 (accH fa fr h pre).1.length c1, .int .i64 iv, .int .i64 mv, vd, .slice L1 (accH fa fr h pre).2.length d1] (.slice A1 (accH fa fr h pre).1.length c1) (accH fa fr h pre).1.length (rowP (accH fa fr h pre).1)
    vd nd xd (.slice L1 (accH fa fr h pre).2.length d1) (accH fa fr h pre).2.length (rowL (accH fa fr h pre).2) V ∧ Boxed V Ba 24 bv
theorem DI.own {fa fr : Int → Bool} {h : Hd} {w : World} {b q Ba B : Nat} {vb hv : Array Value} {iv mv : Int} {vd : Value} {nd : Nat} {xd : List Value} {bv : Value} (hB : b ≤ B) : OwnT TZ B (DI fa fr h w b q Ba vb hv iv mv vd nd xd bv) := by
  rintro s A C row ⟨A1, c1, L1, d1, x, bx⟩ hg hr
  exact ⟨A1, c1, L1, d1, x.turn hB hg hr, bx.kept hg (not_turned bx rfl hr)⟩
theorem wp_nofail {P : Program} {c : Code} {K : Act → World → Prop} {Q' : Exit → Act → World → Prop} {a : Act} {w : World} (h : c.wp P (Exit.then K (fun _ _ _ => False)) a w) : c.wp P (Exit.then K Q') a w :=
  wp_mono h (fun e a w q => by cases e <;> first | exact q | exact q.elim)
end Go.Proofs.Ytjhppkjngifibaa
