/- Layer 23: what ordered holds in memory. -/
import Derived.Test.YtjhppkjngifibaaEM1
namespace Go.Proofs.Ytjhppkjngifibaa
open Go.RowKit Go.Lib
set_option linter.unusedVariables false

/-! ## What 'ordered' holds in memory -/
structure OS (w : World) (b : Nat) (hv ov : Array Value) (vp : Value) (np : Nat) (xp : List Value) (vd : Value) (nd : Nat) (xd : List Value) (vl : Value) (nl : Nat) (xl : List Value) (W : World) : Prop where
  hb : w.heap.size = b
  bel : Below b w W
  o1 : ObjAt W b hv 28
  o2 : ObjAt W (b + 1) #[.slice none 0 0, .int .i64 0, .int .i64 0, .slice none 0 0, .slice none 0 0] 28
  o3 : ObjAt W (b + 1 + 1) ov 28
  rp : W.ownsRow (b + 3) 61 2 vp np xp
  rd : W.ownsRow (b + 3) 59 2 vd nd xd
  rl : W.ownsRow (b + 3) 74 4 vl nl xl
section
variable {w : World} {b : Nat} {hv ov : Array Value} {vp : Value} {np : Nat} {xp : List Value} {vd : Value} {nd : Nat} {xd : List Value} {vl : Value} {nl : Nat} {xl : List Value} {W W' : World}
theorem OS.sz (x : OS w b hv ov vp np xp vd nd xd vl nl xl W) : b + 3 ≤ W.heap.size := by have := x.o3.lt; omega
theorem OS.kept (x : OS w b hv ov vp np xp vd nd xd vl nl xl W) (k : ∀ (j : Nat) (c : Array Value) (t : TypeId) (z : Nat × Nat), W.heap[j]? = some (Obj.cells c t z) → W'.heap[j]? = some (Obj.cells c t z)) (hb : Below b w W') : OS w b hv ov vp np xp vd nd xd vl nl xl W' :=
  ⟨x.hb, hb, k _ _ _ _ x.o1, k _ _ _ _ x.o2, k _ _ _ _ x.o3, own_keptC x.rp fun j c t z _ => k j c t z, own_keptC x.rd fun j c t z _ => k j c t z, own_keptC x.rl fun j c t z _ => k j c t z⟩
theorem OS.below (x : OS w b hv ov vp np xp vd nd xd vl nl xl W) (h : Below W.heap.size W W') : OS w b hv ov vp np xp vd nd xd vl nl xl W' :=
  x.kept (fun j c t z hj => (h.block j (Array.getElem?_eq_some_iff.1 hj).1).trans hj) (x.bel.trans (h.mono (by have := x.sz; omega)))
theorem OS.alloc (x : OS w b hv ov vp np xp vd nd xd vl nl xl W) (o : Obj) : OS w b hv ov vp np xp vd nd xd vl nl xl (W.alloc o) := x.below ((Below.refl _ W).alloc (Nat.le_refl _) o)
theorem OS.drew (x : OS w b hv ov vp np xp vd nd xd vl nl xl W) : OS w b hv ov vp np xp vd nd xd vl nl xl W.drew := x.below (Below.refl _ W).drew
theorem OS.out (x : OS w b hv ov vp np xp vd nd xd vl nl xl W) (i : Nat) (u : Value) : OS w b hv (ov.modify i (fun _ => u)) vp np xp vd nd xd vl nl xl (W.setCell ⟨b + 1 + 1, i, none⟩ u) :=
  ⟨x.hb, x.bel.setCell (p := ⟨b + 1 + 1, i, none⟩) (Nat.le_add_right b 2) u, x.o1.other (by omega) i u, x.o2.other (by omega) i u, x.o3.set i u, row_setO x.rp (by omega) i u, row_setO x.rd (by omega) i u, row_setO x.rl (by omega) i u⟩
theorem OS.appP (x : OS w b hv ov vp np xp vd nd xd vl nl xl W) {vp' : Value} {np' : Nat} {xp' : List Value} (h : W'.ownsRow (b + 3) 61 2 vp' np' xp') (hg : W.grownBy W' vp.ownBlock) : OS w b hv ov vp' np' xp' vd nd xd vl nl xl W' := by
  have hk : ∀ (k : Nat) (c : Array Value) (t : TypeId), ObjAt W k c t → t ≠ 61 → ObjAt W' k c t := fun k c t ho hne => (hg.block k ho.lt (fun e => obj_far x.rp ho hne e.symm)).trans ho
  refine ⟨x.hb, x.bel.grown hg (by have := x.sz; omega) (fun j e => by have := (x.rp.lt j e).1; omega), hk _ _ _ x.o1 (by decide), hk _ _ _ x.o2 (by decide), hk _ _ _ x.o3 (by decide), h, ?_, ?_⟩
  · exact own_keptC x.rd fun j c t z hj hc => (hg.block j (Array.getElem?_eq_some_iff.1 hc).1 (fun e => own_far x.rd x.rp (by decide) j hj e.symm)).trans hc
  · exact own_keptC x.rl fun j c t z hj hc => (hg.block j (Array.getElem?_eq_some_iff.1 hc).1 (fun e => own_far x.rl x.rp (by decide) j hj e.symm)).trans hc
theorem OS.appD (x : OS w b hv ov vp np xp vd nd xd vl nl xl W) {vd' : Value} {nd' : Nat} {xd' : List Value} (h : W'.ownsRow (b + 3) 59 2 vd' nd' xd') (hg : W.grownBy W' vd.ownBlock) : OS w b hv ov vp np xp vd' nd' xd' vl nl xl W' := by
  have hk : ∀ (k : Nat) (c : Array Value) (t : TypeId), ObjAt W k c t → t ≠ 59 → ObjAt W' k c t := fun k c t ho hne => (hg.block k ho.lt (fun e => obj_far x.rd ho hne e.symm)).trans ho
  refine ⟨x.hb, x.bel.grown hg (by have := x.sz; omega) (fun j e => by have := (x.rd.lt j e).1; omega), hk _ _ _ x.o1 (by decide), hk _ _ _ x.o2 (by decide), hk _ _ _ x.o3 (by decide), ?_, h, ?_⟩
  · exact own_keptC x.rp fun j c t z hj hc => (hg.block j (Array.getElem?_eq_some_iff.1 hc).1 (fun e => own_far x.rp x.rd (by decide) j hj e.symm)).trans hc
  · exact own_keptC x.rl fun j c t z hj hc => (hg.block j (Array.getElem?_eq_some_iff.1 hc).1 (fun e => own_far x.rl x.rd (by decide) j hj e.symm)).trans hc
theorem OS.appL (x : OS w b hv ov vp np xp vd nd xd vl nl xl W) {vl' : Value} {nl' : Nat} {xl' : List Value} (h : W'.ownsRow (b + 3) 74 4 vl' nl' xl') (hg : W.grownBy W' vl.ownBlock) : OS w b hv ov vp np xp vd nd xd vl' nl' xl' W' := by
  have hk : ∀ (k : Nat) (c : Array Value) (t : TypeId), ObjAt W k c t → t ≠ 74 → ObjAt W' k c t := fun k c t ho hne => (hg.block k ho.lt (fun e => obj_far x.rl ho hne e.symm)).trans ho
  refine ⟨x.hb, x.bel.grown hg (by have := x.sz; omega) (fun j e => by have := (x.rl.lt j e).1; omega), hk _ _ _ x.o1 (by decide), hk _ _ _ x.o2 (by decide), hk _ _ _ x.o3 (by decide), ?_, ?_, h⟩
  · exact own_keptC x.rp fun j c t z hj hc => (hg.block j (Array.getElem?_eq_some_iff.1 hc).1 (fun e => own_far x.rp x.rl (by decide) j hj e.symm)).trans hc
  · exact own_keptC x.rd fun j c t z hj hc => (hg.block j (Array.getElem?_eq_some_iff.1 hc).1 (fun e => own_far x.rd x.rl (by decide) j hj e.symm)).trans hc
end
end Go.Proofs.Ytjhppkjngifibaa
