/- Layer 12: Area.cover (44), the law's inside (24). -/
import Derived.Test.YtkdhffidkopmcaaD3
import Derived.Test.YtkdhffidkopmcaaL6
import Derived.StillTailTactics
namespace Go.Proofs.Ytkdhffidkopmcaa
open Go.RowKit Go.Lib Go.Maps
set_option linter.unusedVariables false

def arV (t l b r : Int) : Value := .agg #[.int .i64 t, .int .i64 l, .int .i64 b, .int .i64 r]
def arN (x : Ar) : Value := .agg #[.int .i64 (x.t : Nat), .int .i64 (x.l : Nat), .int .i64 (x.b : Nat), .int .i64 (x.r : Nat)]
section
variable {W : World} {b : Nat} {t : TypeId} {v0 v1 v2 v3 : Value}
theorem ObjAt.e0 (h : ObjAt W b #[v0, v1, v2, v3] t) : W.cell? ⟨b, 0, none⟩ = some v0 := h.get rfl
theorem ObjAt.e1 (h : ObjAt W b #[v0, v1, v2, v3] t) : W.cell? ⟨b, 1, none⟩ = some v1 := h.get rfl
theorem ObjAt.e2 (h : ObjAt W b #[v0, v1, v2, v3] t) : W.cell? ⟨b, 2, none⟩ = some v2 := h.get rfl
theorem ObjAt.e3 (h : ObjAt W b #[v0, v1, v2, v3] t) : W.cell? ⟨b, 3, none⟩ = some v3 := h.get rfl
theorem set4 {u0 u1 u2 u3 : Value} (h : ObjAt W b #[u0, u1, u2, u3] t) (v0 v1 v2 v3 : Value) :
    ObjAt ((((W.setCell ⟨b, 0, none⟩ v0).setCell ⟨b, 1, none⟩ v1).setCell ⟨b, 2, none⟩ v2).setCell ⟨b, 3, none⟩ v3) b #[v0, v1, v2, v3] t :=
  (((h.set 0 v0).set 1 v1).set 2 v2).set 3 v3
end
theorem set4_below {B : Nat} {a w : World} (h : Below B a w) {b : Nat} (hb : B ≤ b) {u0 u1 u2 u3 : Value} : Below B a ((((w.setCell ⟨b, 0, none⟩ u0).setCell ⟨b, 1, none⟩ u1).setCell ⟨b, 2, none⟩ u2).setCell ⟨b, 3, none⟩ u3) :=
  (((h.setCell (p := ⟨b, 0, none⟩) hb _).setCell (p := ⟨b, 1, none⟩) hb _).setCell (p := ⟨b, 2, none⟩) hb _).setCell (p := ⟨b, 3, none⟩) hb _
theorem min_cast (a b : Nat) : (if b < a then (b : Int) else (a : Int)) = ((min a b : Nat) : Int) := by split <;> omega
theorem max_cast (a b : Nat) : (if a < b then (b : Int) else (a : Int)) = ((max a b : Nat) : Int) := by split <;> omega

def CovR (x y : Ar) (w : World) (e : Ending) (w' : World) : Prop := e = .returned (arN (cov x y)) ∧ Below w.heap.size w w'
set_option maxRecDepth 100000 in
set_option maxHeartbeats 8000000 in
theorem acov_any (x y : Ar) (w : World) : Calls Try.prog 44 #[arN x, arN y] w (CovR x y w) := by
  obtain ⟨xt, xl, xb, xr⟩ := x
  obtain ⟨yt, yl, yb, yr⟩ := y
  unfold arN
  dsimp only
  obtain ⟨mt, hmt⟩ : ∃ m, min xt yt = m := ⟨_, rfl⟩
  obtain ⟨ml, hml⟩ : ∃ m, min xl yl = m := ⟨_, rfl⟩
  obtain ⟨mb, hmb⟩ : ∃ m, max xb yb = m := ⟨_, rfl⟩
  obtain ⟨mr, hmr⟩ : ∃ m, max xr yr = m := ⟨_, rfl⟩
  have e1 := min_cast xt yt
  have e2 := min_cast xl yl
  have e3 := max_cast xb yb
  have e4 := max_cast xr yr
  rw [hmt] at e1
  rw [hml] at e2
  rw [hmb] at e3
  rw [hmr] at e4
  have HJ := Go.Lib.hid (show (⟨xt, xl, xb, xr⟩ : Ar).Ov ⟨yt, yl, yb, yr⟩ → cov ⟨xt, xl, xb, xr⟩ ⟨yt, yl, yb, yr⟩ = ⟨mt, ml, mb, mr⟩ from fun h => by rw [cov_yes h, ← hmt, ← hml, ← hmb, ← hmr]; rfl)
  have HN := Go.Lib.hid (show ¬ (⟨xt, xl, xb, xr⟩ : Ar).Ov ⟨yt, yl, yb, yr⟩ → cov ⟨xt, xl, xb, xr⟩ ⟨yt, yl, yb, yr⟩ = ⟨xt, xl, xb, xr⟩ from fun h => cov_no h)
  have HO := Go.Lib.hid (show (⟨xt, xl, xb, xr⟩ : Ar).Ov ⟨yt, yl, yb, yr⟩ ↔ yt < xb ∧ xt < yb ∧ yl < xr ∧ xl < yr from Iff.rfl)
  have RES := Go.Lib.hid (fun (c : Ar) (hc : cov ⟨xt, xl, xb, xr⟩ ⟨yt, yl, yb, yr⟩ = c) w' (hb : Below w.heap.size w w') => show CovR ⟨xt, xl, xb, xr⟩ ⟨yt, yl, yb, yr⟩ w (.returned (arN c)) w' from ⟨by rw [hc], hb⟩)
  have HB := Go.Lib.hid (fun (o : Obj) => (((Below.refl _ w).alloc (Nat.le_refl _) (.cells #[.int .i64 (xt : Nat), .int .i64 (xl : Nat), .int .i64 (xb : Nat), .int .i64 (xr : Nat)] 48)).alloc (by simp) (.cells #[.int .i64 (yt : Nat), .int .i64 (yl : Nat), .int .i64 (yb : Nat), .int .i64 (yr : Nat)] 48)).alloc (by simp; omega) o)
  clear hmt hml hmb hmr
  by_cases t1 : yt < xb
  · by_cases t2 : xt < yb
    · by_cases t3 : yl < xr
      · by_cases t4 : xl < yr
        · have HC := Go.Lib.hid (HJ.out (HO.out.2 ⟨t1, t2, t3, t4⟩))
          go_enter Try.func44, Try.ntmps44
          go_wp2
          refine bodyPost_ret (v := arN ⟨mt, ml, mb, mr⟩) ?_ rfl (RES.out _ HC.out _ ?_)
          · unfold arN
            simp [results, Try.results44, go_sem]
          · exact HB.out _
        · have HC := Go.Lib.hid (HN.out fun h => t4 (HO.out.1 h).2.2.2)
          go_enter Try.func44, Try.ntmps44
          go_wp2
          refine bodyPost_ret (v := arN ⟨xt, xl, xb, xr⟩) ?_ rfl (RES.out _ HC.out _ ?_)
          · unfold arN
            simp [results, Try.results44, go_sem]
          · exact HB.out _
      · have HC := Go.Lib.hid (HN.out fun h => t3 (HO.out.1 h).2.2.1)
        go_enter Try.func44, Try.ntmps44
        go_wp2
        refine bodyPost_ret (v := arN ⟨xt, xl, xb, xr⟩) ?_ rfl (RES.out _ HC.out _ ?_)
        · unfold arN
          simp [results, Try.results44, go_sem]
        · exact HB.out _
    · have HC := Go.Lib.hid (HN.out fun h => t2 (HO.out.1 h).2.1)
      go_enter Try.func44, Try.ntmps44
      go_wp2
      refine bodyPost_ret (v := arN ⟨xt, xl, xb, xr⟩) ?_ rfl (RES.out _ HC.out _ ?_)
      · unfold arN
        simp [results, Try.results44, go_sem]
      · exact HB.out _
  · have HC := Go.Lib.hid (HN.out fun h => t1 (HO.out.1 h).1)
    go_enter Try.func44, Try.ntmps44
    go_wp2
    refine bodyPost_ret (v := arN ⟨xt, xl, xb, xr⟩) ?_ rfl (RES.out _ HC.out _ ?_)
    · unfold arN
      simp [results, Try.results44, go_sem]
    · exact HB.out _
end Go.Proofs.Ytkdhffidkopmcaa
