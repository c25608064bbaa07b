/- Layer 22: the reference's put (24) on every table. -/
import Derived.Test.YtmpklkhjipclmaaVH
namespace Go.Proofs.Ytmpklkhjipclmaa
open Go.RowKit Go.Lib
set_option linter.unusedVariables false

theorem own_cap {w : World} {base g m cap size : Nat} {t : TypeId} {xs : List Value} (h : w.ownsRow base t size (.slice (some ⟨g, 0, none⟩) m cap) m xs) : m ≤ cap ∧ cap ≤ maxLen := by
  rcases h.2 with ⟨hv, _⟩ | ⟨g', cap', cur, hv, _, _, h1, h2, _⟩
  · cases hv
  · injection hv with e1 e2 e3
    subst e3
    exact ⟨h1, h2⟩
attribute [local irreducible] wpQuiet in
set_option maxRecDepth 100000 in
set_option maxHeartbeats 16000000 in
theorem put0_any (x : Rv) (A : Option Addr) (c : Nat) (w : World) :
    Calls Try.prog 24 #[.slice A 0 c, rvV x] w (TbR [x] w) := by
  obtain ⟨i0, hi, hz0, hz1, hz2⟩ := info_parts info23
  obtain ⟨xa, xs, xt⟩ := x
  have b0 := (Below.refl w.heap.size w).alloc (Nat.le_refl _) (.cells #[.int .i64 xa, .string xs, .int .i64 xt] 23)
  have O0 := Lib.hid (ObjAt.new w #[.int .i64 xa, .string xs, .int .i64 xt] 23)
  have HB0 := Lib.hid b0
  have s0 := b0.size
  generalize hW : w.alloc (.cells #[.int .i64 xa, .string xs, .int .i64 xt] 23) = W at b0 O0 HB0 s0
  have HW := Lib.hid hW
  clear b0
  go_enter Try.func24, Try.ntmps24
  go_wp2_with fail
  go_loopw [5] (fun s5 wr => s5 = .int .i64 0 ∧ Hid (Below W.heap.size W wr)) (fun s5 _ => 0)
  case atStart => exact ⟨rfl, Lib.hid (by first | exact Below.refl _ _ | (rw [HW.out]; exact Below.refl _ _))⟩
  case round =>
    obtain ⟨rfl, HB⟩ := hrel
    go_wp2
    go_quiet (fail)
    have B1 := bdrew HB.out nq
    have K1 := Lib.hid (HB0.out.trans (B1.mono s0))
    have OV := Lib.hid (O0.out.below B1)
    generalize wr.drewN nq = V at B1 K1 OV ⊢
    have sV := K1.out.size
    have kV := (Below.refl V.heap.size V).alloc (Nat.le_refl _) (.cells #[] 23)
    have K2 := K1.out.alloc sV (.cells #[] 23)
    have RM := World.ownsRow_made V #[] 0 sV (Nat.zero_le _) (by simp) (base := w.heap.size) (e := 23) (size := 3)
    have y0 := (OV.out.below kV).b0
    have y1 := (OV.out.below kV).b1
    have y2 := (OV.out.below kV).b2
    generalize hV2 : V.alloc (.cells #[] 23) = V2 at *
    have sV2 := K2.size
    have K3 := Lib.hid (K2.alloc sV2 (.cells #[.int .i64 xa, .string xs, .int .i64 xt] 23))
    have s3 := K3.out.size
    have RM3 := Lib.hid (RM.kept (World.grownBy_alloc V2 (.cells #[.int .i64 xa, .string xs, .int .i64 xt] 23) none) (by cases (Value.slice (some ⟨V.heap.size, 0, none⟩) 0 0).ownBlock <;> simp))
    have NW := Lib.hid (rv_news V2 ⟨xa, xs, xt⟩)
    have tok1 : True := trivial
    clear RM kV
    by_cases hc0 : c = 0
    all_goals
      cases A
      all_goals
        go_wp2_with (first
          | (at_builtin; have _t := tok1; refine wpList_append_own _ rfl _ _ 24 rfl w.heap.size 23 i0 (.agg #[.int .i64 0, .string ByteArray.empty, .int .i64 0]) 3 32 Try.underlying24 hi hz0 hz1 hz2 rfl (by decide) _ _ _ rfl RM3.out ⟨V2.heap.size, 0, none⟩ 1 1 (rowR1 ⟨xa, xs, xt⟩) rfl rfl NW.out (rowR1_one _) (by decide) (by decide) s3 ?_; intro v1 w1 hown1 hgrow1 _; obtain ⟨g1, cap1, rfl⟩ := ownsRow_succ hown1; have K4 := Lib.hid (K3.out.grown hgrow1 s3 (fun j e => (RM3.out.lt j e).1)); have O1 := Lib.hid hown1; obtain ⟨hc1, hc2⟩ := own_cap hown1; have hc3 : (1 : Int) ≤ (cap1 : Int) := (by omega); have hc4 : 1 ≤ cap1 := (by omega); clear tok1 hown1 hgrow1)
          | fail)
        go_ret
        exact tb_of (L := [⟨xa, xs, xt⟩]) (base := w.heap.size) (n := 0 + 1) (by simpa [rowR] using O1.out) rfl K4.out
/-- put, on a table in order without the id. -/
theorem putR_nil (x : Rv) : putR [] x = [x] := rfl
theorem put_all (L : List Rv) (n : Nat) (hn : L.length = n) (h1000 : n ≤ 1000) (hs : SortP L) (x : Rv) (hne : ∀ y ∈ L, y.id ≠ x.id) (A : Option Addr) (c : Nat) (hc : n ≤ c ∧ c ≤ maxLen) (w : World) (hA : RsAt w A L) :
    Calls Try.prog 24 #[.slice A n c, rvV x] w (TbR (putR L x) w) := by
  by_cases h0 : n = 0
  · subst h0
    have : L = [] := List.eq_nil_of_length_eq_zero hn
    subst this
    rw [putR_nil]
    exact put0_any x A c w
  · exact put_any L n hn (by omega) h1000 hs x hne A c hc w hA
end Go.Proofs.Ytmpklkhjipclmaa
