/- Layer 8: Rebase (40): no such base. -/
import Derived.Test.YtbkpokipibgdfaaUD
import Derived.Test.YtbkpokipibgdfaaUJ
import Derived.Test.YtbkpokipibgdfaaNM
import Derived.Test.YtbkpokipibgdfaaUK
namespace Go.Proofs.Ytbkpokipibgdfaa
open Go.RowKit Go.Lib Go.Maps
set_option linter.unusedVariables false

set_option maxRecDepth 100000 in
set_option maxHeartbeats 8000000 in
theorem rebase_no (l : List St) (hok : LsOk l) (hnm : NmsOk l) (A : Option Addr) (n d : Nat) (hn : l.length = n) (hs : n ≤ 1000) (i base : Int) (hi : I64 i) (hbi : I64 base) (hz0 : chkI l i = 0) (k : Nat) (hp0 : plc l i = some k) (hb0 : base ≠ 0) (hno : hasB l ((l.getD k default).kind) base = false) (w : World) (hA : LsAt w A l) :
    Calls Try.prog 40 #[.slice A n d, .int .i64 i, .int .i64 base] w fun e w' => e = .returned (.tuple #[.slice none 0 0, .int .i64 25]) ∧ Below w.heap.size w w' := by
  have kb := ((Below.refl w.heap.size w).alloc (Nat.le_refl _) (.cells #[.slice none 0 0] 22)).alloc (by simp) (.cells #[.int .i64 0] 29)
  have cO := openat_any l hok hnm A n d hn hs i hi _ (hA.below kb)
  have b6 := (Boxed.new w 22 (.slice none 0 0)).alloc (.cells #[.int .i64 0] 29)
  have b7 := Boxed.new (w.alloc (.cells #[.slice none 0 0] 22)) 29 (.int .i64 0)
  rw [World.size_alloc] at b7
  have KB := Go.Lib.hid kb
  have B6 := Go.Lib.hid b6
  have B7 := Go.Lib.hid b7
  have HZ := Go.Lib.hid hz0
  have HP := Go.Lib.hid hp0
  have HNO := Go.Lib.hid hno
  obtain ⟨hk, hkid⟩ := plc_lt hp0
  have hz2 : ((w.alloc (.cells #[.slice none 0 0] 22)).alloc (.cells #[.int .i64 0] 29)).heap.size = w.heap.size + 2 := by simp
  have hkn : k < n := by omega
  rw [getD_at hk] at hno
  obtain ⟨ga, oa, rfl, hga, hcl⟩ := hA.pos (by omega)
  obtain ⟨Br, cr, v0, v1, _⟩ := hcl k hk
  have HN := Go.Lib.hid hno
  have f0 : (0 : Int) ≤ (k : Int) := by omega
  have f1 : (k : Int) < (n : Int) := by omega
  have VV := Go.Lib.hid (fun w' (hb : Below w.heap.size w w') => (hb.cell (p := ⟨ga, oa + k * 6 + 1, none⟩) hga).trans v1)
  clear hA hok hnm kb b6 b7 hz0 hp0 hno hkid hcl v0 v1 hn
  generalize l[k].kind = kd at VV HN
  have nb : (base != 0) = true := by simpa using hb0
  go_enter Try.func40, Try.ntmps40
  go_wp2_with fail
  (with_reducible refine cO.mono ?_)
  rintro e w1 ⟨(⟨hz, rfl⟩ | ⟨b, k', hz, hp, rfl, hsh⟩), k1⟩
  · exact absurd HZ.out hz
  obtain rfl : k = k' := by have := HP.out; rw [hp] at this; cases this; rfl
  have r6 := Go.Lib.hid (((boxed_below B6.out k1).alloc (.cells #[.slice (some ⟨ga, oa, none⟩) n d, .map (some b)] 73)).alloc (.cells #[.int .i64 (k : Nat)] 3))
  have r7 := Go.Lib.hid (((boxed_below B7.out k1).alloc (.cells #[.slice (some ⟨ga, oa, none⟩) n d, .map (some b)] 73)).alloc (.cells #[.int .i64 (k : Nat)] 3))
  have OS := Go.Lib.hid ((ObjAt.new w1 #[.slice (some ⟨ga, oa, none⟩) n d, .map (some b)] 73).alloc (.cells #[.int .i64 (k : Nat)] 3))
  have OI := Boxed.new (w1.alloc (.cells #[.slice (some ⟨ga, oa, none⟩) n d, .map (some b)] 73)) 3 (.int .i64 (k : Nat))
  rw [World.size_alloc] at OI
  have OI := Go.Lib.hid OI
  have s1 := k1.size
  rw [hz2] at s1
  have K1 := Go.Lib.hid (((Below.refl w1.heap.size w1).alloc (Nat.le_refl _) (.cells #[.slice (some ⟨ga, oa, none⟩) n d, .map (some b)] 73)).alloc (by simp) (.cells #[.int .i64 (k : Nat)] 3))
  have B1 := Go.Lib.hid (((KB.out.trans (k1.mono (by rw [hz2]; omega))).alloc (by omega) (.cells #[.slice (some ⟨ga, oa, none⟩) n d, .map (some b)] 73)).alloc (by simp; omega) (.cells #[.int .i64 (k : Nat)] 3))
  have HSH := Go.Lib.hid (hsh.below K1.out)
  clear cO hz k1 hp hsh
  go_upto_region 4 with fail
  generalize (w1.alloc (.cells #[.slice (some ⟨ga, oa, none⟩) n d, .map (some b)] 73)).alloc (.cells #[.int .i64 (k : Nat)] 3) = W at r6 r7 OS OI B1 HSH ⊢
  have hzW : ∀ p : Bw W, Below w.heap.size w p.w := fun p => B1.out.trans (p.h.mono B1.out.size)
  have cH : ∀ p : Bw W, Calls Try.prog 61 #[.agg #[.slice (some ⟨ga, oa, none⟩) n d, .map (some b)], .int .i64 kd, .int .i64 base] p.w fun e w' => e = .returned (.bool false) ∧ Below p.w.heap.size p.w w' := fun p => by
    have := has_any l (some ⟨ga, oa, none⟩) n d b kd base hbi p.w (HSH.out.below p.h)
    rw [HN.out] at this
    exact this
  have x8 : ∀ p : Bw W, p.w.cell? ⟨w1.heap.size, 0, none⟩ = some (.slice (some ⟨ga, oa, none⟩) n d) := fun p => (OS.out.below p.h).a0
  have x8b : ∀ p : Bw W, p.w.cell? ⟨w1.heap.size, 1, none⟩ = some (.map (some b)) := fun p => (OS.out.below p.h).a1
  have x9 : ∀ p : Bw W, p.w.cell? ⟨w1.heap.size + 1, 0, none⟩ = some (.int .i64 (k : Nat)) := fun p => (boxed_below OI.out p.h).cell
  have xk : ∀ p : Bw W, p.w.cell? ⟨ga, oa + k * 6 + 1, none⟩ = some (.int .i64 kd) := fun p => VV.out _ (hzW p)
  have cH2 := bw_of cH
  go_wp2_with fail
  refine wp_region_bw (W := W) (by kernel_rfl) (by kernel_rfl) (by first | exact Below.refl _ _ | exact (Below.refl _ _).drew) ?_
  repeat (quiet_step (first
    | (go_at_call 61; exact cH2 _)
    | fail))
  refine wpQuiet_nil ?_
  intro w7 hw'
  have kk : Below W.heap.size W w7 := by obtain ⟨p2, rfl⟩ := hw'; exact p2.h
  have sW := B1.out.size
  have r6' := boxed_below r6.out kk
  have r7' := boxed_below r7.out kk
  have c6 := r6'.cell
  have c7 := r7'.cell
  have f6 := r6'.frozen
  have f7 := r7'.frozen
  have Q := two_boxes r6' r7' (by omega) (.slice none 0 0) (.int .i64 25)
  have q6 := Q.1.cell
  have q7 := Q.2.cell
  have K7 := Go.Lib.hid (B1.out.trans (kk.mono sW))
  clear hw' kk x8 x8b x9 xk cH cH2 r6' r7'
  go_wp2_with fail
  refine bodyPost_ret (v := .tuple #[.slice none 0 0, .int .i64 25]) (by simp [results, Try.results40, go_sem, q6, q7]) rfl ⟨rfl, ?_⟩
  exact two_below K7.out (by omega) (by omega) _ _
end Go.Proofs.Ytbkpokipibgdfaa
