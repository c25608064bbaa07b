/- Layer 8: known (13). -/
import Derived.Test.YtbkpokipibgdfaaST
namespace Go.Proofs.Ytbkpokipibgdfaa
open Go.RowKit Go.Lib Go.Maps
set_option linter.unusedVariables false

theorem pr_of {W : World} {b : Nat} {l : List Pr} (h : ObjAt W b (rowP l).toArray 55) : PrAt W (some ⟨b, 0, none⟩) l := by
  refine .inr ⟨b, 0, rfl, h.lt, fun k hk => ?_⟩
  obtain ⟨h1, h2⟩ := rowP_get l k hk
  rw [Nat.zero_add]
  exact ⟨h.get (by simpa using h1), h.get (by simpa using h2)⟩
set_option maxRecDepth 100000 in
set_option maxHeartbeats 8000000 in
theorem known_any (w : World) : Calls Try.prog 13 #[] w fun e w' => e = .returned (.bool true) ∧ Below w.heap.size w w' := by
  have o0 := (((((ObjAt.new w #[.int .i64 5, .int .i64 24] 55).alloc (.cells #[.int .i64 2, .int .i64 1, .int .i64 5, .int .i64 32] 55)).alloc (.cells #[.int .i64 7, .int .i64 2] 55)).alloc (.cells #[.int .i64 1, .int .i64 1, .string ⟨#[78, 111, 114, 109, 97, 108]⟩, .int .i64 0, .int .i64 0, .slice (some ⟨w.heap.size, 0, none⟩) 1 1, .int .i64 2, .int .i64 1, .string ⟨#[72, 101, 97, 100, 105, 110, 103]⟩, .int .i64 1, .int .i64 0, .slice (some ⟨w.heap.size + 1, 0, none⟩) 2 2, .int .i64 3, .int .i64 2, .string ⟨#[67, 111, 100, 101]⟩, .int .i64 0, .int .i64 0, .slice (some ⟨w.heap.size + 1 + 1, 0, none⟩) 1 1] 28)).alloc (.cells #[.int .i64 20, .int .i64 2] 55)).alloc (.cells #[.int .i64 1, .int .i64 3, .int .i64 3, .int .i64 1] 55)
  have o1 := ((((ObjAt.new (w.alloc (.cells #[.int .i64 5, .int .i64 24] 55)) #[.int .i64 2, .int .i64 1, .int .i64 5, .int .i64 32] 55).alloc (.cells #[.int .i64 7, .int .i64 2] 55)).alloc (.cells #[.int .i64 1, .int .i64 1, .string ⟨#[78, 111, 114, 109, 97, 108]⟩, .int .i64 0, .int .i64 0, .slice (some ⟨w.heap.size, 0, none⟩) 1 1, .int .i64 2, .int .i64 1, .string ⟨#[72, 101, 97, 100, 105, 110, 103]⟩, .int .i64 1, .int .i64 0, .slice (some ⟨w.heap.size + 1, 0, none⟩) 2 2, .int .i64 3, .int .i64 2, .string ⟨#[67, 111, 100, 101]⟩, .int .i64 0, .int .i64 0, .slice (some ⟨w.heap.size + 1 + 1, 0, none⟩) 1 1] 28)).alloc (.cells #[.int .i64 20, .int .i64 2] 55)).alloc (.cells #[.int .i64 1, .int .i64 3, .int .i64 3, .int .i64 1] 55)
  rw [World.size_alloc] at o1
  have o2 := (((ObjAt.new ((w.alloc (.cells #[.int .i64 5, .int .i64 24] 55)).alloc (.cells #[.int .i64 2, .int .i64 1, .int .i64 5, .int .i64 32] 55)) #[.int .i64 7, .int .i64 2] 55).alloc (.cells #[.int .i64 1, .int .i64 1, .string ⟨#[78, 111, 114, 109, 97, 108]⟩, .int .i64 0, .int .i64 0, .slice (some ⟨w.heap.size, 0, none⟩) 1 1, .int .i64 2, .int .i64 1, .string ⟨#[72, 101, 97, 100, 105, 110, 103]⟩, .int .i64 1, .int .i64 0, .slice (some ⟨w.heap.size + 1, 0, none⟩) 2 2, .int .i64 3, .int .i64 2, .string ⟨#[67, 111, 100, 101]⟩, .int .i64 0, .int .i64 0, .slice (some ⟨w.heap.size + 1 + 1, 0, none⟩) 1 1] 28)).alloc (.cells #[.int .i64 20, .int .i64 2] 55)).alloc (.cells #[.int .i64 1, .int .i64 3, .int .i64 3, .int .i64 1] 55)
  rw [World.size_alloc, World.size_alloc] at o2
  have o3 := ((ObjAt.new (((w.alloc (.cells #[.int .i64 5, .int .i64 24] 55)).alloc (.cells #[.int .i64 2, .int .i64 1, .int .i64 5, .int .i64 32] 55)).alloc (.cells #[.int .i64 7, .int .i64 2] 55)) #[.int .i64 1, .int .i64 1, .string ⟨#[78, 111, 114, 109, 97, 108]⟩, .int .i64 0, .int .i64 0, .slice (some ⟨w.heap.size, 0, none⟩) 1 1, .int .i64 2, .int .i64 1, .string ⟨#[72, 101, 97, 100, 105, 110, 103]⟩, .int .i64 1, .int .i64 0, .slice (some ⟨w.heap.size + 1, 0, none⟩) 2 2, .int .i64 3, .int .i64 2, .string ⟨#[67, 111, 100, 101]⟩, .int .i64 0, .int .i64 0, .slice (some ⟨w.heap.size + 1 + 1, 0, none⟩) 1 1] 28).alloc (.cells #[.int .i64 20, .int .i64 2] 55)).alloc (.cells #[.int .i64 1, .int .i64 3, .int .i64 3, .int .i64 1] 55)
  rw [World.size_alloc, World.size_alloc, World.size_alloc] at o3
  have o4 := (ObjAt.new ((((w.alloc (.cells #[.int .i64 5, .int .i64 24] 55)).alloc (.cells #[.int .i64 2, .int .i64 1, .int .i64 5, .int .i64 32] 55)).alloc (.cells #[.int .i64 7, .int .i64 2] 55)).alloc (.cells #[.int .i64 1, .int .i64 1, .string ⟨#[78, 111, 114, 109, 97, 108]⟩, .int .i64 0, .int .i64 0, .slice (some ⟨w.heap.size, 0, none⟩) 1 1, .int .i64 2, .int .i64 1, .string ⟨#[72, 101, 97, 100, 105, 110, 103]⟩, .int .i64 1, .int .i64 0, .slice (some ⟨w.heap.size + 1, 0, none⟩) 2 2, .int .i64 3, .int .i64 2, .string ⟨#[67, 111, 100, 101]⟩, .int .i64 0, .int .i64 0, .slice (some ⟨w.heap.size + 1 + 1, 0, none⟩) 1 1] 28)) #[.int .i64 20, .int .i64 2] 55).alloc (.cells #[.int .i64 1, .int .i64 3, .int .i64 3, .int .i64 1] 55)
  rw [World.size_alloc, World.size_alloc, World.size_alloc, World.size_alloc] at o4
  have o5 := ObjAt.new (((((w.alloc (.cells #[.int .i64 5, .int .i64 24] 55)).alloc (.cells #[.int .i64 2, .int .i64 1, .int .i64 5, .int .i64 32] 55)).alloc (.cells #[.int .i64 7, .int .i64 2] 55)).alloc (.cells #[.int .i64 1, .int .i64 1, .string ⟨#[78, 111, 114, 109, 97, 108]⟩, .int .i64 0, .int .i64 0, .slice (some ⟨w.heap.size, 0, none⟩) 1 1, .int .i64 2, .int .i64 1, .string ⟨#[72, 101, 97, 100, 105, 110, 103]⟩, .int .i64 1, .int .i64 0, .slice (some ⟨w.heap.size + 1, 0, none⟩) 2 2, .int .i64 3, .int .i64 2, .string ⟨#[67, 111, 100, 101]⟩, .int .i64 0, .int .i64 0, .slice (some ⟨w.heap.size + 1 + 1, 0, none⟩) 1 1] 28)).alloc (.cells #[.int .i64 20, .int .i64 2] 55)) #[.int .i64 1, .int .i64 3, .int .i64 3, .int .i64 1] 55
  rw [World.size_alloc, World.size_alloc, World.size_alloc, World.size_alloc, World.size_alloc] at o5
  have hb : Below w.heap.size w ((((((w.alloc (.cells #[.int .i64 5, .int .i64 24] 55)).alloc (.cells #[.int .i64 2, .int .i64 1, .int .i64 5, .int .i64 32] 55)).alloc (.cells #[.int .i64 7, .int .i64 2] 55)).alloc (.cells #[.int .i64 1, .int .i64 1, .string ⟨#[78, 111, 114, 109, 97, 108]⟩, .int .i64 0, .int .i64 0, .slice (some ⟨w.heap.size, 0, none⟩) 1 1, .int .i64 2, .int .i64 1, .string ⟨#[72, 101, 97, 100, 105, 110, 103]⟩, .int .i64 1, .int .i64 0, .slice (some ⟨w.heap.size + 1, 0, none⟩) 2 2, .int .i64 3, .int .i64 2, .string ⟨#[67, 111, 100, 101]⟩, .int .i64 0, .int .i64 0, .slice (some ⟨w.heap.size + 1 + 1, 0, none⟩) 1 1] 28)).alloc (.cells #[.int .i64 20, .int .i64 2] 55)).alloc (.cells #[.int .i64 1, .int .i64 3, .int .i64 3, .int .i64 1] 55)) := ((((((Below.refl _ w).alloc (Nat.le_refl _) _).alloc (by simp) _).alloc (by simp; omega) _).alloc (by simp; omega) _).alloc (by simp; omega) _).alloc (by simp; omega) _
  have hsz := hb.size
  obtain ⟨W, hW⟩ : ∃ W, W = ((((((w.alloc (.cells #[.int .i64 5, .int .i64 24] 55)).alloc (.cells #[.int .i64 2, .int .i64 1, .int .i64 5, .int .i64 32] 55)).alloc (.cells #[.int .i64 7, .int .i64 2] 55)).alloc (.cells #[.int .i64 1, .int .i64 1, .string ⟨#[78, 111, 114, 109, 97, 108]⟩, .int .i64 0, .int .i64 0, .slice (some ⟨w.heap.size, 0, none⟩) 1 1, .int .i64 2, .int .i64 1, .string ⟨#[72, 101, 97, 100, 105, 110, 103]⟩, .int .i64 1, .int .i64 0, .slice (some ⟨w.heap.size + 1, 0, none⟩) 2 2, .int .i64 3, .int .i64 2, .string ⟨#[67, 111, 100, 101]⟩, .int .i64 0, .int .i64 0, .slice (some ⟨w.heap.size + 1 + 1, 0, none⟩) 1 1] 28)).alloc (.cells #[.int .i64 20, .int .i64 2] 55)).alloc (.cells #[.int .i64 1, .int .i64 3, .int .i64 3, .int .i64 1] 55)) := ⟨_, rfl⟩
  rw [← hW] at o0 o1 o2 o3 o4 o5 hb hsz
  have P0 : PrAt W (some ⟨w.heap.size, 0, none⟩) [(5, 24)] := pr_of o0
  have P1 : PrAt W (some ⟨w.heap.size + 1, 0, none⟩) [(2, 1), (5, 32)] := pr_of o1
  have P2 : PrAt W (some ⟨w.heap.size + 1 + 1, 0, none⟩) [(7, 2)] := pr_of o2
  have P4 : PrAt W (some ⟨w.heap.size + 1 + 1 + 1 + 1, 0, none⟩) p0 := pr_of o4
  have P5 : PrAt W (some ⟨w.heap.size + 1 + 1 + 1 + 1 + 1, 0, none⟩) _root_.Go.Proofs.Ytbkpokipibgdfaa.o0 := pr_of o5
  have hA : LsAt W (some ⟨w.heap.size + 1 + 1 + 1, 0, none⟩) l0 := by
    refine .inr ⟨_, 0, rfl, o3.lt, fun k hk => ?_⟩
    have hk3 : k < 3 := hk
    rcases (by omega : k = 0 ∨ k = 1 ∨ k = 2) with rfl | rfl | rfl
    · exact ⟨_, 1, o3.get rfl, o3.get rfl, o3.get rfl, o3.get rfl, o3.get rfl, o3.get rfl, (show 1 ≤ 1 from Nat.le_refl _), (show 1 ≤ maxLen from by decide), P0⟩
    · exact ⟨_, 2, o3.get rfl, o3.get rfl, o3.get rfl, o3.get rfl, o3.get rfl, o3.get rfl, (show 2 ≤ 2 from Nat.le_refl _), (show 2 ≤ maxLen from by decide), P1⟩
    · exact ⟨_, 1, o3.get rfl, o3.get rfl, o3.get rfl, o3.get rfl, o3.get rfl, o3.get rfl, (show 1 ≤ 1 from Nat.le_refl _), (show 1 ≤ maxLen from by decide), P2⟩
  have cT := text_good l0 l0_ok l0_nms l0_prs (some ⟨w.heap.size + 1 + 1 + 1, 0, none⟩) 3 3 4 rfl (by decide) p0 _root_.Go.Proofs.Ytbkpokipibgdfaa.o0 (some ⟨w.heap.size + 1 + 1 + 1 + 1, 0, none⟩) (some ⟨w.heap.size + 1 + 1 + 1 + 1 + 1, 0, none⟩) 1 1 2 2 rfl rfl (by decide) (by decide) (by decide) (by decide) sort1 sort2 l0_chk p0_chk o0_chk
    (by rw [id1]; unfold I64; decide) (by rw [id2]; unfold I64; decide) (by rw [id1, has1]; simp) (by rw [id2, has2]; simp) (by rw [id1, plc2]; exact bnd2) (by rw [id2, plc3]; exact bnd3) (by rw [id2, plc3]; exact bm2) (by rw [id1, plc2, id2, plc3]; exact bm3) W hA P4 P5
  have HB := Lib.hid hb
  rw [hW] at cT
  have HW := Lib.hid hW
  clear o0 o1 o2 o3 o4 o5 P0 P1 P2 P4 P5 hA hb hW
  go_enter Try.func13, Try.ntmps13
  go_wp2_with fail
  (with_reducible refine cT.mono ?_)
  rintro e w9 ⟨xs1, xs2, B, k, cap, ⟨h1, h2⟩, ⟨h3, h4⟩, rfl, hk, hr, k9⟩
  rw [id1, plc2] at h1 h2
  rw [id2, plc3] at h3 h4
  obtain rfl := ch2_end h1 h2
  obtain rfl := ch3_end h3 h4
  rw [txt0] at hk hr
  obtain rfl : 5 = k := hk
  rw [← HW.out] at k9
  have K9 := Lib.hid (HB.out.trans (k9.mono hsz))
  obtain ⟨_, _, he, hx1, hx2, hx3⟩ := PVal.own hr rfl
  injection he with e1 e2 e3
  subst e1 e3
  have kn := (Below.refl w9.heap.size w9).alloc (Nat.le_refl _) (.cells #[.int .i64 1, .int .i64 3, .int .i64 2, .int .i64 1, .int .i64 3, .int .i64 1, .int .i64 5, .int .i64 32, .int .i64 7, .int .i64 2] 55)
  have on := ObjAt.new w9 #[.int .i64 1, .int .i64 3, .int .i64 2, .int .i64 1, .int .i64 3, .int .i64 1, .int .i64 5, .int .i64 32, .int .i64 7, .int .i64 2] 55
  have cE := eqprops_any B (some ⟨w9.heap.size, 0, none⟩) 5 5 cap 5 [(1, 3), (2, 1), (3, 1), (5, 32), (7, 2)] [(1, 3), (2, 1), (3, 1), (5, 32), (7, 2)] rfl rfl ⟨hx1, hx2⟩ (by decide) _ (hx3.below kn (Nat.le_refl _)) (pr_of on)
  rw [decide_eq_true rfl] at cE
  have sn := kn.size
  clear hx1 hx2 hx3 hr k9 h1 h2 h3 h4 cT on e2
  go_wp2_with fail
  (with_reducible refine cE.mono ?_)
  rintro e w10 ⟨rfl, k10⟩
  clear cE
  go_wp2
  go_ret
  exact ⟨rfl, K9.out.trans ((kn.trans (k10.mono sn)).mono K9.out.size)⟩
end Go.Proofs.Ytbkpokipibgdfaa
