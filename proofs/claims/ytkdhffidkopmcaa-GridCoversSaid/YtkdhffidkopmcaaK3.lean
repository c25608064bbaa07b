/- Layer 12: known (12). -/
import Derived.Test.YtkdhffidkopmcaaK2
namespace Go.Proofs.Ytkdhffidkopmcaa
open Go.RowKit Go.Lib Go.Maps
set_option linter.unusedVariables false

def pA : List Pr := [(60, 2), (61, 1)]
def pB : List Pr := [(60, 2), (61, 2)]
def TKn : List (List Cl) := [[⟨pA, 0⟩, ⟨[], 0⟩], [⟨pB, 0⟩, ⟨[], 0⟩]]
theorem TKn_pl : plT TKn = Gd.TK := by decide
theorem sortA : SortP pA := by
  intro i j hi hj hij
  have : i = 0 ∧ j = 1 := by simp [pA] at hi hj; omega
  obtain ⟨rfl, rfl⟩ := this
  simp [pA]
theorem sortB : SortP pB := by
  intro i j hi hj hij
  have : i = 0 ∧ j = 1 := by simp [pB] at hi hj; omega
  obtain ⟨rfl, rfl⟩ := this
  simp [pB]
theorem sortN : SortP [] := fun i j hi => by simp at hi
theorem TKn_good : GoodT TKn := by
  refine ⟨by decide, fun r hr => ?_⟩
  simp [TKn] at hr
  rcases hr with rfl | rfl
  · refine ⟨by simp, fun x hx => ?_⟩
    simp at hx
    rcases hx with rfl | rfl
    · exact ⟨sortA, by simp [pA], by simp⟩
    · exact ⟨sortN, by simp, by simp⟩
  · refine ⟨by simp, fun x hx => ?_⟩
    simp at hx
    rcases hx with rfl | rfl
    · exact ⟨sortB, by simp [pB], by simp⟩
    · exact ⟨sortN, by simp, by simp⟩
theorem TKn_wdt : wdt (plT TKn) = 3 := by rw [TKn_pl]; decide

theorem cs14 {w : World} (i1 i2 : Int) {A1 A2 : Option Addr} {d1 d2 n1 n2 : Nat} {l1 l2 : List Pr} (e1 : l1.length = n1) (e2 : l2.length = n2) (h1 : n1 ≤ d1 ∧ d1 ≤ maxLen) (h2 : n2 ≤ d2 ∧ d2 ≤ maxLen) (P1 : PrAt w A1 l1) (P2 : PrAt w A2 l2) :
    CsAt (w.alloc (.cells #[.int .i64 i1, .slice A1 n1 d1, .int .i64 0, .int .i64 0, .slice none 0 0, .slice none 0 0, .slice none 0 0, .int .i64 i2, .slice A2 n2 d2, .int .i64 0, .int .i64 0, .slice none 0 0, .slice none 0 0, .slice none 0 0] 74)) (some ⟨w.heap.size, 0, none⟩) [⟨l1, 0⟩, ⟨l2, 0⟩] := by
  subst e1 e2
  have hb : Below w.heap.size w (w.alloc (.cells #[.int .i64 i1, .slice A1 l1.length d1, .int .i64 0, .int .i64 0, .slice none 0 0, .slice none 0 0, .slice none 0 0, .int .i64 i2, .slice A2 l2.length d2, .int .i64 0, .int .i64 0, .slice none 0 0, .slice none 0 0, .slice none 0 0] 74)) := (Below.refl _ w).alloc (Nat.le_refl _) _
  have hc : ∀ j, (w.alloc (.cells #[.int .i64 i1, .slice A1 l1.length d1, .int .i64 0, .int .i64 0, .slice none 0 0, .slice none 0 0, .slice none 0 0, .int .i64 i2, .slice A2 l2.length d2, .int .i64 0, .int .i64 0, .slice none 0 0, .slice none 0 0, .slice none 0 0] 74)).cell? ⟨w.heap.size, j, none⟩ = (#[Value.int .i64 i1, .slice A1 l1.length d1, .int .i64 0, .int .i64 0, .slice none 0 0, .slice none 0 0, .slice none 0 0, .int .i64 i2, .slice A2 l2.length d2, .int .i64 0, .int .i64 0, .slice none 0 0, .slice none 0 0, .slice none 0 0])[j]? := fun j => by rw [World.cell?_alloc_new]
  refine .inr ⟨w.heap.size, 0, rfl, by simp, fun k hk => ?_⟩
  match k, hk with
  | 0, _ => exact ⟨i1, 0, 0, A1, d1, none, 0, 0, none, 0, 0, none, 0, hc 0, hc 1, hc 2, hc 3, hc 4, hc 5, hc 6, h1.1, h1.2, P1.below hb (Nat.le_refl _)⟩
  | 1, _ => exact ⟨i2, 0, 0, A2, d2, none, 0, 0, none, 0, 0, none, 0, hc 7, hc 8, hc 9, hc 10, hc 11, hc 12, hc 13, h2.1, h2.2, P2.below hb (Nat.le_refl _)⟩
  | k + 2, hk => exact absurd (show k + 2 < 2 from hk) (by omega)
theorem tb12 {w : World} {A1 A2 : Option Addr} {r1 r2 : List Cl} (e1 : r1.length = 2) (e2 : r2.length = 2) (P1 : CsAt w A1 r1) (P2 : CsAt w A2 r2) :
    TbAt (w.alloc (.cells #[.slice none 0 0, .int .i64 0, .int .i64 0, .slice none 0 0, .slice none 0 0, .slice A1 2 2, .slice none 0 0, .int .i64 0, .int .i64 0, .slice none 0 0, .slice none 0 0, .slice A2 2 2] 39)) (some ⟨w.heap.size, 0, none⟩) [r1, r2] := by
  have hb : Below w.heap.size w (w.alloc (.cells #[.slice none 0 0, .int .i64 0, .int .i64 0, .slice none 0 0, .slice none 0 0, .slice A1 2 2, .slice none 0 0, .int .i64 0, .int .i64 0, .slice none 0 0, .slice none 0 0, .slice A2 2 2] 39)) := (Below.refl _ w).alloc (Nat.le_refl _) _
  have hc : ∀ j, (w.alloc (.cells #[.slice none 0 0, .int .i64 0, .int .i64 0, .slice none 0 0, .slice none 0 0, .slice A1 2 2, .slice none 0 0, .int .i64 0, .int .i64 0, .slice none 0 0, .slice none 0 0, .slice A2 2 2] 39)).cell? ⟨w.heap.size, j, none⟩ = (#[Value.slice none 0 0, .int .i64 0, .int .i64 0, .slice none 0 0, .slice none 0 0, .slice A1 2 2, .slice none 0 0, .int .i64 0, .int .i64 0, .slice none 0 0, .slice none 0 0, .slice A2 2 2])[j]? := fun j => by rw [World.cell?_alloc_new]
  refine .inr ⟨w.heap.size, 0, rfl, by simp, fun k hk => ?_⟩
  match k, hk with
  | 0, _ => exact ⟨0, 0, none, 0, 0, none, 0, 0, none, 0, 0, A1, 2, hc 0, hc 1, hc 2, hc 3, hc 4, by show _ = some (Value.slice A1 r1.length 2); rw [e1]; exact hc 5, by simp [e1], by decide, P1.below hb⟩
  | 1, _ => exact ⟨0, 0, none, 0, 0, none, 0, 0, none, 0, 0, A2, 2, hc 6, hc 7, hc 8, hc 9, hc 10, by show _ = some (Value.slice A2 r2.length 2); rw [e2]; exact hc 11, by simp [e2], by decide, P2.below hb⟩
  | k + 2, hk => exact absurd (show k + 2 < 2 from hk) (by omega)

set_option maxRecDepth 100000 in
set_option maxHeartbeats 8000000 in
theorem known_any (w : World) : Calls Try.prog 12 #[] w fun e w' => e = .returned (.bool true) ∧ Below w.heap.size w w' := by
  have c1 := Go.Lib.hid (fun w' => cell_two 1 2 1 rfl rfl w')
  have c2 := Go.Lib.hid (fun w' => cell_none 2 w')
  have c3 := Go.Lib.hid (fun w' => cell_two 3 2 2 rfl rfl w')
  have c4 := Go.Lib.hid (fun w' => cell_none 4 w')
  have cR := Go.Lib.hid (fun A w' hA => rects_any TKn TKn_good A 2 2 rfl (by decide) w' hA)
  have cW := Go.Lib.hid (fun A w' hA => columns_any TKn TKn_good A 2 2 rfl (by decide) w' hA)
  rw [TKn_wdt] at cW
  go_enter Try.func12, Try.ntmps12
  go_wp2_with fail
  (with_reducible refine (c1.out _).mono ?_)
  rintro e w1 ⟨A1, d1, rfl, ha1, hb1, hP1, k1⟩
  go_wp2_with fail
  (with_reducible refine (c2.out _).mono ?_)
  rintro e w2 ⟨A2, d2, rfl, ha2, hb2, hP2, k2⟩
  have C1 := Go.Lib.hid (cs14 (w := w2) 1 2 (l1 := pA) (l2 := []) (n1 := 2) (n2 := 0) rfl rfl ⟨ha1, hb1⟩ ⟨ha2, hb2⟩ (hP1.below k2 (Nat.le_refl _)) hP2)
  have K2 := Go.Lib.hid (k1.trans (k2.mono k1.size))
  clear hP1 hP2 k1 k2 ha1 hb1 ha2 hb2
  go_wp2_with fail
  have hwa : Below w2.heap.size w2 (w2.alloc (.cells #[.int .i64 1, .slice A1 2 d1, .int .i64 0, .int .i64 0, .slice none 0 0, .slice none 0 0, .slice none 0 0, .int .i64 2, .slice A2 0 d2, .int .i64 0, .int .i64 0, .slice none 0 0, .slice none 0 0, .slice none 0 0] 74)) := (Below.refl _ w2).alloc (Nat.le_refl _) _
  generalize (w2.alloc (.cells #[.int .i64 1, .slice A1 2 d1, .int .i64 0, .int .i64 0, .slice none 0 0, .slice none 0 0, .slice none 0 0, .int .i64 2, .slice A2 0 d2, .int .i64 0, .int .i64 0, .slice none 0 0, .slice none 0 0, .slice none 0 0] 74)) = Wa at *
  have KA := Go.Lib.hid (K2.out.trans (hwa.mono K2.out.size))
  clear hwa
  (with_reducible refine (c3.out _).mono ?_)
  rintro e w3 ⟨A3, d3, rfl, ha3, hb3, hP3, k3⟩
  go_wp2_with fail
  (with_reducible refine (c4.out _).mono ?_)
  rintro e w4 ⟨A4, d4, rfl, ha4, hb4, hP4, k4⟩
  have C2 := Go.Lib.hid (cs14 (w := w4) 3 4 (l1 := pB) (l2 := []) (n1 := 2) (n2 := 0) rfl rfl ⟨ha3, hb3⟩ ⟨ha4, hb4⟩ (hP3.below k4 (Nat.le_refl _)) hP4)
  have k34 := k3.trans (k4.mono k3.size)
  have C1' := Go.Lib.hid ((C1.out.below k34).below ((Below.refl _ w4).alloc (Nat.le_refl _) (.cells #[.int .i64 3, .slice A3 2 d3, .int .i64 0, .int .i64 0, .slice none 0 0, .slice none 0 0, .slice none 0 0, .int .i64 4, .slice A4 0 d4, .int .i64 0, .int .i64 0, .slice none 0 0, .slice none 0 0, .slice none 0 0] 74)))
  have TB := Go.Lib.hid (tb12 rfl rfl C1'.out C2.out)
  have K4 := Go.Lib.hid (KA.out.trans (k34.mono KA.out.size))
  have hwc : Below w4.heap.size w4 ((w4.alloc (.cells #[.int .i64 3, .slice A3 2 d3, .int .i64 0, .int .i64 0, .slice none 0 0, .slice none 0 0, .slice none 0 0, .int .i64 4, .slice A4 0 d4, .int .i64 0, .int .i64 0, .slice none 0 0, .slice none 0 0, .slice none 0 0] 74)).alloc (.cells #[.slice none 0 0, .int .i64 0, .int .i64 0, .slice none 0 0, .slice none 0 0, .slice (some ⟨w2.heap.size, 0, none⟩) 2 2, .slice none 0 0, .int .i64 0, .int .i64 0, .slice none 0 0, .slice none 0 0, .slice (some ⟨w4.heap.size, 0, none⟩) 2 2] 39)) := ((Below.refl _ w4).alloc (Nat.le_refl _) _).alloc (by simp) _
  clear hP3 hP4 k3 k4 k34 ha3 hb3 ha4 hb4 C1 C2 C1'
  go_wp2_with fail
  have hsz : (w4.alloc (.cells #[.int .i64 3, .slice A3 2 d3, .int .i64 0, .int .i64 0, .slice none 0 0, .slice none 0 0, .slice none 0 0, .int .i64 4, .slice A4 0 d4, .int .i64 0, .int .i64 0, .slice none 0 0, .slice none 0 0, .slice none 0 0] 74)).heap.size = w4.heap.size + 1 := by simp
  rw [hsz] at TB
  generalize ((w4.alloc (.cells #[.int .i64 3, .slice A3 2 d3, .int .i64 0, .int .i64 0, .slice none 0 0, .slice none 0 0, .slice none 0 0, .int .i64 4, .slice A4 0 d4, .int .i64 0, .int .i64 0, .slice none 0 0, .slice none 0 0, .slice none 0 0] 74)).alloc (.cells #[.slice none 0 0, .int .i64 0, .int .i64 0, .slice none 0 0, .slice none 0 0, .slice (some ⟨w2.heap.size, 0, none⟩) 2 2, .slice none 0 0, .int .i64 0, .int .i64 0, .slice none 0 0, .slice none 0 0, .slice (some ⟨w4.heap.size, 0, none⟩) 2 2] 39)) = Wc at *
  have KC := Go.Lib.hid (K4.out.trans (hwc.mono K4.out.size))
  clear hsz hwc
  (with_reducible refine (cR.out _ _ TB.out).mono ?_)
  rintro e w5 ⟨rv, rs, f, rfl, hR, hF, _, k5⟩
  obtain ⟨f0, hF0⟩ := Gd.TK_fin
  rw [TKn_pl] at hF
  obtain rfl : rs = Gd.RK := hF.unique Gd.TK_ok hF0
  have hown : w5.ownsRow Wc.heap.size 50 6 rv 3 (rcC Gd.RK) := hR
  obtain ⟨gr, cap, rfl⟩ := own_form hown
  have K5 := Go.Lib.hid k5
  have cw := cW.out _ w5 (TB.out.below k5)
  have cc := fun j (hj : j < 18) => hown.cellAt j (by omega)
  have hgl := (World.ownsRow.lt hown gr rfl).2
  clear hR hF hF0 k5 hown
  go_wp2_with fail
  (with_reducible refine cw.mono ?_)
  rintro e w6 ⟨rfl, k6⟩
  have dd := fun j (hj : j < 18) => (k6.cell (p := ⟨gr, j, none⟩) hgl).trans (cc j hj)
  have e0 : _ = some (Value.int .i64 0) := dd 0 (by omega)
  have e1 : _ = some (Value.int .i64 0) := dd 1 (by omega)
  have e2 : _ = some (Value.int .i64 0) := dd 2 (by omega)
  have e3 : _ = some (Value.int .i64 0) := dd 3 (by omega)
  have e4 : _ = some (Value.int .i64 2) := dd 4 (by omega)
  have e5 : _ = some (Value.int .i64 2) := dd 5 (by omega)
  have g0 : _ = some (Value.int .i64 1) := dd 12 (by omega)
  have g1 : _ = some (Value.int .i64 1) := dd 13 (by omega)
  have g2 : _ = some (Value.int .i64 1) := dd 14 (by omega)
  have g3 : _ = some (Value.int .i64 2) := dd 15 (by omega)
  have g4 : _ = some (Value.int .i64 2) := dd 16 (by omega)
  have g5 : _ = some (Value.int .i64 3) := dd 17 (by omega)
  have K6 := Go.Lib.hid (KC.out.trans ((K5.out.trans (k6.mono K5.out.size)).mono KC.out.size))
  clear cw cc dd k6
  go_wp2
  go_ret
  exact ⟨by simp, K6.out⟩
end Go.Proofs.Ytkdhffidkopmcaa
