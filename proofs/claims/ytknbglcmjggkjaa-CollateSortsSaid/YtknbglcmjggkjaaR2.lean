/- Layer 6: the reference's isDigit (36), base (53), isLetter (54), letter (55), mark (56), accents (77). -/
import Derived.Test.YtknbglcmjggkjaaK2
namespace Go.Proofs.Ytknbglcmjggkjaa
open Go.RowKit Go.Shelf Go.Lib Co

set_option maxRecDepth 100000 in
set_option maxHeartbeats 4000000 in
theorem rdigit_any (c : Nat) (w : World) (hc : c ≤ 2000000) : Calls Try.prog 36 #[.int .i64 (c : Nat)] w fun e w' => e = .returned (.bool (dig c)) ∧ w' = w := by
  by_cases h1 : 48 ≤ c
  · by_cases h2 : c ≤ 57
    · have hd := Go.Lib.hid (show dig c = true by simp [dig, h1, h2])
      go_enter Try.func36, Try.ntmps36
      go_wp2
      go_ret
      exact ⟨ret_bool (by first | (rw [hd.out]; done) | (rw [hd.out]; simp; done) | (rw [hd.out]; simp; omega)), rfl⟩
    · have hd := Go.Lib.hid (show dig c = false by simp [dig, h2])
      go_enter Try.func36, Try.ntmps36
      go_wp2
      go_ret
      exact ⟨ret_bool (by first | (rw [hd.out]; done) | (rw [hd.out]; simp; done) | (rw [hd.out]; simp; omega)), rfl⟩
  · have hd := Go.Lib.hid (show dig c = false by simp [dig, h1])
    go_enter Try.func36, Try.ntmps36
    go_wp2
    go_ret
    exact ⟨ret_bool (by first | (rw [hd.out]; done) | (rw [hd.out]; simp; done) | (rw [hd.out]; simp; omega)), rfl⟩
set_option maxRecDepth 100000 in
set_option maxHeartbeats 4000000 in
theorem rbase_any (p : Nat) (w : World) : Calls Try.prog 53 #[.int .i64 (p : Nat)] w (ElR (p, 32, 2) w) := by
  go_enter Try.func53, Try.ntmps53
  go_wp2
  refine bodyPost_ret (v := elV (p, 32, 2)) ?_ rfl ⟨rfl, (Below.refl _ w).alloc (Nat.le_refl _) _⟩
  simp [results, Try.results53, go_sem, elV]
theorem rbase_el (y : Int) (x : El) (hx : (x.1 : Int) = y ∧ x.2 = (32, 2)) (w : World) : Calls Try.prog 53 #[.int .i64 y] w (ElR x w) := by
  obtain ⟨p, q⟩ := x
  obtain ⟨h1, h2⟩ := hx
  simp only at h1 h2
  subst h1 h2
  exact rbase_any p w
/-- Is it a letter? -/
def ltt (c : Nat) : Bool := (decide (97 ≤ c) && decide (c ≤ 122)) || (decide (65 ≤ c) && decide (c ≤ 90))
set_option maxRecDepth 100000 in
set_option maxHeartbeats 4000000 in
theorem rletter_is (c : Nat) (w : World) (hc : c ≤ 2000000) : Calls Try.prog 54 #[.int .i64 (c : Nat)] w fun e w' => e = .returned (.bool (ltt c)) ∧ w' = w := by
  rcases (show c < 65 ∨ (65 ≤ c ∧ c ≤ 90) ∨ (90 < c ∧ c < 97) ∨ (97 ≤ c ∧ c ≤ 122) ∨ 122 < c by omega) with h | ⟨h, k⟩ | ⟨h, k⟩ | ⟨h, k⟩ | h
  · have hd := Go.Lib.hid (show ltt c = false by simp [ltt]; omega)
    go_enter Try.func54, Try.ntmps54
    go_wp2
    go_ret
    exact ⟨ret_bool (by first | (rw [hd.out]; done) | (rw [hd.out]; simp; done) | (rw [hd.out]; simp; omega)), rfl⟩
  · have hd := Go.Lib.hid (show ltt c = true by simp [ltt]; omega)
    go_enter Try.func54, Try.ntmps54
    go_wp2
    go_ret
    exact ⟨ret_bool (by first | (rw [hd.out]; done) | (rw [hd.out]; simp; done) | (rw [hd.out]; simp; omega)), rfl⟩
  · have hd := Go.Lib.hid (show ltt c = false by simp [ltt]; omega)
    go_enter Try.func54, Try.ntmps54
    go_wp2
    go_ret
    exact ⟨ret_bool (by first | (rw [hd.out]; done) | (rw [hd.out]; simp; done) | (rw [hd.out]; simp; omega)), rfl⟩
  · have hd := Go.Lib.hid (show ltt c = true by simp [ltt]; omega)
    go_enter Try.func54, Try.ntmps54
    go_wp2
    go_ret
    exact ⟨ret_bool (by first | (rw [hd.out]; done) | (rw [hd.out]; simp; done) | (rw [hd.out]; simp; omega)), rfl⟩
  · have hd := Go.Lib.hid (show ltt c = false by simp [ltt]; omega)
    go_enter Try.func54, Try.ntmps54
    go_wp2
    go_ret
    exact ⟨ret_bool (by first | (rw [hd.out]; done) | (rw [hd.out]; simp; done) | (rw [hd.out]; simp; omega)), rfl⟩
/-- A letter's element. -/
def ltE (uf : Bool) (c : Nat) : El := if 97 ≤ c then (32768 + 4 * (c - 97), 32, 2) else (32768 + 4 * (c - 65), 32, upN uf)
theorem ObjAt.c0 {W : World} {b : Nat} {t : TypeId} {p q r s : Value} (h : ObjAt W b #[p, q, r, s] t) : W.cell? ⟨b, 0, none⟩ = some p := h.get rfl
theorem ObjAt.c1 {W : World} {b : Nat} {t : TypeId} {p q r s : Value} (h : ObjAt W b #[p, q, r, s] t) : W.cell? ⟨b, 1, none⟩ = some q := h.get rfl
theorem ObjAt.c2 {W : World} {b : Nat} {t : TypeId} {p q r s : Value} (h : ObjAt W b #[p, q, r, s] t) : W.cell? ⟨b, 2, none⟩ = some r := h.get rfl
theorem ObjAt.c3 {W : World} {b : Nat} {t : TypeId} {p q r s : Value} (h : ObjAt W b #[p, q, r, s] t) : W.cell? ⟨b, 3, none⟩ = some s := h.get rfl
set_option maxRecDepth 100000 in
set_option maxHeartbeats 4000000 in
theorem rletter_any (c : Nat) (st : Int) (nu ig uf : Bool) (w : World) (h1 : 65 ≤ c) (h2 : c ≤ 122) : Calls Try.prog 55 #[.int .i64 (c : Nat), opV st nu ig uf] w (ElR (ltE uf c) w) := by
  unfold opV
  have o2 := ObjAt.new (w.alloc (.cells #[.int .i64 st, .bool nu, .bool ig, .bool uf] 34)) #[.int .i64 0, .int .i64 0, .int .i64 0] 38
  have o1 := (ObjAt.new w #[.int .i64 st, .bool nu, .bool ig, .bool uf] 34).alloc (.cells #[.int .i64 0, .int .i64 0, .int .i64 0] 38)
  rw [World.size_alloc] at o2
  have hB : Below w.heap.size w ((w.alloc (.cells #[.int .i64 st, .bool nu, .bool ig, .bool uf] 34)).alloc (.cells #[.int .i64 0, .int .i64 0, .int .i64 0] 38)) := ((Below.refl _ w).alloc (Nat.le_refl _) _).alloc (by simp) _
  by_cases h : 97 ≤ c
  · obtain ⟨d, rfl⟩ : ∃ d, c = 97 + d := ⟨c - 97, by omega⟩
    have HE := Go.Lib.hid (show ltE uf (97 + d) = (32768 + 4 * d, 32, 2) by unfold ltE; rw [if_pos h, Nat.add_sub_cancel_left])
    have hd : d ≤ 25 := by omega
    have e0 : (97 + (d : Int) - 97) = (d : Int) := by omega
    go_enter Try.func55, Try.ntmps55
    go_wp2_with fail
    generalize (w.alloc (.cells #[.int .i64 st, .bool nu, .bool ig, .bool uf] 34)).alloc (.cells #[.int .i64 0, .int .i64 0, .int .i64 0] 38) = W at *
    refine (rbase_el _ (32768 + 4 * d, 32, 2) ⟨by simp, rfl⟩ _).mono ?_
    rintro e w4 ⟨rfl, k4⟩
    have p2 := o2.below k4
    have z0 := p2.b0
    have z1 := p2.b1
    have z2 := p2.b2
    have y0 := p2.frozen 0
    have y1 := p2.frozen 1
    have y2 := p2.frozen 2
    have HB := Go.Lib.hid (hB.trans (k4.mono hB.size))
    clear o1 o2 hB k4 p2
    unfold elV
    go_wp2
    refine bodyPost_ret (v := elV (ltE uf (97 + d))) ?_ rfl ⟨rfl, ?_⟩
    · rw [HE.out]; simp [results, Try.results55, go_sem, elV, *]
    · exact ((HB.out.setCell (by simp) _).setCell (by simp) _).setCell (by simp) _
  · obtain ⟨d, rfl⟩ : ∃ d, c = 65 + d := ⟨c - 65, by omega⟩
    have HE := Go.Lib.hid (show ltE uf (65 + d) = (32768 + 4 * d, 32, upN uf) by unfold ltE; rw [if_neg h, Nat.add_sub_cancel_left])
    have hd : d ≤ 31 := by omega
    have e1 : ¬ (97 : Int) ≤ 65 + (d : Int) := by omega
    have e0 : (65 + (d : Int) - 65) = (d : Int) := by omega
    clear o1 o2 hB
    cases uf with
    | true =>
      go_enter Try.func55, Try.ntmps55
      go_wp2
      refine bodyPost_ret (v := elV (ltE true (65 + d))) ?_ rfl ⟨rfl, ((Below.refl _ w).alloc (Nat.le_refl _) _).alloc (by simp) _⟩
      rw [HE.out]; simp [results, Try.results55, go_sem, elV, upN, *]
    | false =>
      go_enter Try.func55, Try.ntmps55
      go_wp2
      refine bodyPost_ret (v := elV (ltE false (65 + d))) ?_ rfl ⟨rfl, ((Below.refl _ w).alloc (Nat.le_refl _) _).alloc (by simp) _⟩
      rw [HE.out]; simp [results, Try.results55, go_sem, elV, upN, *]
/-- A mark's element. -/
def mkE (c : Nat) : El := (0, 33 + (c - 768), 0)
set_option maxRecDepth 100000 in
set_option maxHeartbeats 4000000 in
theorem rmark_any (c : Nat) (w : World) (h1 : 768 ≤ c) (h2 : c ≤ 2000000) : Calls Try.prog 56 #[.int .i64 (c : Nat)] w (ElR (mkE c) w) := by
  obtain ⟨d, rfl⟩ : ∃ d, c = 768 + d := ⟨c - 768, by omega⟩
  have HE := Go.Lib.hid (show mkE (768 + d) = (0, 33 + d, 0) by unfold mkE; rw [Nat.add_sub_cancel_left])
  have e0 : (33 + (768 + (d : Int)) - 768) = 33 + (d : Int) := by omega
  go_enter Try.func56, Try.ntmps56
  go_wp2
  refine bodyPost_ret (v := elV (mkE (768 + d))) ?_ rfl ⟨rfl, (Below.refl _ w).alloc (Nat.le_refl _) _⟩
  rw [HE.out]; simp [results, Try.results56, go_sem, elV, *]
/-- The reference's table, from 192 on. -/
def accL : List (Nat × Nat) := [(65, 768), (65, 769), (65, 770), (65, 771), (65, 776), (65, 778), (0, 0), (67, 807), (69, 768), (69, 769), (69, 770), (69, 776), (73, 768), (73, 769), (73, 770), (73, 776), (0, 0), (78, 771), (79, 768), (79, 769), (79, 770), (79, 771), (79, 776), (0, 0), (79, 824), (85, 768), (85, 769), (85, 770), (85, 776), (89, 769)]
def accC : Array Value := (accL.flatMap fun p => prC p.1 p.2).toArray
set_option maxRecDepth 100000 in
set_option maxHeartbeats 8000000 in
theorem accents_any (w : World) : Calls Try.prog 77 #[] w fun e w' => e = .returned (.slice (some ⟨w.heap.size, 0, none⟩) 30 30) ∧ w' = w.alloc (.cells accC 114) := by
  go_enter Try.func77, Try.ntmps77
  go_wp2
  go_ret
  exact ⟨rfl, rfl⟩
end Go.Proofs.Ytknbglcmjggkjaa
