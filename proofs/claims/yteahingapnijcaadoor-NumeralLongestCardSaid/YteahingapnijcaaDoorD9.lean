/- Layer 9: Longest; the law. -/
import Derived.Test.YteahingapnijcaaDoorD8
namespace Go.Proofs.YteahingapnijcaaDoor
open Go.RowKit Go.Lib Go.Shelf Nu9

theorem run_store_fn (P : Program) (w : World) (p : Addr) (f : Fn) (a b : Array Value) (m : Mode) : (store p (.func f a b) m).run P w = stored P w p (.func f a b) m := run_store P w p _ m rfl
attribute [local go_sem] run_store_fn
def LgstR (S : List UInt8) (w : World) (e : Ending) (w' : World) : Prop := e = .returned (.tuple #[.string (bs S), .int .i64 0]) ∧ Below w.heap.size w w'
set_option maxRecDepth 100000 in
theorem longest_err (f n : Int) (hE : fmtE f n ≠ 0) (w : World) (hW : LaidW w) : Calls Tryd.prog 23 #[.int .i64 f, .int .i64 n] w fun e w' => e = .returned (.tuple #[.string ⟨#[]⟩, .int .i64 (fmtE f n)]) ∧ Below w.heap.size w w' := by
  have cF := fun w' (h : LaidW w') => format_any f n w' h
  unfold FmtR at cF
  generalize fmtS f n = S at cF
  generalize fmtE f n = E at cF hE ⊢
  have q' : (E != 0) = true := by simpa using hE
  clear hE
  go_enter Tryd.func23, Tryd.ntmps23
  go_wp2_with (go_at_call 14; (with_reducible refine (cF _ hW).mono ?_); rintro e w1 ⟨rfl, hb1⟩)
  go_ret2
  exact ⟨rfl, hb1.alloc hb1.size _⟩
theorem num_eq (f : Int) (m : Nat) (hk : Nu9.kindOk f) (h1 : least f ≤ (m : Int)) (h2 : (m : Int) ≤ most f) : fmtS f m = num f m ∧ fmtE f m = 0 := by
  unfold fmtS fmtE
  rw [if_pos ⟨hk, h1, h2⟩, if_pos hk, if_pos ⟨h1, h2⟩]
  exact ⟨rfl, rfl⟩
section
variable (f : Int) (g L M m : Nat) (hk : Nu9.kindOk f) (hL : least f = (L : Int)) (hM : most f = (M : Int)) (hwf : (Lit.int .i64 f).wf = true) (hd : DW.atKey (.int .i64 f) (.lit (.int .i64 (-1))) = dF g) (hg : WrR g f) (eg : ∀ args w, (callFunc g args).run Tryd.prog w = .ok (.enter g args) w)
  (h1 : L ≤ m) (h2 : m ≤ M) (hm : m ≤ 2000) (w : World) (hW : LaidW w)
  include hk hL hM hwf hd hg eg h1 h2 hm hW
set_option maxRecDepth 100000 in
set_option maxHeartbeats 4000000 in
theorem longest_rom (h45 : f = 4 ∨ f = 5) : Calls Tryd.prog 23 #[.int .i64 f, .int .i64 (m : Nat)] w (LgstR (lg f L (m + 1 - L)) w) := by
  have hq := num_eq f m hk (by omega) (by omega)
  have cF := fun w' (h : LaidW w') => format_any f m w' h
  unfold FmtR at cF
  rw [hq.1, hq.2] at cF
  have cR : ∀ w', Calls Tryd.prog 12 #[.int .i64 f] w' (fun e w'' => e = .returned (.tuple #[.int .i64 (L : Int), .int .i64 (M : Int), .int .i64 0]) ∧ w' = w'') := fun w' => by
    have := range_any f w'
    unfold RngR rngV at this
    rw [if_pos hk, hL, hM] at this
    exact this
  have cL := fun w' (h : LaidW w') => longestOf_any g f hg eg hk L m (by omega) (by omega) hm h1 w' h
  have HD := Lib.hid hd
  generalize lg f L (m + 1 - L) = R at cL ⊢
  generalize num f m = T at cF
  clear hq hL hM hd hg eg h1 h2 hk
  rcases h45 with rfl | rfl
  all_goals
    go_enter Tryd.func23, Tryd.ntmps23
    go_wp2_with fail
    refine (cF _ hW).mono ?_
    rintro e w1 ⟨rfl, hb1⟩
    have hW1 := hW.below hb1
    go_wp2_with fail
    refine (cR _).mono ?_
    rintro e w' ⟨rfl, rfl⟩
    obtain ⟨W0, hW0⟩ : ∃ W0, W0 = (w1.alloc (.cells #[.string (bs T)] 9)).alloc (.cells #[.int .i64 (L : Int)] 3) := ⟨_, rfl⟩
    have b0 : Below w1.heap.size w1 W0 := by rw [hW0]; exact ((Below.refl _ w1).alloc (Nat.le_refl _) _).alloc (by simp) _
    have z0 : W0.heap.size = w1.heap.size + 2 := by rw [hW0]; simp
    have c8 : W0.cell? ⟨w1.heap.size + 1, 0, none⟩ = some (.int .i64 (L : Int)) := by
      rw [hW0]
      have := World.cell?_alloc_mark (w1.alloc (.cells #[.string (bs T)] 9)) #[.int .i64 (L : Int)] 3 (0, 0) 0
      rw [World.size_alloc] at this
      exact this
    have HW0 := Lib.hid hW0
    clear hW0
    go_wp2_with fail
    rw [← HW0.out]
    refine (writers_any _).mono ?_
    rintro e w2 ⟨b, n, rfl, ho, hb2⟩
    have hl := look_w ho hwf HD.out
    have c8' := (hb2.cell (p := ⟨w1.heap.size + 1, 0, none⟩) (by rw [z0]; exact Nat.lt_succ_self _)).trans c8
    have hW2 := (hW1.below b0).below hb2
    clear ho c8
    have hW3 := hW2.below ((Below.refl _ w2).alloc (Nat.le_refl _) (.cells #[.func (.func g) #[] #[]] 43))
    have hB3 := (chain (chain hb1 b0) hb2).alloc (by have := (chain (chain hb1 b0) hb2).size; omega) (.cells #[.func (.func g) #[] #[]] 43)
    have hlt : w1.heap.size + 1 < w2.heap.size := by have := hb2.size; omega
    go_wp2_with (go_at_call 32; (with_reducible refine (cL _ hW3).mono ?_); rintro e w4 ⟨rfl, hb4⟩)
    go_ret2
    exact ⟨rfl, hB3.trans (hb4.mono hB3.size)⟩
set_option maxRecDepth 100000 in
set_option maxHeartbeats 4000000 in
theorem longest_bin (hf : f = 1 ∨ f = 2 ∨ f = 3 ∨ f = 6 ∨ f = 7) (hpos : 0 < (num f m).length) : Calls Tryd.prog 23 #[.int .i64 f, .int .i64 (m : Nat)] w (LgstR (lg f L (m + 1 - L)) w) := by
  have hq := num_eq f m hk (by omega) (by omega)
  have cF := fun w' (h : LaidW w') => format_any f m w' h
  unfold FmtR at cF
  rw [hq.1, hq.2] at cF
  have cR : ∀ w', Calls Tryd.prog 12 #[.int .i64 f] w' (fun e w'' => e = .returned (.tuple #[.int .i64 (L : Int), .int .i64 (M : Int), .int .i64 0]) ∧ w' = w'') := fun w' => by
    have := range_any f w'
    unfold RngR rngV at this
    rw [if_pos hk, hL, hM] at this
    exact this
  have b4 : (f == 4) = false := neB (by omega)
  have b5 : (f == 5) = false := neB (by omega)
  have HD := Lib.hid hd
  have HFIRST := Lib.hid (show ∀ i, i ≤ m - L → (∀ a, a < i → (decide ((num f (L + a)).length = (num f m).length)) = false) → (i < m - L → decide ((num f (L + i)).length = (num f m).length) = true) → num f (L + i) = lg f L (m + 1 - L) from fun i hi h1' h2' => by
    have hlen : (num f (L + i)).length = (num f m).length := by
      by_cases hlt : i < m - L
      · exact of_decide_eq_true (h2' hlt)
      · rw [show L + i = m by omega]
    have := lg_first f L (m - L) i (num f m).length hi hpos (fun j hj => by
      have a1 := num_mono hf (show L + j ≤ m by omega)
      have a2 := of_decide_eq_false (h1' j hj)
      omega) hlen (fun j hj => num_mono hf (by omega))
    rw [show m + 1 - L = m - L + 1 by omega]
    exact this.symm)
  have HMONO := Lib.hid (show ∀ a b, a ≤ b → b < m - L → decide ((num f (L + a)).length = (num f m).length) = true → decide ((num f (L + b)).length = (num f m).length) = true from fun a b hab hb h => by
    have h := of_decide_eq_true h
    have a1 := num_mono hf (show L + a ≤ L + b by omega)
    have a2 := num_mono hf (show L + b ≤ m by omega)
    exact decide_eq_true (by omega))
  have HG := Lib.hid hg
  have HCL := Lib.hid (fun (bw bl bt i : Nat) (W : World) (hW' : LaidW W) (c1 : W.cell? ⟨bw, 0, none⟩ = some (.func (.func g) #[] #[])) (c2 : W.cell? ⟨bl, 0, none⟩ = some (.int .i64 (L : Nat))) (c3 : W.cell? ⟨bt, 0, none⟩ = some (.string (bs (num f m)))) (hi : i < m - L) => closure_any g f hg eg bw bl bt L i (num f m) W hW' c1 c2 c3 (by omega) (by omega) (by omega))
  have HWR := Lib.hid (fun (i : Nat) (W : World) (hi : i ≤ m - L) (h : LaidW W) => hg (L + i) W (by omega) (by omega) h)
  have hml : (m : Int) - (L : Int) = ((m - L : Nat) : Int) := by omega
  have hLs : (L : Int) ≤ 2000 := by omega
  have e34 : ∀ args w, (callFunc 34 args).run Tryd.prog w = .ok (.enter 34 args) w := enters_of Tryd.func34 (by kernel_rfl) rfl
  have HML := Lib.hid hml
  clear hq hL hM hd hg hml hf hpos hk
  generalize lg f L (m + 1 - L) = R at HFIRST ⊢
  go_enter Tryd.func23, Tryd.ntmps23
  go_wp2_with fail
  refine (cF _ hW).mono ?_
  rintro e w1 ⟨rfl, hb1⟩
  have hW1 := hW.below hb1
  go_wp2_with fail
  refine (cR _).mono ?_
  rintro e w' ⟨rfl, rfl⟩
  obtain ⟨W0, hW0⟩ : ∃ W0, W0 = (w1.alloc (.cells #[.string (bs (num f m))] 9)).alloc (.cells #[.int .i64 (L : Int)] 3) := ⟨_, rfl⟩
  have b0 : Below w1.heap.size w1 W0 := by rw [hW0]; exact ((Below.refl _ w1).alloc (Nat.le_refl _) _).alloc (by simp) _
  have z0 : W0.heap.size = w1.heap.size + 2 := by rw [hW0]; simp
  have c8 : W0.cell? ⟨w1.heap.size + 1, 0, none⟩ = some (.int .i64 (L : Int)) := by
    rw [hW0]
    have := World.cell?_alloc_mark (w1.alloc (.cells #[.string (bs (num f m))] 9)) #[.int .i64 (L : Int)] 3 (0, 0) 0
    rw [World.size_alloc] at this
    exact this
  have c6 : W0.cell? ⟨w1.heap.size, 0, none⟩ = some (.string (bs (num f m))) := by
    rw [hW0]
    have h1 := World.cell?_alloc_mark w1 #[.string (bs (num f m))] 9 (0, 0) 0
    exact (((Below.refl _ (w1.alloc (.cells #[.string (bs (num f m))] 9))).alloc (Nat.le_refl _) (.cells #[.int .i64 (L : Int)] 3)).cell (p := ⟨w1.heap.size, 0, none⟩) (by simp)).trans h1
  have HW0 := Lib.hid hW0
  clear hW0
  go_wp2_with fail
  rw [← HW0.out]
  refine (writers_any _).mono ?_
  rintro e w2 ⟨b, n, rfl, ho, hb2⟩
  have hl := look_w ho hwf HD.out
  have hs2 := hb2.size
  obtain ⟨W3, hW3⟩ : ∃ W3, W3 = w2.alloc (.cells #[.func (.func g) #[] #[]] 43) := ⟨_, rfl⟩
  have b3 : Below w2.heap.size w2 W3 := by rw [hW3]; exact (Below.refl _ w2).alloc (Nat.le_refl _) _
  have z3 : W3.heap.size = w2.heap.size + 1 := by rw [hW3]; simp
  have c8' := (b3.cell (p := ⟨w1.heap.size + 1, 0, none⟩) (show w1.heap.size + 1 < w2.heap.size by omega)).trans ((hb2.cell (p := ⟨w1.heap.size + 1, 0, none⟩) (show w1.heap.size + 1 < W0.heap.size by omega)).trans c8)
  have c6' := (b3.cell (p := ⟨w1.heap.size, 0, none⟩) (show w1.heap.size < w2.heap.size by omega)).trans ((hb2.cell (p := ⟨w1.heap.size, 0, none⟩) (show w1.heap.size < W0.heap.size by omega)).trans c6)
  have c11' : W3.cell? ⟨w2.heap.size, 0, none⟩ = some (.func (.func g) #[] #[]) := by rw [hW3]; exact World.cell?_alloc_mark w2 #[.func (.func g) #[] #[]] 43 (0, 0) 0
  have hWW3 := ((hW1.below b0).below hb2).below b3
  have c82 := (hb2.cell (p := ⟨w1.heap.size + 1, 0, none⟩) (show w1.heap.size + 1 < W0.heap.size by omega)).trans c8
  have hB3 : Below w.heap.size w W3 := chain (chain (chain hb1 b0) hb2) b3
  have hlt1 : w1.heap.size + 1 < w2.heap.size := by omega
  have q11 : w2.heap.size < W3.heap.size := by omega
  have q8 : w1.heap.size + 1 < W3.heap.size := by omega
  have q6 : w1.heap.size < W3.heap.size := by omega
  have HW3 := Lib.hid hW3
  clear ho c8 c6 hW3
  have HC8 := Lib.hid c8'
  have HC6 := Lib.hid c6'
  have HC11 := Lib.hid c11'
  clear c8' c6' c11'
  go_wp2_with fail
  clear c82 hl
  rw [← HW3.out, HML.out]
  refine (search_any 34 #[.pointer (some ⟨w2.heap.size, 0, none⟩), .pointer (some ⟨w1.heap.size + 1, 0, none⟩), .pointer (some ⟨w1.heap.size, 0, none⟩)] (m - L) (by omega) (fun i => decide ((num f (L + i)).length = (num f m).length)) W3 e34 (fun W i hbW hi => HCL.out _ _ _ i W (hWW3.below hbW) ((hbW.cell (p := ⟨w2.heap.size, 0, none⟩) q11).trans HC11.out) ((hbW.cell (p := ⟨w1.heap.size + 1, 0, none⟩) q8).trans HC8.out) ((hbW.cell (p := ⟨w1.heap.size, 0, none⟩) q6).trans HC6.out) hi) HMONO.out).mono ?_
  rintro e w4 ⟨i, rfl, hi1, hi2, hi3, hb4⟩
  have HR := Lib.hid (HFIRST.out i hi1 hi2 hi3)
  have k8 := (hb4.cell (p := ⟨w1.heap.size + 1, 0, none⟩) q8).trans HC8.out
  have k11 := (hb4.cell (p := ⟨w2.heap.size, 0, none⟩) q11).trans HC11.out
  have cW := HWR.out i w4 hi1 (hWW3.below hb4)
  rw [HR.out, show ((L + i : Nat) : Int) = (L : Int) + (i : Int) by omega] at cW
  unfold StrB at cW
  have hik : (i : Int) ≤ 2000 := by omega
  clear hi1 hi2 hi3 HR
  go_wp2_with (go_at_fn g; refine cW.mono ?_; rintro e w5 ⟨rfl, hb5⟩)
  go_ret2
  exact ⟨rfl, chain (chain hB3 hb4) hb5⟩
end
set_option maxRecDepth 100000 in
theorem longest_ok (f : Int) (m : Nat) (hk : Nu9.kindOk f) (h1 : least f ≤ (m : Int)) (h2 : (m : Int) ≤ most f) (hm : m ≤ 2000) (w : World) (hW : LaidW w) : Calls Tryd.prog 23 #[.int .i64 f, .int .i64 (m : Nat)] w (LgstR (lg f (least f).toNat (m + 1 - (least f).toNat)) w) := by
  have hpos : f ≠ 7 → 0 < (num f m).length := fun h7 => by
    have := (fmt_len f m h7 (num_eq f m hk h1 h2).2).1
    rwa [(num_eq f m hk h1 h2).1] at this
  have hk' : 1 ≤ f ∧ f ≤ 7 := hk
  rcases (show f = 1 ∨ f = 2 ∨ f = 3 ∨ f = 4 ∨ f = 5 ∨ f = 6 ∨ f = 7 by omega) with rfl | rfl | rfl | rfl | rfl | rfl | rfl
  · exact longest_bin 1 35 0 999999 m hk rfl rfl (by decide) rfl wr1 (enters_of Tryd.func35 (by kernel_rfl) rfl) (by rw [show least 1 = 0 from rfl] at h1; omega) (by rw [show most 1 = 999999 from rfl] at h2; omega) hm w hW (by decide) (hpos (by decide))
  · exact longest_bin 2 36 1 999999 m hk rfl rfl (by decide) rfl wr2 (enters_of Tryd.func36 (by kernel_rfl) rfl) (by rw [show least 2 = 1 from rfl] at h1; omega) (by rw [show most 2 = 999999 from rfl] at h2; omega) hm w hW (by decide) (hpos (by decide))
  · exact longest_bin 3 37 1 999999 m hk rfl rfl (by decide) rfl wr3 (enters_of Tryd.func37 (by kernel_rfl) rfl) (by rw [show least 3 = 1 from rfl] at h1; omega) (by rw [show most 3 = 999999 from rfl] at h2; omega) hm w hW (by decide) (hpos (by decide))
  · exact longest_rom 4 39 1 3999 m hk rfl rfl (by decide) rfl wr4 (enters_of Tryd.func39 (by kernel_rfl) rfl) (by rw [show least 4 = 1 from rfl] at h1; omega) (by rw [show most 4 = 3999 from rfl] at h2; omega) hm w hW (by decide)
  · exact longest_rom 5 40 1 3999 m hk rfl rfl (by decide) rfl wr5 (enters_of Tryd.func40 (by kernel_rfl) rfl) (by rw [show least 5 = 1 from rfl] at h1; omega) (by rw [show most 5 = 3999 from rfl] at h2; omega) hm w hW (by decide)
  · exact longest_bin 6 41 1 999999 m hk rfl rfl (by decide) rfl wr6 (enters_of Tryd.func41 (by kernel_rfl) rfl) (by rw [show least 6 = 1 from rfl] at h1; omega) (by rw [show most 6 = 999999 from rfl] at h2; omega) hm w hW (by decide) (hpos (by decide))
  · exact longest_bin 7 43 1 999999 m hk rfl rfl (by decide) rfl wr7 (enters_of Tryd.func43 (by kernel_rfl) rfl) (by rw [show least 7 = 1 from rfl] at h1; omega) (by rw [show most 7 = 999999 from rfl] at h2; omega) hm w hW (by decide) (by show 0 < 3; decide)
end Go.Proofs.YteahingapnijcaaDoor
