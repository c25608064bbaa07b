/- Layer 4: the law Restores. -/
import Derived.Test.YtonplacldckbgaaKa
namespace Go.Proofs.Ytonplacldckbgaa
open Go.RowKit Go.Shelf Go.Lib Pt

theorem sizeN {N : Nat} {w W : World} (hN : w.heap.size = N) (h : Below N w W) : N ≤ W.heap.size := by have := h.size; omega
theorem restore_bytes (a x : List UInt8) (f g : Nat) (h1 : f ≤ g) (h2 : g ≤ a.length) : (a.take f ++ x ++ a.drop g).take f ++ (a.take g).drop f ++ (a.take f ++ x ++ a.drop g).drop (f + x.length) = a := by
  have e1 : (a.take f).length = f := by rw [List.length_take]; omega
  have e2 : (a.take f ++ x).length = f + x.length := by rw [List.length_append, e1]
  rw [List.append_assoc (a.take f) x, List.take_append_of_le_length (by omega), List.take_of_length_le (by omega), ← List.append_assoc, ← e2, List.drop_left]
  have e3 : a.take f ++ (a.take g).drop f = a.take g := by
    have := List.take_append_drop f (a.take g)
    rw [List.take_take, show min f g = f by omega] at this
    exact this
  rw [e3, List.take_append_drop]
set_option maxRecDepth 100000 in
set_option maxHeartbeats 16000000 in
theorem law_restores (s : ByteArray) (hs : s.size ≤ maxLen) (A : Option Addr) (n c : Nat) (ops : List Op4) (w : World) (h : OpsIn w A n c ops) (k : Nat) (x y : Int) (sx : List UInt8) (hq : k < 256 ∧ I64 x ∧ I64 y ∧ sx.length ≤ maxLen) : Calls Try.prog 9 #[.string s, .slice A n c, .agg #[.int .u8 k, .int .i64 x, .int .i64 y, .string (bs sx)]] w (BoolB true w) := by
  obtain ⟨l, rfl, hl⟩ := str_in s hs
  obtain ⟨hq1, hq2, hq3, hq4⟩ := hq
  unfold maxLen at hq4
  have H := Go.Lib.hid h
  have hb0 : Below w.heap.size w (w.alloc (.cells #[.int .u8 (k : Nat), .int .i64 x, .int .i64 y, .string (bs sx)] 57)) := (Below.refl _ w).alloc (Nat.le_refl _) _
  have oop := ObjAt.new w #[.int .u8 (k : Nat), .int .i64 x, .int .i64 y, .string (bs sx)] 57
  have hzs := bs_size sx
  have hex := ext_min sx
  clear h hs
  go_enter Try.func9, Try.ntmps9
  go_wp2_with fail
  (with_reducible refine (known_any _).mono ?_)
  rintro e w1 ⟨rfl, k1⟩
  have hk1 : Below w.heap.size w w1 := hb0.trans (k1.mono (by rw [World.size_alloc]; omega))
  have oop1 := ObjAt.below oop k1
  clear oop hb0 k1
  go_wp2_with fail
  (with_reducible refine (cutS_any l w1 hl).mono ?_)
  rintro e w1 ⟨rfl, rfl⟩
  go_wp2_with fail
  (with_reducible refine (run_in l H.out hk1).mono ?_)
  intro e w3 h3
  obtain ⟨g, T, ed, rfl, t3, ok, pc, he, hl3, hg, k3⟩ := h3
  have oop3 := ObjAt.below oop1 k3
  have hgN : g ≠ w.heap.size := by have := oop1.lt; omega
  have hgw : w.heap.size ≤ g := Nat.le_trans hk1.size hg
  have HB3 : Hid (Below w.heap.size w w3) := Go.Lib.hid (chain hk1 k3)
  have hf : Fine T := fine_ok ok (by omega)
  have hz := bs_size T.bytes
  have OK := Go.Lib.hid ok
  clear oop1 hk1 k3 H ok hg
  have z0 := oop3.get (k := 0) (v := .int .u8 (k : Nat)) rfl
  have z1 := oop3.get (k := 1) (v := .int .i64 x) rfl
  have z2 := oop3.get (k := 2) (v := .int .i64 y) rfl
  have z3 := oop3.get (k := 3) (v := .string (bs sx)) rfl
  have zf := oop3.frozen 3
  have hNl := oop3.lt
  generalize hN : w.heap.size = N at *
  have HB4 : Hid (Below N w (w3.setCell ⟨N, 3, none⟩ (.string (bs (sx.take 200))))) := Go.Lib.hid (HB3.out.setCell (Nat.le_refl _) _)
  have HT4 : Hid (TAt (w3.setCell ⟨N, 3, none⟩ (.string (bs (sx.take 200)))) g T) := Go.Lib.hid (by
    obtain ⟨A0, a0, a1, a2, a3, a4⟩ := t3
    exact ⟨A0, (World.cell?_setCell_far _ _ _ _ (fun e => hgN e.symm)).trans a0, (World.cell?_setCell_far _ _ _ _ (fun e => hgN e.symm)).trans a1, by rw [World.frozen?_setCell]; exact a2, by rw [World.size_setCell]; exact a3, NAt.setCell z0 (by simp) a4⟩)
  have y1 : (w3.setCell ⟨N, 3, none⟩ (.string (bs (sx.take 200)))).cell? ⟨N, 1, none⟩ = some (.int .i64 x) := by simp [go_sem, z1]
  have y2 : (w3.setCell ⟨N, 3, none⟩ (.string (bs (sx.take 200)))).cell? ⟨N, 2, none⟩ = some (.int .i64 y) := by simp [go_sem, z2]
  have y3 : (w3.setCell ⟨N, 3, none⟩ (.string (bs (sx.take 200)))).cell? ⟨N, 3, none⟩ = some (.string (bs (sx.take 200))) := by simp [go_sem, z3]
  have hNl4 : N < (w3.setCell ⟨N, 3, none⟩ (.string (bs (sx.take 200)))).heap.size := by rw [World.size_setCell]; exact hNl
  go_wp2_with fail
  clear t3 z0 z1 z2 z3 zf hNl HB3 oop3
  generalize w3.setCell ⟨N, 3, none⟩ (.string (bs (sx.take 200))) = W4 at *
  have hxl : (sx.take 200).length ≤ 200 := by rw [List.length_take]; omega
  clear hzs hex hq4
  generalize sx.take 200 = X at *
  obtain ⟨fx, hfx⟩ : ∃ fx, nearI x T.bytes.length = fx := ⟨_, rfl⟩
  obtain ⟨tx, htx⟩ : ∃ tx, nearI y T.bytes.length = tx := ⟨_, rfl⟩
  have cF : ∀ w', Calls Try.prog 16 #[.int .i64 x, .int .i64 (T.bytes.length : Nat)] w' (fun e w'' => e = .returned (.int .i64 fx) ∧ w'' = w') := fun w' => by rw [← hfx]; exact near_any _ _ w' hq2 (by omega)
  have cT : ∀ w', Calls Try.prog 16 #[.int .i64 y, .int .i64 (T.bytes.length : Nat)] w' (fun e w'' => e = .returned (.int .i64 tx) ∧ w'' = w') := fun w' => by rw [← htx]; exact near_any _ _ w' hq3 (by omega)
  clear hfx htx hq2 hq3
  go_region_held3 (fun w' => w'.cell? ⟨N, 1, none⟩ = some (.int .i64 x) ∧ w'.cell? ⟨N, 2, none⟩ = some (.int .i64 y)) (first | go_keep | exact ⟨y1, y2⟩)
    (first
      | (go_at_call 16; with_reducible refine (cF _).mono ?_; rintro e w3 ⟨rfl, rfl⟩)
      | (go_at_call 16; with_reducible refine (cT _).mono ?_; rintro e w4 ⟨rfl, rfl⟩))
  rename_i hHeld
  have HB5 : Hid (Below N w W4.drew) := Go.Lib.hid HB4.out.drew
  have HT5 : Hid (TAt W4.drew g T) := Go.Lib.hid HT4.out.drew
  have y3 : W4.drew.cell? ⟨N, 3, none⟩ = some (.string (bs X)) := y3
  have hNl5 : N < W4.drew.heap.size := hNl4
  clear hHeld HB4 HT4 y1 y2 hNl4 cF cT
  generalize W4.drew = W5 at HB5 HT5 y3 hNl5 ⊢
  have cS := slice_any fx tx W5 HT5.out hf
  unfold SliceR at cS
  by_cases hc : chk fx tx T.bytes.length = 0
  · rw [if_pos hc, hc] at cS
    have hb : 0 ≤ fx ∧ fx ≤ tx ∧ tx ≤ (T.bytes.length : Nat) := by unfold chk at hc; split at hc <;> omega
    obtain ⟨f, rfl⟩ : ∃ f : Nat, fx = (f : Int) := ⟨fx.toNat, by omega⟩
    obtain ⟨t, rfl⟩ : ∃ t : Nat, tx = (t : Int) := ⟨tx.toNat, by omega⟩
    obtain ⟨hb0, hb1, hb2⟩ := hb
    obtain ⟨T1, cd, hT1, hcd, hEB, ok1, pc1, len1, _⟩ := ed_facts (f : Int) (t : Int) X OK.out
    have hcd0 : codR (f : Int) (t : Int) T.bytes.length X.length = 0 := by unfold codR; rw [if_neg (by omega), if_neg (by omega)]
    rw [hcd0] at hcd
    subst hcd
    have hb1e : T1.bytes = T.bytes.take f ++ X ++ T.bytes.drop t := by rw [← hEB]; unfold edB; rw [hcd0]; rfl
    have hlo : (sl T.bytes (f : Int) (t : Int)).length ≤ 12300 := Nat.le_trans (sl_len _ _ _) hl3
    have hsl : sl T.bytes (f : Int) (t : Int) = (T.bytes.take t).drop f := rfl
    have hl1 : T1.bytes.length = f + X.length + (T.bytes.length - t) := by rw [hb1e, List.length_append, List.length_append, List.length_take, List.length_drop]; omega
    have hsl2 : (sl T.bytes (f : Int) (t : Int)).length = t - f := by rw [hsl, List.length_drop, List.length_take]; omega
    generalize hOld : sl T.bytes (f : Int) (t : Int) = old at *
    have hcd1 : codR (f : Int) ((f : Int) + (X.length : Nat)) T1.bytes.length old.length = 0 := by unfold codR; rw [if_neg (by omega), if_neg (by omega)]
    obtain ⟨T2, cd2, hT2, hcd2, hEB2, ok2, pc2, len2, _⟩ := ed_facts (f : Int) ((f : Int) + (X.length : Nat)) old ok1
    rw [hcd1] at hcd2
    subst hcd2
    have hb2e : T2.bytes = T.bytes := by
      rw [← hEB2]
      unfold edB
      rw [hcd1, if_pos rfl, show (f : Int).toNat = f by omega, show ((f : Int) + (X.length : Nat)).toNat = f + X.length by omega, hb1e, hsl]
      exact restore_bytes T.bytes X f t (by omega) (by omega)
    have f2 : Fine T2 := fine_ok ok2 (by rw [hb2e]; omega)
    have hz2 := bs_size X
    have cE := fun w' (h' : TAt w' g T) => rep_any (f : Int) (t : Int) X w' h' (by omega) (by omega) (by omega)
    unfold Edit at cE
    rw [hcd0, ← hT1] at cE
    have cE2 := fun w' (h' : TAt w' g T1) => rep_any (f : Int) ((f : Int) + (X.length : Nat)) old w' h' (by omega) (by simp at pc1; omega) (by omega)
    unfold Edit at cE2
    rw [hcd1, ← hT2] at cE2
    have CE := Go.Lib.hid cE
    have CE2 := Go.Lib.hid cE2
    have HBY := Go.Lib.hid hb2e
    clear hc hT1 hEB hb1e hsl hl1 hsl2 hOld hcd0 hcd1 hT2 hEB2 cE cE2 ok1 ok2 pc1 pc2 len1 len2 hb2e
    go_wp2_with fail
    (with_reducible refine cS.mono ?_)
    rintro e w6 ⟨rfl, k6⟩
    have HB6 : Hid (Below N w w6) := Go.Lib.hid (HB5.out.trans (k6.mono (sizeN hN HB5.out)))
    have HT6 := Go.Lib.hid (HT5.out.below k6)
    have y6 := (k6.cell (p := ⟨N, 3, none⟩) hNl5).trans y3
    have hNl6 : N < w6.heap.size := Nat.lt_of_lt_of_le hNl5 k6.size
    clear cS k6 HB5 HT5 y3 hNl5
    go_wp2_with fail
    (with_reducible refine (CE.out w6 HT6.out).mono ?_)
    rintro e w7 ⟨rfl, t7, k7⟩
    have HB7 : Hid (Below N w w7) := Go.Lib.hid (HB6.out.trans (k7.below hgw (sizeN hN HB6.out)))
    have HT7 := Go.Lib.hid t7
    have y7 := (k7.cell (p := ⟨N, 3, none⟩) hNl6 (fun e => hgN e.symm)).trans y6
    clear t7 k7 HB6 HT6 y6 hNl6 CE
    go_wp2_with fail
    (with_reducible refine (CE2.out w7 HT7.out).mono ?_)
    rintro e w8 ⟨rfl, t8, k8⟩
    have HB8 : Hid (Below N w w8) := Go.Lib.hid (HB7.out.trans (k8.below hgw (sizeN hN HB7.out)))
    have HT8 := Go.Lib.hid t8
    clear t8 k8 HB7 HT7 y7 CE2
    have cZ := str_any w8 HT8.out f2
    unfold TextR at cZ
    rw [HBY.out] at cZ
    go_wp2_with fail
    (with_reducible refine cZ.mono ?_)
    rintro e w9 ⟨rfl, k9⟩
    have HB9 : Below N w w9 := HB8.out.trans (k9.mono (sizeN hN HB8.out))
    clear cZ k9 HB8 HT8 HBY
    go_wp2
    go_ret
    exact ⟨rfl, by rw [hN]; exact HB9⟩
  · have hc2 : chk fx tx T.bytes.length = 2 := by unfold chk at hc ⊢; split at hc <;> simp_all
    rw [if_neg hc, hc2] at cS
    have hcd : codR fx tx T.bytes.length X.length = 2 := by unfold chk at hc2; unfold codR; split at hc2 <;> simp_all
    have hE : edT T fx tx X = T := by unfold edT; rw [if_pos (.inl (by rw [hcd]; decide))]
    have cE := fun w' (h' : TAt w' g T) => rep_any fx tx X w' h' (by omega) (by omega) (by omega)
    unfold Edit at cE
    rw [hcd, hE] at cE
    have CE := Go.Lib.hid cE
    clear hc hc2 hcd hE cE
    go_wp2_with fail
    (with_reducible refine cS.mono ?_)
    rintro e w6 ⟨rfl, k6⟩
    have HB6 : Hid (Below N w w6) := Go.Lib.hid (HB5.out.trans (k6.mono (sizeN hN HB5.out)))
    have HT6 := Go.Lib.hid (HT5.out.below k6)
    have y6 := (k6.cell (p := ⟨N, 3, none⟩) hNl5).trans y3
    clear cS k6 HB5 HT5 y3
    go_wp2_with fail
    (with_reducible refine (CE.out w6 HT6.out).mono ?_)
    rintro e w7 ⟨rfl, t7, k7⟩
    have HB7 : Hid (Below N w w7) := Go.Lib.hid (HB6.out.trans (k7.below hgw (sizeN hN HB6.out)))
    have HT7 := Go.Lib.hid t7
    clear t7 k7 HB6 HT6 y6 CE
    have cZ := str_any w7 HT7.out hf
    unfold TextR at cZ
    go_wp2_with fail
    (with_reducible refine cZ.mono ?_)
    rintro e w8 ⟨rfl, k8⟩
    have HB8 : Below N w w8 := HB7.out.trans (k8.mono (sizeN hN HB7.out))
    clear cZ k8 HB7 HT7
    go_wp2
    go_ret
    exact ⟨rfl, by rw [hN]; exact HB8⟩
end Go.Proofs.Ytonplacldckbgaa
