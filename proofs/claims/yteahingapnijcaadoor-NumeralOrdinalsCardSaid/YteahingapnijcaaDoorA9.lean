/- Layer 9: what the writers and readers do: the closures. -/
import Derived.Test.YteahingapnijcaaDoorA8
namespace Go.Proofs.YteahingapnijcaaDoor
open Go.RowKit Go.Lib Go.Shelf Nu9

/-- The variables that the listed initialisers lay. -/
def LaidW (w : World) : Prop := SymsAt w ∧ CaseVar 1 caseA w ∧ Lib.Utf8Tabs 3 4 w
theorem LaidW.below {w w' : World} (h : LaidW w) (hb : Below w.heap.size w w') : LaidW w' := ⟨h.1.below hb, CaseVar_below h.2.1 hb, Utf8Tabs_below h.2.2 hb⟩
theorem upperB_up (c : UInt8) : upperB c = up c := by
  have : ∀ i : Fin 256, upperB (UInt8.ofNat i.1) = up (UInt8.ofNat i.1) := by decide +kernel
  have h2 := this ⟨c.toNat, c.toNat_lt⟩
  rw [UInt8.ofNat_toNat] at h2
  exact h2
theorem lowerB_lo (c : UInt8) : lowerB c = lo c := by
  have : ∀ i : Fin 256, lowerB (UInt8.ofNat i.1) = lo (UInt8.ofNat i.1) := by decide +kernel
  have h2 := this ⟨c.toNat, c.toNat_lt⟩
  rw [UInt8.ofNat_toNat] at h2
  exact h2
theorem ltrs_ascii {l : List UInt8} (h : ltrs l) : ∀ b ∈ l, b.toNat < 128 := fun b hb => by have := h b hb; omega
theorem up_ascii {l : List UInt8} (h : ltrs l) : ∀ b ∈ l.map up, b.toNat < 128 := by
  intro b hb
  obtain ⟨c, hc, rfl⟩ := List.mem_map.1 hb
  have h1 := h c hc
  have := up_yes h1.1 h1.2
  omega
theorem upperD_ltrs {l : List UInt8} (h : ltrs l) : toUpperD l = l.map up := by
  rw [toUpperD_ascii l (ltrs_ascii h)]
  exact List.map_congr_left fun c _ => upperB_up c
theorem lowerD_up {l : List UInt8} (h : ltrs l) : toLowerD (l.map up) = l := by
  rw [toLowerD_ascii _ (up_ascii h)]
  have : toLowerA (l.map up) = (l.map up).map lo := List.map_congr_left fun c _ => lowerB_lo c
  rw [this]; exact map_lo_up h
theorem mapGo_len (f : Int → Int) : ∀ (n : Nat) (l : List UInt8), (mapGoD f n l).length ≤ 4 * n := by
  intro n
  induction n with
  | zero => intro l; simp [mapGoD]
  | succ n ih =>
    intro l
    unfold mapGoD
    split
    · simp
    · rw [List.length_append]
      have h1 := ih (l.drop (decodeL l).2)
      split
      · have h2 := (encodeRuneZ_length (f (decodeL l).1)).2
        have h3 : (encodeRune (f (decodeL l).1)).length = (encodeRuneZ (f (decodeL l).1)).length := by simp [encodeRune]
        omega
      · simp; omega
theorem lowerD_len (l : List UInt8) : (toLowerD l).length ≤ 4 * l.length := mapGo_len _ _ _
theorem toUpper_any (l : List UInt8) (h : ltrs l) (hl : l.length ≤ 1000) (w : World) (hW : LaidW w) : Calls Tryd.prog 38 #[.string (bs l)] w (StrB (l.map up) w) := by
  have := Tryd.strings_ToUpper_any (bs l) w (by rw [bs_size]; omega) hW.2.1 hW.2.2
  rw [bs_list, upperD_ltrs h] at this
  exact this
theorem toLower_any (l : List UInt8) (hl : l.length ≤ 1000) (w : World) (hW : LaidW w) : Calls Tryd.prog 47 #[.string (bs l)] w (StrB (toLowerD l) w) := by
  have := Tryd.strings_ToLower_any (bs l) w (by rw [bs_size]; omega) hW.2.1 hW.2.2
  rw [bs_list] at this
  exact this
/-- What a writer hands back. -/
theorem strB_of {l : List UInt8} {w w' : World} {e : Ending} (h : StrRet l w e w') : StrB l w e w' := h
set_option maxRecDepth 100000 in
theorem w1_any (N : Nat) (hN : N ≤ 999999) (w : World) : Calls Tryd.prog 35 #[.int .i64 (N : Int)] w (StrB (dec N) w) := decimal_any N hN w
theorem w2_any (N : Nat) (hN : N ≤ 999999) (w : World) : Calls Tryd.prog 36 #[.int .i64 (N : Int)] w (StrB (ltr N) w) := letters_any N hN w
set_option maxRecDepth 100000 in
set_option maxHeartbeats 2000000 in
theorem w3_any (N : Nat) (hN : N ≤ 999999) (w : World) (hW : LaidW w) : Calls Tryd.prog 37 #[.int .i64 (N : Int)] w (StrB ((ltr N).map up) w) := by
  have cU := fun w' (h : LaidW w') => toUpper_any (ltr N) (ltr_ltrs N) (by have := ltr_len 5 N (by omega); omega) w' h
  go_enter Tryd.func37, Tryd.ntmps37
  go_wp2_with fail
  refine (w2_any N hN _).mono ?_
  rintro e w1 ⟨rfl, hb1⟩
  have hW1 := hW.below hb1
  go_wp2_with (go_at_call 38; (with_reducible refine (cU _ hW1).mono ?_); rintro e w2 ⟨rfl, hb2⟩)
  go_ret
  exact ⟨rfl, chain hb1 hb2⟩
theorem w4_any (N : Nat) (hN : N < 4000) (w : World) (hW : LaidW w) : Calls Tryd.prog 39 #[.int .i64 (N : Int)] w (StrB (rmn N) w) := roman_any N hN w hW.1
set_option maxRecDepth 100000 in
set_option maxHeartbeats 2000000 in
theorem w5_any (N : Nat) (hN : N < 4000) (w : World) (hW : LaidW w) : Calls Tryd.prog 40 #[.int .i64 (N : Int)] w (StrB ((rmn N).map up) w) := by
  have cU := fun w' (h : LaidW w') => toUpper_any (rmn N) (rmn_ltrs N) (by have := rmn_len N hN; omega) w' h
  go_enter Tryd.func40, Tryd.ntmps40
  go_wp2_with fail
  refine (w4_any N hN _ hW).mono ?_
  rintro e w1 ⟨rfl, hb1⟩
  have hW1 := hW.below hb1
  go_wp2_with (go_at_call 38; (with_reducible refine (cU _ hW1).mono ?_); rintro e w2 ⟨rfl, hb2⟩)
  go_ret
  exact ⟨rfl, chain hb1 hb2⟩
set_option maxRecDepth 100000 in
set_option maxHeartbeats 2000000 in
theorem w6_any (N : Nat) (hN : N ≤ 999999) (w : World) : Calls Tryd.prog 41 #[.int .i64 (N : Int)] w (StrB (dec N ++ sfx N) w) := by
  have z1 : (bs (dec N)).size ≤ 6 := by rw [bs_size]; exact dec_len 5 N (by omega)
  have z2 : (bs (sfx N)).size ≤ 2 := by rw [bs_size, sfx_len]; exact Nat.le_refl _
  go_enter Tryd.func41, Tryd.ntmps41
  go_wp2_with (first | (go_at_call 35; (with_reducible refine (w1_any N hN _).mono ?_); rintro e w1 ⟨rfl, hb1⟩) | (go_at_call 42; (with_reducible refine (ending_any N hN _).mono ?_); rintro e w2 ⟨rfl, rfl⟩))
  go_ret
  unfold StrB
  rw [← bs_append]
  exact ⟨rfl, hb1⟩
set_option maxRecDepth 100000 in
theorem w7_any (z : Int) (w : World) : Calls Tryd.prog 43 #[.int .i64 z] w (StrB [226, 128, 162] w) := by
  go_enter Tryd.func43, Tryd.ntmps43
  go_wp2
  go_ret
  exact ⟨rfl, Below.refl _ _⟩
/-- What a reader hands back: a number, which is v where the string is good. -/
def NumB (good : Prop) (v : Int) (w : World) (e : Ending) (w' : World) : Prop := ∃ z : Int, e = .returned (.int .i64 z) ∧ (good → z = v) ∧ Below w.heap.size w w'
theorem r1_any (l : List UInt8) (hl : l.length ≤ 40) (w : World) : Calls Tryd.prog 44 #[.string (bs l)] w (NumB (goodD l l.length) (undec l) w) := by
  refine (fromdec_any (bs l) (by rw [bs_size]; omega) w).mono ?_
  rintro e w' ⟨z, rfl, hz, rfl⟩
  rw [bs_list, bs_size] at hz
  exact ⟨z, rfl, hz, Below.refl _ _⟩
theorem r2_any (l : List UInt8) (hl : l.length ≤ 1000) (w : World) : Calls Tryd.prog 45 #[.string (bs l)] w (NumB (goodL l l.length) (unltr l) w) := by
  refine (fromltr_any (bs l) (by rw [bs_size]; omega) w).mono ?_
  rintro e w' ⟨z, rfl, hz, rfl⟩
  rw [bs_list, bs_size] at hz
  exact ⟨z, rfl, hz, Below.refl _ _⟩
set_option maxRecDepth 100000 in
set_option maxHeartbeats 2000000 in
theorem r3_any (l : List UInt8) (hl : l.length ≤ 40) (w : World) (hW : LaidW w) : Calls Tryd.prog 46 #[.string (bs l)] w (NumB (goodL (toLowerD l) (toLowerD l).length) (unltr (toLowerD l)) w) := by
  have cU := fun w' (h : LaidW w') => toLower_any l (by omega) w' h
  have cR := fun w' => r2_any (toLowerD l) (by have := lowerD_len l; omega) w'
  generalize toLowerD l = m at cU cR ⊢
  go_enter Tryd.func46, Tryd.ntmps46
  go_wp2_with (first | (go_at_call 47; (with_reducible refine (cU _ hW).mono ?_); rintro e w1 ⟨rfl, hb1⟩) | (go_at_call 45; (with_reducible refine (cR _).mono ?_); rintro e w2 ⟨z, rfl, hz, hb2⟩))
  go_ret
  exact ⟨z, rfl, hz, chain hb1 hb2⟩
def unrm (l : List UInt8) : Nat := frL rtab 1000 l 0
theorem r4_any (l : List UInt8) (hl : l.length ≤ 900) (w : World) (hW : LaidW w) : Calls Tryd.prog 48 #[.string (bs l)] w (NumB True (unrm l) w) := by
  refine (fromroman_any (bs l) (by rw [bs_size]; exact hl) w hW.1).mono ?_
  rintro e w' ⟨rfl, hb⟩
  rw [bs_list]
  exact ⟨_, rfl, fun _ => rfl, hb⟩
set_option maxRecDepth 100000 in
set_option maxHeartbeats 2000000 in
theorem r5_any (l : List UInt8) (hl : l.length ≤ 40) (w : World) (hW : LaidW w) : Calls Tryd.prog 49 #[.string (bs l)] w (NumB True (unrm (toLowerD l)) w) := by
  have cU := fun w' (h : LaidW w') => toLower_any l (by omega) w' h
  have cR := fun w' (h : LaidW w') => r4_any (toLowerD l) (by have := lowerD_len l; omega) w' h
  generalize toLowerD l = m at cU cR ⊢
  go_enter Tryd.func49, Tryd.ntmps49
  go_wp2_with fail
  refine (cU _ hW).mono ?_
  rintro e w1 ⟨rfl, hb1⟩
  have hW1 := hW.below hb1
  go_wp2_with (go_at_call 48; (with_reducible refine (cR _ hW1).mono ?_); rintro e w2 ⟨z, rfl, hz, hb2⟩; have HZ := Lib.hid hz; clear hz)
  go_ret
  exact ⟨z, rfl, HZ.out, chain hb1 hb2⟩
theorem take_ext (s : ByteArray) (k : Nat) : (s.extract 0 k).data.toList = s.data.toList.take k := by
  rw [Go.Lib.extract_data]; simp
theorem ext_bs (l : List UInt8) (k : Nat) : (bs l).extract 0 k = bs (l.take k) := by
  apply ByteArray.ext
  apply Array.ext'
  rw [take_ext, bs_list, bs_list]
set_option maxRecDepth 100000 in
set_option maxHeartbeats 2000000 in
theorem r6_any (l : List UInt8) (hl : l.length ≤ 40) (w : World) : Calls Tryd.prog 50 #[.string (bs l)] w (NumB (goodD (l.take (l.length - 2)) (l.take (l.length - 2)).length) (undec (l.take (l.length - 2))) w) := by
  have cR := fun w' => r1_any (l.take (l.length - 2)) (by rw [List.length_take]; omega) w'
  rw [← ext_bs] at cR
  have HZ := Lib.hid (bs_size l)
  obtain ⟨n, hn⟩ : ∃ n, (bs l).size = n := ⟨_, rfl⟩
  have hnl : n ≤ 40 := by rw [← hn, bs_size]; exact hl
  have e2 : l.length = n := by rw [← hn, bs_size]
  rw [e2] at cR ⊢
  clear e2
  generalize undec (l.take (n - 2)) = V at cR ⊢
  generalize goodD (l.take (n - 2)) (l.take (n - 2)).length = G at cR ⊢
  by_cases h2 : 2 ≤ n
  · have hm : max ((n : Int) - 2) 0 = (n : Int) - 2 := by omega
    have ht : ((n : Int) - 2).toNat = n - 2 := by omega
    have HN := Lib.hid hn
    go_enter Tryd.func50, Tryd.ntmps50
    go_wp2_with (go_at_call 44; (with_reducible refine (cR _).mono ?_); rintro e w2 ⟨z, rfl, hz, hb2⟩)
    go_ret
    exact ⟨z, rfl, hz, hb2⟩
  · have hm : max ((n : Int) - 2) 0 = 0 := by omega
    have e0 : n - 2 = 0 := by omega
    rw [e0, show (bs l).extract 0 0 = ByteArray.empty by rw [ext_bs]; rfl] at cR
    clear e0
    go_enter Tryd.func50, Tryd.ntmps50
    go_wp2_with (go_at_call 44; (with_reducible refine (cR _).mono ?_); rintro e w2 ⟨z, rfl, hz, hb2⟩)
    go_ret
    exact ⟨z, rfl, hz, hb2⟩
end Go.Proofs.YteahingapnijcaaDoor
