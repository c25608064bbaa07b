/- Layer 3: the law Texts. -/
import Derived.Test.YthjooopppidcfaaDoorLv
import Derived.Test.YthjooopppidcfaaDoorNh
import Derived.Deep.RegionHeld3
namespace Go.Proofs.YthjooopppidcfaaDoor
open Go.RowKit Go.Shelf
open Gc

/-- Strings in memory. -/
def SAt (w : World) (A : Option Addr) (l : List ByteArray) : Prop := l = [] ∨ ∃ g, A = some ⟨g, 0, none⟩ ∧ g < w.heap.size ∧ ∀ k (h : k < l.length), w.cell? ⟨g, k, none⟩ = some (.string l[k])
theorem SAt.below {w w' : World} {A : Option Addr} {l : List ByteArray} (h : SAt w A l) {n : Nat} (hb : Below n w w') (hn : w.heap.size ≤ n) : SAt w' A l := by
  rcases h with h | ⟨g, h1, h2, h3⟩
  · exact .inl h
  · exact .inr ⟨g, h1, Nat.lt_of_lt_of_le h2 hb.size, fun k hk => (hb.cell (p := ⟨g, k, none⟩) (Nat.lt_of_lt_of_le h2 hn)).trans (h3 k hk)⟩
theorem sat_of {w : World} {b : Nat} {v : Value} {l : List ByteArray} (h : w.ownsRow b 9 1 v l.length (l.map .string)) : ∃ A cap, v = .slice A l.length cap ∧ SAt w A l := by
  have h2 := h
  rcases h.2 with ⟨hv, h0⟩ | ⟨g, cap, cur, hv, hb, hg, _⟩
  · have : l = [] := List.eq_nil_of_length_eq_zero h0
    subst this
    exact ⟨none, 0, hv, .inl rfl⟩
  · subst hv
    refine ⟨_, cap, rfl, .inr ⟨g, rfl, (Array.getElem?_eq_some_iff.1 hg).1, fun k hk => ?_⟩⟩
    rw [h2.cellAt k (by omega), List.getElem?_map, List.getElem?_eq_getElem hk]; rfl
/-- The strings of the tokens that are wanted. -/
def strs (P : List Nat) (p : Tok → Bool) (l : List Tok) : List ByteArray := (l.filter p).map (txtOf P)
theorem strs_len (P : List Nat) (p : Tok → Bool) (l : List Tok) : (strs P p l).length = numS p l := by unfold strs numS; rw [List.length_map]
theorem strs_row (P : List Nat) (p : Tok → Bool) (l : List Tok) : rowS P p l = (strs P p l).map .string := by unfold strs rowS; rw [List.map_map]; rfl
def TextsRet2 (l : List ByteArray) (w : World) (e : Ending) (w' : World) : Prop := ∃ A cap, e = .returned (.tuple #[.slice A l.length cap, .int .i64 0]) ∧ SAt w' A l ∧ Below w.heap.size w w'
theorem texts2 {P : List Nat} {p : Tok → Bool} {w : World} {e : Ending} {w' : World} (h : TextsRet P p w e w') : TextsRet2 (strs P p (utok P)) w e w' := by
  obtain ⟨v, rfl, ho, hb⟩ := h
  rw [strs_row, ← strs_len] at ho
  obtain ⟨A, cap, rfl, hs⟩ := sat_of ho
  exact ⟨A, cap, rfl, hs, hb⟩
theorem strs_all (P : List Nat) (l : List Tok) : strs P pAll l = l.map (txtOf P) := by
  unfold strs
  rw [show l.filter pAll = l from List.filter_eq_self.2 (fun _ _ => rfl)]
theorem strs_at (P : List Nat) (p : Tok → Bool) (l : List Tok) (k : Nat) (h : k < l.length) (hp : p (tk l k) = true) :
    numS p (l.take (k + 1)) = numS p (l.take k) + 1 ∧ (strs P p l)[numS p (l.take k)]? = some (txtOf P (tk l k)) := by
  have e1 : l.take (k + 1) = l.take k ++ [tk l k] := by rw [← tk_get l k h, List.take_succ_eq_append_getElem h]
  refine ⟨by rw [e1, (rowS_yes (P := P) _ _ hp).2], ?_⟩
  unfold strs numS
  conv => lhs; rw [tk_split l k h]
  rw [List.filter_append, List.filter_cons_of_pos hp, List.map_append, List.map_cons, List.getElem?_append_right (by rw [List.length_map, List.take_append_of_le_length (by rw [List.length_take]; omega), List.take_take, Nat.min_self]; exact Nat.le_refl _)]
  rw [List.length_map, List.take_append_of_le_length (by rw [List.length_take]; omega), List.take_take, Nat.min_self, Nat.sub_self]; rfl
theorem nums_no (p : Tok → Bool) (l : List Tok) (k : Nat) (h : k < l.length) (hp : p (tk l k) = false) : numS p (l.take (k + 1)) = numS p (l.take k) := by
  rw [← tk_get l k h] at hp
  rw [List.take_succ_eq_append_getElem h, (rowS_no (P := []) _ _ hp).2]
theorem nums_all (p : Tok → Bool) (l : List Tok) : numS p (l.take l.length) = numS p l := by rw [List.take_length]

/-- The strings put together so far. -/
def allTo (P : List Nat) (k : Nat) : List UInt8 := U.bytes (P.take (nowU (utok P) k))
theorem allTo_zero (P : List Nat) : allTo P 0 = [] := rfl
theorem allTo_succ (P : List Nat) (k : Nat) (h : k < (utok P).length) : allTo P (k + 1) = allTo P k ++ (txtOf P (tk (utok P) k)).data.toList := by
  have h1 := tok_num P k h
  have h2 := nowU_succ (utok P) k
  unfold allTo txtOf
  rw [h2, ← h1.from_]
  have hle := h1.lt
  show _ = _ ++ U.bytes (Cp.cutP P _ _)
  rw [← U.bytes_append]
  congr 1
  unfold Cp.cutP
  conv => lhs; rw [← List.take_append_drop (tk (utok P) k).2.1 (P.take (tk (utok P) k).2.2)]
  rw [List.take_take, Nat.min_eq_left (by omega)]
theorem allTo_end (P : List Nat) : allTo P (utok P).length = U.bytes P := by
  unfold allTo
  rw [now_end, List.take_length]
theorem bytes_eq {a b : ByteArray} (h : a.data.toList = b.data.toList) : a = b := by
  cases a; cases b
  congr 1
  exact Array.toList_inj.1 h
theorem bytes_add (a b : ByteArray) : (a ++ b).data.toList = a.data.toList ++ b.data.toList := by simp
theorem allTo_le (P : List Nat) (k : Nat) : (allTo P k).length ≤ (U.bytes P).length := by
  unfold allTo
  conv => rhs; rw [← List.take_append_drop (nowU (utok P) k) P, U.bytes_append, List.length_append]
  omega

set_option maxRecDepth 100000 in
set_option maxHeartbeats 4000000 in
theorem law_texts_bad {c s : ByteArray} {P : List Nat} {bad : List UInt8} (h : Str c P bad) (hb : bad ≠ []) (w : World) (hT : Tabs w)
    (cC : ∀ w, Calls Tryd.prog 15 #[.string s] w fun e w' => e = .returned (.string c) ∧ w = w') : Calls Tryd.prog 6 #[.string s] w (BoolPost true w) := by
  have HT := Go.Lib.hid hT
  clear hT
  have cA := fun w' => stexts_bad h hb w'
  have cW := fun w' => swords_bad h hb w'
  have cB := fun w' => refTokens_bad h hb w'
  unfold NoneRet at cA cW
  unfold RefNone at cB
  clear h hb
  go_enter Tryd.func6, Tryd.ntmps6
  go_wp2_with (first
    | (go_at_call 15; (with_reducible refine (cC _).mono ?_); rintro e w' ⟨rfl, rfl⟩)
    | (go_at_call 20; (with_reducible refine (cA _).mono ?_); rintro e w1 ⟨rfl, b1⟩; have B1 := Go.Lib.hid b1; clear b1)
    | (go_at_call 21; (with_reducible refine (cW _).mono ?_); rintro e w2 ⟨rfl, b2⟩; have B2 := Go.Lib.hid (B1.out.trans (b2.mono B1.out.size)); clear b2)
    | (go_at_call 17; (with_reducible refine (cB _).mono ?_); rintro e w3 ⟨rfl, b3⟩; have B3 := Go.Lib.hid (B2.out.trans (b3.mono B2.out.size)); clear b3)
    | (go_at_call 12; (with_reducible refine (known_any w3 (HT.out.below B3.out)).mono ?_); rintro e w4 ⟨rfl, b4⟩; have B4 := Go.Lib.hid (B3.out.trans (b4.mono B3.out.size)); clear b4)
    | (go_at_call 12; (with_reducible refine (known_any w4 (HT.out.below B4.out)).mono ?_); rintro e w5 ⟨rfl, b5⟩; have B5 := Go.Lib.hid (B4.out.trans (b5.mono B4.out.size)); clear b5))
  go_ret
  exact ⟨rfl, B5.out⟩

theorem bdr1 {n : Nat} {a b : World} (h : Below n a b) : Below n a b.drew := bdrew h 1
set_option maxRecDepth 100000 in
set_option maxHeartbeats 8000000 in
theorem law_texts_ok {c s : ByteArray} {P : List Nat} (h : Str c P []) (hl : P.length ≤ 240) (hc : c.size ≤ 240) (w : World) (hT : Tabs w)
    (cC : ∀ w, Calls Tryd.prog 15 #[.string s] w fun e w' => e = .returned (.string c) ∧ w = w') : Calls Tryd.prog 6 #[.string s] w (BoolPost true w) := by
  have HT := Go.Lib.hid hT
  clear hT
  have cA := fun w' hT' => (stexts_ok h (by omega) w' hT').mono fun _ _ h => texts2 h
  have cW := fun w' hT' => (swords_ok h (by omega) w' hT').mono fun _ _ h => texts2 h
  have cB := fun w' => refTokens_ok h (by omega) w'
  have cS := fun x y hx hy w' => Cp.refSlice_lt h.cp (by omega) x y hx hy w'
  have hul := utok_len P
  have hwh := h.whole
  have WH := Go.Lib.hid hwh
  have hcs : (U.bytes P).length ≤ 240 := by rw [← hwh]; simpa using hc
  unfold TextsRet2 at cA cW
  unfold RefTok at cB
  rw [strs_all] at cA
  simp only [List.length_map] at cA
  clear h hwh hc
  obtain ⟨n, hn⟩ : ∃ n, (utok P).length = n := ⟨_, rfl⟩
  obtain ⟨m, hm⟩ : ∃ m, (strs P pWord (utok P)).length = m := ⟨_, rfl⟩
  have NN := Go.Lib.hid hn
  have MM := Go.Lib.hid hm
  have hmn : m ≤ n := by rw [← hm, ← hn, strs_len]; exact numS_le _ _
  rw [hn] at hul
  simp only [hn] at cA cB
  simp only [hm] at cW
  clear hn hm
  go_enter Tryd.func6, Tryd.ntmps6
  go_wp2_with (first
    | (go_at_call 15; (with_reducible refine (cC _).mono ?_); rintro e w' ⟨rfl, rfl⟩)
    | (go_at_call 20; (with_reducible refine (cA _ HT.out).mono ?_); rintro e w1 ⟨A1, p1, rfl, T1, b1⟩; have K1 := Go.Lib.hid T1; have B1 := Go.Lib.hid b1; clear T1 b1)
    | (go_at_call 21; (with_reducible refine (cW _ (HT.out.below B1.out)).mono ?_); rintro e w2 ⟨A2, p2, rfl, T2, b2⟩; have K2 := Go.Lib.hid T2; have K12 := Go.Lib.hid (K1.out.below b2 (Nat.le_refl _)); have B2 := Go.Lib.hid (B1.out.trans (b2.mono B1.out.size)); clear T2 b2)
    | (go_at_call 17; (with_reducible refine (cB _).mono ?_); rintro e w3 ⟨A3, p3, rfl, T3, b3⟩; have K3 := Go.Lib.hid T3; have K13 := Go.Lib.hid (K12.out.below b3 (Nat.le_refl _)); have K23 := Go.Lib.hid (K2.out.below b3 (Nat.le_refl _)); have B3 := Go.Lib.hid (B2.out.trans (b3.mono B2.out.size)); clear T3 b3)
    | (go_at_call 12; (with_reducible refine (known_any _ (HT.out.below B3.out)).mono ?_); rintro e w4 ⟨rfl, b4⟩; have K14 := Go.Lib.hid (K13.out.below b4 (Nat.le_refl _)); have K24 := Go.Lib.hid (K23.out.below b4 (Nat.le_refl _)); have K34 := Go.Lib.hid (K3.out.below b4 (Nat.le_refl _)); have B4 := Go.Lib.hid (B3.out.trans (b4.mono B3.out.size)); clear b4))
  clear cA cW cB cC
  go_loopw [9, 10, 11] (fun s9 s10 s11 wr => ∃ (k y : Nat) (a : ByteArray), k ≤ n ∧ s11 = .int .i64 (k : Nat) ∧ s10 = .int .i64 (y : Nat) ∧ s9 = .string a ∧ Hid (y = numS pWord ((utok P).take k)) ∧ Hid (a.data.toList = allTo P k) ∧ Hid (Below w4.heap.size w4 wr)) (fun _ _ i _ => n - (RowKit.intOf i).toNat)
  case atStart => exact ⟨0, 0, ⟨#[]⟩, Nat.zero_le _, rfl, rfl, rfl, Go.Lib.hid rfl, Go.Lib.hid rfl, Go.Lib.hid (Below.refl _ _)⟩
  case round =>
    obtain ⟨k, y, a, hk, rfl, rfl, rfl, HY, HA, HB⟩ := hrel
    have hsz := HB.out.size
    by_cases hlt : k < n
    · have hkl : k < (utok P).length := by rw [NN.out]; exact hlt
      have hne : utok P ≠ [] := by intro h0; rw [h0] at hkl; exact absurd hkl (Nat.not_lt_zero _)
      rcases K34.out with h0 | ⟨g3, rfl, hg3, hc3⟩
      · exact absurd h0 hne
      rcases K14.out with h0 | ⟨g1, rfl, hg1, hc1⟩
      · exact absurd (List.map_eq_nil_iff.1 h0) hne
      obtain ⟨x0, x1, x2⟩ := hc3 k hkl
      rw [tk_get (utok P) k hkl] at x0 x1 x2
      have y0 := hc1 k (by rw [List.length_map]; exact hkl)
      rw [List.getElem_map, tk_get (utok P) k hkl] at y0
      have u0 := (HB.out.cell (p := ⟨g3, k * 3, none⟩) hg3).trans x0
      have u1 := (HB.out.cell (p := ⟨g3, k * 3 + 1, none⟩) hg3).trans x1
      have u2 := (HB.out.cell (p := ⟨g3, k * 3 + 2, none⟩) hg3).trans x2
      have v0 := (HB.out.cell (p := ⟨g1, k, none⟩) hg1).trans y0
      have hgw3 : g3 < wr.heap.size := Nat.lt_of_lt_of_le hg3 hsz
      have hgw1 : g1 < wr.heap.size := Nat.lt_of_lt_of_le hg1 hsz
      have tn := tok_num P k hkl
      have ALs := Go.Lib.hid (allTo_succ P k hkl)
      have tle := chain_to (utok_chain P) _ (tk_mem _ k hkl)
      have tlt := tn.lt
      have tkd := tn.kind
      have AN := Go.Lib.hid (strs_at P pWord (utok P) k hkl)
      have NO := Go.Lib.hid (nums_no pWord (utok P) k hkl)
      have XD : Hid (txtOf P (tk (utok P) k) = ⟨(U.bytes (Cp.cutP P (tk (utok P) k).2.1 (tk (utok P) k).2.2)).toArray⟩) := Go.Lib.hid rfl
      clear x0 x1 x2 y0 hc1 hc3 hne tn
      obtain ⟨tx, htx⟩ : ∃ tx, txtOf P (tk (utok P) k) = tx := ⟨_, rfl⟩
      rw [htx] at v0 ALs AN XD
      clear htx
      have cs := cS _ _ tlt tle
      rw [← XD.out] at cs
      have hall := allTo_le P (k + 1)
      rw [ALs.out, List.length_append, ← HA.out] at hall
      have hsum : a.size + tx.size ≤ 240 := by
        have e1 : a.data.toList.length = a.size := by simp
        have e2 : tx.data.toList.length = tx.size := by simp
        omega
      generalize hX : tk (utok P) k = x at u0 u1 u2 tlt tle tkd AN NO cs
      obtain ⟨kd, f, t⟩ := x
      dsimp only at u0 u1 u2 tlt tle tkd cs
      clear hX hall XD cS hkl
      have hkI : (k : Int) < (n : Int) := by omega
      have hk0 : (0 : Int) ≤ (k : Int) := by omega
      by_cases h2 : kd ≤ 2
      · have hpw : pWord (kd, f, t) = true := by unfold pWord; simp; omega
        obtain ⟨e1, e2⟩ := AN.out hpw
        rw [← HY.out] at e1 e2
        obtain ⟨hym, e3⟩ := List.getElem?_eq_some_iff.1 e2
        have hy' := hym
        rw [MM.out] at hy'
        rcases K24.out with h0 | ⟨g2, rfl, hg2, hc2⟩
        · rw [h0] at hym; exact absurd hym (Nat.not_lt_zero _)
        have z0 := hc2 y hym
        rw [e3] at z0
        have q0 := (HB.out.cell (p := ⟨g2, y, none⟩) hg2).trans z0
        have hgw2 : g2 < wr.heap.size := Nat.lt_of_lt_of_le hg2 hsz
        have E1 := Go.Lib.hid e1
        clear z0 hc2 e1 e2 e3 hym hpw AN NO tkd
        have hynb : ¬ (m : Int) ≤ (y : Int) := by omega
        go_wp2_with fail
        go_region_held3 (fun w' => w'.cell? ⟨g3, k * 3 + 1, none⟩ = some (.int .i64 (f : Nat)) ∧ w'.cell? ⟨g3, k * 3 + 2, none⟩ = some (.int .i64 (t : Nat)))
          (first
            | go_keep
            | (go_split_ands
               refine ⟨?_, ?_⟩
               · (exact (hb5.cell (p := ⟨g3, k * 3 + 1, none⟩) hgw3).trans u1)
               · (exact (hb5.cell (p := ⟨g3, k * 3 + 2, none⟩) hgw3).trans u2)))
          ((go_at_call 22; (with_reducible refine (cs _).mono ?_); rintro e w5 ⟨rfl, hb5⟩))
        have u0' := (hb5.cell (p := ⟨g3, k * 3, none⟩) hgw3).trans u0
        have v0' := (hb5.cell (p := ⟨g1, k, none⟩) hgw1).trans v0
        have q0' := (hb5.cell (p := ⟨g2, y, none⟩) hgw2).trans q0
        have HB5 := Go.Lib.hid ((bdr1 HB.out).trans (hb5.mono hsz))
        clear hb5 u0 v0
        go_wp2
        go_roundw
        case rel => exact ⟨k + 1, y + 1, a ++ tx, by omega, by go_num, by go_num, rfl, Go.Lib.hid E1.out.symm, Go.Lib.hid (by rw [bytes_add, HA.out]; exact ALs.out.symm), HB5⟩
        case measure => simp [RowKit.intOf]; omega
      · have hpw : pWord (kd, f, t) = false := by unfold pWord; simp; omega
        have e1 := NO.out hpw
        rw [← HY.out] at e1
        have E1 := Go.Lib.hid e1
        clear e1 hpw AN NO tkd
        go_wp2_with fail
        go_region_held3 (fun w' => w'.cell? ⟨g3, k * 3 + 1, none⟩ = some (.int .i64 (f : Nat)) ∧ w'.cell? ⟨g3, k * 3 + 2, none⟩ = some (.int .i64 (t : Nat)))
          (first
            | go_keep
            | (go_split_ands
               refine ⟨?_, ?_⟩
               · (exact (hb5.cell (p := ⟨g3, k * 3 + 1, none⟩) hgw3).trans u1)
               · (exact (hb5.cell (p := ⟨g3, k * 3 + 2, none⟩) hgw3).trans u2)))
          ((go_at_call 22; (with_reducible refine (cs _).mono ?_); rintro e w5 ⟨rfl, hb5⟩))
        have u0' := (hb5.cell (p := ⟨g3, k * 3, none⟩) hgw3).trans u0
        have v0' := (hb5.cell (p := ⟨g1, k, none⟩) hgw1).trans v0
        have HB5 := Go.Lib.hid ((bdr1 HB.out).trans (hb5.mono hsz))
        clear hb5 u0 v0
        go_wp2
        go_roundw
        case rel => exact ⟨k + 1, y, a ++ tx, by omega, by go_num, rfl, rfl, Go.Lib.hid E1.out.symm, Go.Lib.hid (by rw [bytes_add, HA.out]; exact ALs.out.symm), HB5⟩
        case measure => simp [RowKit.intOf]; omega
    · obtain rfl : k = n := by omega
      have e1 := HA.out
      rw [← NN.out, allTo_end, ← WH.out] at e1
      obtain rfl : a = c := bytes_eq e1
      have e2 := HY.out
      rw [← NN.out, nums_all, ← strs_len P, MM.out] at e2
      subst e2
      clear e1
      go_wp2
      go_ret
      exact ⟨ret_bool' (by simp), B4.out.trans (HB.out.mono B4.out.size)⟩
theorem law_texts (s : ByteArray) (hs : s.size ≤ maxLen) (w : World) (hT : Tabs w) : Calls Tryd.prog 6 #[.string s] w (BoolPost true w) := by
  obtain ⟨P, bad, h⟩ := str_cut3 s
  have hl := str_len3 h
  have cC := fun w => short_any s hs w
  by_cases hb : bad = []
  · subst hb
    exact law_texts_ok h hl (cut3_size s) w hT cC
  · exact law_texts_bad h hb w hT cC
end Go.Proofs.YthjooopppidcfaaDoor
