/- Layer 3: the law Finds. -/
import Derived.Test.YthjooopppidcfaaDoorPf
import Derived.Test.YthjooopppidcfaaDoorLv
namespace Go.Proofs.YthjooopppidcfaaDoor
open Go.RowKit Go.Shelf
open Gc

theorem ObjAt.setB {W : World} {b : Nat} {t : TypeId} {x y z : Value} (h : ObjAt W b #[x, y, z] t) (n : Nat) : ObjAt (W.drewN n) b #[x, y, z] t := h
theorem max_up (a b : Nat) : Value.int .i64 (max (a : Int) (b : Int)) = Value.int .i64 ((max a b : Nat) : Int) := by congr 1; omega
/-- The numbers of a token. -/
def tokA (x : Tok) : Array Value := #[.int .i64 x.1, .int .i64 (x.2.1 : Nat), .int .i64 (x.2.2 : Nat)]

set_option maxRecDepth 100000 in
set_option maxHeartbeats 8000000 in
theorem finds_bad {c s : ByteArray} {P : List Nat} {bad : List UInt8} (h : Str c P bad) (hl : P.length ≤ 240) (hb : bad ≠ []) (u : Int) (w : World) (hT : Tabs w)
    (cC : ∀ w, Calls Tryd.prog 15 #[.string s] w fun e w' => e = .returned (.string c) ∧ w = w') : Calls Tryd.prog 7 #[.string s, .int .i64 u] w (BoolPost true w) := by
  have HT := Go.Lib.hid hT
  clear hT
  have he : aerr P bad u = 12 := by unfold aerr; rw [if_pos hb]
  have cA := fun w' => sat_bad h hb u w'
  have cN := fun w' hT' => snext_err h (by omega) u w' hT' (by rw [he]; decide)
  have cV := fun w' hT' => sprev_err h (by omega) u w' hT' (by rw [he]; decide)
  have cB := fun w' => refTokens_bad h hb w'
  rw [he] at cN cV
  unfold Pair2 at cA cN cV
  unfold tokV at cA
  dsimp only at cA
  unfold RefNone at cB
  clear h he hb
  go_enter Tryd.func7, Tryd.ntmps7
  go_wp2_with (first
    | (go_at_call 15; (with_reducible refine (cC _).mono ?_); rintro e w' ⟨rfl, rfl⟩)
    | (go_at_call 23; (with_reducible refine (cA _).mono ?_); rintro e w1 ⟨rfl, b1⟩; have B1 := Go.Lib.hid (b1.alloc b1.size (.cells #[.int .i64 0, .int .i64 0, .int .i64 0] 34)); clear b1)
    | (go_at_call 24; (with_reducible refine (cN _ (HT.out.below B1.out)).mono ?_); rintro e w2 ⟨rfl, b2⟩; have B2 := Go.Lib.hid (B1.out.trans (b2.mono B1.out.size)); clear b2)
    | (go_at_call 25; (with_reducible refine (cV _ (HT.out.below B2.out)).mono ?_); rintro e w3 ⟨rfl, b3⟩; have B3 := Go.Lib.hid (B2.out.trans (b3.mono B2.out.size)); clear b3)
    | (go_at_call 17; (with_reducible refine (cB _).mono ?_); rintro e w4 ⟨rfl, b4⟩; have B4 := Go.Lib.hid (B3.out.trans (b4.mono B3.out.size)); clear b4)
    | (go_at_call 12; (with_reducible refine (known_any w4 (HT.out.below B4.out)).mono ?_); rintro e w5 ⟨rfl, b5⟩; have B5 := Go.Lib.hid (B4.out.trans (b5.mono B4.out.size)); clear b5)
    | (go_at_call 12; (with_reducible refine (known_any w5 (HT.out.below B5.out)).mono ?_); rintro e w6 ⟨rfl, b6⟩; have B6 := Go.Lib.hid (B5.out.trans (b6.mono B5.out.size)); clear b6))
  go_ret
  exact ⟨rfl, B6.out⟩

set_option maxRecDepth 100000 in
set_option maxHeartbeats 8000000 in
theorem finds_out {c s : ByteArray} {P : List Nat} (h : Str c P []) (hl : P.length ≤ 240) (u : Int) (ho : u < 0 ∨ (P.length : Int) < u) (w : World) (hT : Tabs w)
    (cC : ∀ w, Calls Tryd.prog 15 #[.string s] w fun e w' => e = .returned (.string c) ∧ w = w') : Calls Tryd.prog 7 #[.string s, .int .i64 u] w (BoolPost true w) := by
  have HT := Go.Lib.hid hT
  clear hT
  have he : aerr P [] u = 2 := by unfold aerr; rw [if_neg (fun h => h rfl), if_pos ho]
  have cA := fun w' hT' => sat_ok h (by omega) u w' hT'
  have cN := fun w' hT' => snext_err h (by omega) u w' hT' (by rw [he]; decide)
  have cV := fun w' hT' => sprev_err h (by omega) u w' hT' (by rw [he]; decide)
  have cB := fun w' => refTokens_ok h (by omega) w'
  have cS := fun w' => size_any h w'
  rw [he] at cN cV
  rw [atV_out P u (by omega)] at cA
  unfold Pair2 at cA cN cV
  unfold tokV at cA
  dsimp only at cA
  unfold RefTok at cB
  unfold IntPost at cS
  clear h he
  obtain ⟨m, hm⟩ : ∃ m, P.length = m := ⟨_, rfl⟩
  rw [hm] at ho
  simp only [hm] at cS
  clear hm
  obtain ⟨L, hL⟩ : ∃ L, utok P = L := ⟨_, rfl⟩
  simp only [hL] at cB
  clear hL
  rcases ho with ho | ho
  all_goals
    first | (have h0 : ¬ u < 0 := by omega) | skip
    go_enter Tryd.func7, Tryd.ntmps7
    go_wp2_with (first
      | (go_at_call 15; (with_reducible refine (cC _).mono ?_); rintro e w' ⟨rfl, rfl⟩)
      | (go_at_call 23; (with_reducible refine (cA _ HT.out).mono ?_); rintro e w1 ⟨rfl, b1⟩; have O1 := Go.Lib.hid (ObjAt.new w1 #[.int .i64 0, .int .i64 0, .int .i64 0] 34); have B1 := Go.Lib.hid (b1.alloc b1.size (.cells #[.int .i64 0, .int .i64 0, .int .i64 0] 34)); clear b1)
      | (go_at_call 24; (with_reducible refine (cN _ (HT.out.below B1.out)).mono ?_); rintro e w2 ⟨rfl, b2⟩; have O2 := Go.Lib.hid (O1.out.below b2); have B2 := Go.Lib.hid (B1.out.trans (b2.mono B1.out.size)); clear b2)
      | (go_at_call 25; (with_reducible refine (cV _ (HT.out.below B2.out)).mono ?_); rintro e w3 ⟨rfl, b3⟩; have O3 := Go.Lib.hid (O2.out.below b3); have B3 := Go.Lib.hid (B2.out.trans (b3.mono B2.out.size)); clear b3)
      | (go_at_call 17; (with_reducible refine (cB _).mono ?_); rintro e w4 ⟨A4, p4, rfl, T4, b4⟩; clear T4; have O4 := Go.Lib.hid (O3.out.below b4); have B4 := Go.Lib.hid (B3.out.trans (b4.mono B3.out.size)); clear b4)
      | (go_at_call 12; (with_reducible refine (known_any w4 (HT.out.below B4.out)).mono ?_); rintro e w5 ⟨rfl, b5⟩; have O5 := Go.Lib.hid (O4.out.below b5); have B5 := Go.Lib.hid (B4.out.trans (b5.mono B4.out.size)); clear b5)
      | (go_at_call 26; (with_reducible refine (cS _).mono ?_); rintro e w6 ⟨rfl, b6⟩; have O6 := O5.out.below b6; have B6 := Go.Lib.hid (B5.out.trans (b6.mono B5.out.size)); have d0 := O6.b0; have d1 := O6.b1; have d2 := O6.b2; clear b6 O6))
    go_ret
    exact ⟨rfl, B6.out⟩

set_option maxRecDepth 100000 in
set_option maxHeartbeats 8000000 in
theorem finds_in {c s : ByteArray} {P : List Nat} (h : Str c P []) (hl : P.length ≤ 240) (u : Int) (hr : 0 ≤ u ∧ u ≤ P.length) (w : World) (hT : Tabs w)
    (cC : ∀ w, Calls Tryd.prog 15 #[.string s] w fun e w' => e = .returned (.string c) ∧ w = w') : Calls Tryd.prog 7 #[.string s, .int .i64 u] w (BoolPost true w) := by
  have HT := Go.Lib.hid hT
  clear hT
  have cA := fun w' hT' => sat_ok h (by omega) u w' hT'
  have cN := fun w' hT' => snext_ok h (by omega) u w' hT' hr
  have cV := fun w' hT' => sprev_ok h (by omega) u w' hT' hr
  have cB := fun w' => refTokens_ok h (by omega) w'
  have cS := fun w' => size_any h w'
  have hul := utok_len P
  obtain ⟨nf, pf, af, HW⟩ := walked P u
  rw [atV_eq P u hr.1 hr.2, HW.a0] at cA
  rw [HW.n0] at cN
  rw [HW.p0] at cV
  unfold Pair2 at cA cN cV
  unfold tokV at cA
  dsimp only at cA
  unfold RefTok at cB
  unfold IntPost at cS
  have WK := Go.Lib.hid HW
  clear h HW
  obtain ⟨n, hn⟩ : ∃ n, (utok P).length = n := ⟨_, rfl⟩
  obtain ⟨m, hm⟩ : ∃ m, P.length = m := ⟨_, rfl⟩
  have NN := Go.Lib.hid hn
  have MM := Go.Lib.hid hm
  rw [hn, hm] at hul
  rw [hm] at hl hr cA
  simp only [hn] at cB
  simp only [hm] at cS
  clear hn hm
  obtain ⟨h1, h2⟩ := hr
  have h3 : ¬ u < 0 := by omega
  have h4 : ¬ (m : Int) < u := by omega
  obtain ⟨ec, hec⟩ : ∃ ec : Int, (if u = (m : Int) then 2 else 0) = ec := ⟨_, rfl⟩
  rw [hec] at cA
  have EC := Go.Lib.hid hec
  obtain ⟨at0, hat0⟩ : ∃ x, af 0 = x := ⟨_, rfl⟩
  rw [hat0] at cA
  have AT0 := Go.Lib.hid hat0
  clear hec hat0 h1 h2
  have hw1 : IntKind.i64.wrap ((n : Int) - 1) = (n : Int) - 1 := IntWalk.i64_in _ (by omega)
  go_enter Tryd.func7, Tryd.ntmps7
  go_wp2_with (first
    | (go_at_call 15; (with_reducible refine (cC _).mono ?_); rintro e w' ⟨rfl, rfl⟩)
    | (go_at_call 23; (with_reducible refine (cA _ HT.out).mono ?_); rintro e w1 ⟨rfl, b1⟩; have O1 := Go.Lib.hid (ObjAt.new w1 (tokA at0) 34); have B1 := Go.Lib.hid (b1.alloc b1.size (.cells (tokA at0) 34)); unfold tokA at O1 B1; clear b1)
    | (go_at_call 24; (with_reducible refine (cN _ (HT.out.below B1.out)).mono ?_); rintro e w2 ⟨rfl, b2⟩; have O2 := Go.Lib.hid (O1.out.below b2); have B2 := Go.Lib.hid (B1.out.trans (b2.mono B1.out.size)); clear b2)
    | (go_at_call 25; (with_reducible refine (cV _ (HT.out.below B2.out)).mono ?_); rintro e w3 ⟨rfl, b3⟩; have O3 := Go.Lib.hid (O2.out.below b3); have B3 := Go.Lib.hid (B2.out.trans (b3.mono B2.out.size)); clear b3)
    | (go_at_call 17; (with_reducible refine (cB _).mono ?_); rintro e w4 ⟨A4, p4, rfl, T4, b4⟩; have K4 := Go.Lib.hid T4; clear T4; have O4 := Go.Lib.hid (O3.out.below b4); have B4 := Go.Lib.hid (B3.out.trans (b4.mono B3.out.size)); clear b4)
    | (go_at_call 12; (with_reducible refine (known_any w4 (HT.out.below B4.out)).mono ?_); rintro e w5 ⟨rfl, b5⟩; have K5 := Go.Lib.hid (K4.out.below b5 (Nat.le_refl _)); have O5 := Go.Lib.hid (O4.out.below b5); have B5 := Go.Lib.hid (B4.out.trans (b5.mono B4.out.size)); clear b5)
    | (go_at_call 26; (with_reducible refine (cS _).mono ?_); rintro e w6 ⟨rfl, b6⟩; have K6 := Go.Lib.hid (K5.out.below b6 (Nat.le_refl _)); have O6 := Go.Lib.hid (O5.out.below b6); have B6 := Go.Lib.hid (B5.out.trans (b6.mono B5.out.size)); clear b6))
  clear hw1 h3 h4 cA cN cV cB cS cC
  have hb5 := O6.out.lt
  have hb3 := O3.out.lt
  go_loopw [14, 15, 17] (fun s14 s15 s17 wr => ∃ (j : Int) (k : Nat), k ≤ n ∧ j = (k : Int) - 1 ∧ s17 = .int .i64 j ∧ s14 = .int .i64 (nf k : Nat) ∧ s15 = .int .i64 (pf k : Nat) ∧ Hid (ObjAt wr w6.heap.size (tokA (af k)) 34) ∧ Hid (Below w6.heap.size w6 wr)) (fun _ _ s17 _ => (RowKit.intOf s17 + 1).toNat)
  case atStart =>
    have e1 := WK.out.nn
    have e2 := WK.out.pn
    have e3 := WK.out.an
    rw [NN.out] at e1 e2 e3
    rw [MM.out] at e1
    refine ⟨_, n, Nat.le_refl _, rfl, rfl, by rw [e1], by rw [e2]; rfl, Go.Lib.hid (by rw [e3]; exact ObjAt.new w6 _ 34), Go.Lib.hid ((Below.refl _ w6).alloc (Nat.le_refl _) _)⟩
  case round =>
    obtain ⟨j, k, hk, hj, rfl, rfl, rfl, HO, HB⟩ := hrel
    cases k with
    | zero =>
      have hjn : j < 0 := by omega
      clear hj
      have q5 := O6.out.below HB.out
      have q16 := HO.out
      rw [AT0.out] at q16
      unfold tokA at q16
      have x0 := q5.b0
      have x1 := q5.b1
      have x2 := q5.b2
      have y0 := q16.b0
      have y1 := q16.b1
      have y2 := q16.b2
      clear q5 q16
      by_cases hum : u = (m : Int)
      · subst hum
        have e := EC.out
        rw [if_pos rfl] at e
        subst e
        go_wp2
        go_ret
        exact ⟨ret_bool' (by simp), B6.out.trans (HB.out.mono B6.out.size)⟩
      · have hub := neB hum
        have e := EC.out
        rw [if_neg hum] at e
        subst e
        go_wp2
        go_ret
        exact ⟨ret_bool' (by simp), B6.out.trans (HB.out.mono B6.out.size)⟩
    | succ k =>
      obtain rfl : j = (k : Int) := by omega
      have hkl : k < (utok P).length := by rw [NN.out]; omega
      rcases K6.out with h0 | ⟨g1, rfl, hg1, hc1⟩
      · rw [h0] at hkl; exact absurd hkl (Nat.not_lt_zero _)
      obtain ⟨x0, x1, x2⟩ := hc1 k hkl
      rw [tk_get (utok P) k hkl] at x0 x1 x2
      have u0 := (HB.out.cell (p := ⟨g1, k * 3, none⟩) hg1).trans x0
      have u1 := (HB.out.cell (p := ⟨g1, k * 3 + 1, none⟩) hg1).trans x1
      have u2 := (HB.out.cell (p := ⟨g1, k * 3 + 2, none⟩) hg1).trans x2
      have NS := Go.Lib.hid (WK.out.ns k hkl)
      have PS := Go.Lib.hid (WK.out.ps k hkl)
      have AS := Go.Lib.hid (WK.out.asx k hkl)
      have hkn : k < n := by omega
      have hk0 : (0 : Int) ≤ (k : Int) := by omega
      have hkI : (k : Int) < (n : Int) := by omega
      have hw1 : IntKind.i64.wrap ((k : Int) - 1) = (k : Int) - 1 := IntWalk.i64_in _ (by omega)
      have hsz := HB.out.size
      clear x0 x1 x2 hc1 hkl hj
      generalize tk (utok P) k = x at u0 u1 u2 NS PS AS
      obtain ⟨kd, f, t⟩ := x
      dsimp only at u0 u1 u2
      have hO := HO.out
      unfold tokA at hO
      have r0 := hO.b0
      have r1 := hO.b1
      have r2 := hO.b2
      have f0 := hO.frozen 0
      have f1 := hO.frozen 1
      have f2 := hO.frozen 2
      clear hO
      by_cases h1 : (f : Int) ≤ u
      · by_cases h2 : u < (t : Int)
        · skip
          by_cases h3 : kd = 3
          · subst h3
            have n1 : nf k = nf (k + 1) := by rw [NS.out]; exact if_neg (by rintro ⟨a, b⟩; first | exact a rfl | (have b' : u < (f : Int) := b; omega))
            have p1 : pf k = pf (k + 1) := by rw [PS.out]; exact if_neg (by rintro ⟨a, b⟩; first | exact a rfl | (have b' : (f : Int) < u := b; omega))
            have a1 : af k = (3, f, t) := by rw [AS.out]; exact if_pos ⟨h1, h2⟩
            have N1 := Go.Lib.hid n1
            have P1 := Go.Lib.hid p1
            have A1 := Go.Lib.hid a1
            clear n1 p1 a1
            go_wp2_with fail
            go_region
            go_wp2
            go_roundw
            case rel => exact ⟨_, k, by omega, rfl, rfl, by rw [N1.out], by rw [P1.out], Go.Lib.hid (by rw [A1.out]; exact (HO.out.setB 1).set3 _ _ _), Go.Lib.hid (((((bdrew HB.out 1).setCell (p := ⟨w6.heap.size, 0, none⟩) (Nat.le_refl _) _).setCell (p := ⟨w6.heap.size, 1, none⟩) (Nat.le_refl _) _).setCell (p := ⟨w6.heap.size, 2, none⟩) (Nat.le_refl _) _))⟩
            case measure => simp [RowKit.intOf]
          · have h3b := neB h3
            have h5 : ¬ u < (f : Int) := by omega
            by_cases h4 : (f : Int) < u
            · skip
              have n1 : nf k = nf (k + 1) := by rw [NS.out]; exact if_neg (by rintro ⟨a, b⟩; first | exact a rfl | (have b' : u < (f : Int) := b; omega))
              have p1 : pf k = max (pf (k + 1)) f := by rw [PS.out]; exact if_pos ⟨h3, by show (f : Int) < u; omega⟩
              have a1 : af k = (kd, f, t) := by rw [AS.out]; exact if_pos ⟨h1, h2⟩
              have N1 := Go.Lib.hid n1
              have P1 := Go.Lib.hid p1
              have A1 := Go.Lib.hid a1
              clear n1 p1 a1
              go_wp2_with fail
              go_region
              go_wp2
              go_roundw
              case rel => exact ⟨_, k, by omega, rfl, rfl, by rw [N1.out], by rw [P1.out]; exact max_up _ _, Go.Lib.hid (by rw [A1.out]; exact (HO.out.setB 1).set3 _ _ _), Go.Lib.hid (((((bdrew HB.out 1).setCell (p := ⟨w6.heap.size, 0, none⟩) (Nat.le_refl _) _).setCell (p := ⟨w6.heap.size, 1, none⟩) (Nat.le_refl _) _).setCell (p := ⟨w6.heap.size, 2, none⟩) (Nat.le_refl _) _))⟩
              case measure => simp [RowKit.intOf]
            · skip
              have n1 : nf k = nf (k + 1) := by rw [NS.out]; exact if_neg (by rintro ⟨a, b⟩; first | exact a rfl | (have b' : u < (f : Int) := b; omega))
              have p1 : pf k = pf (k + 1) := by rw [PS.out]; exact if_neg (by rintro ⟨a, b⟩; first | exact a rfl | (have b' : (f : Int) < u := b; omega))
              have a1 : af k = (kd, f, t) := by rw [AS.out]; exact if_pos ⟨h1, h2⟩
              have N1 := Go.Lib.hid n1
              have P1 := Go.Lib.hid p1
              have A1 := Go.Lib.hid a1
              clear n1 p1 a1
              go_wp2_with fail
              go_region
              go_wp2
              go_roundw
              case rel => exact ⟨_, k, by omega, rfl, rfl, by rw [N1.out], by rw [P1.out], Go.Lib.hid (by rw [A1.out]; exact (HO.out.setB 1).set3 _ _ _), Go.Lib.hid (((((bdrew HB.out 1).setCell (p := ⟨w6.heap.size, 0, none⟩) (Nat.le_refl _) _).setCell (p := ⟨w6.heap.size, 1, none⟩) (Nat.le_refl _) _).setCell (p := ⟨w6.heap.size, 2, none⟩) (Nat.le_refl _) _))⟩
              case measure => simp [RowKit.intOf]
        · skip
          by_cases h3 : kd = 3
          · subst h3
            have n1 : nf k = nf (k + 1) := by rw [NS.out]; exact if_neg (by rintro ⟨a, b⟩; first | exact a rfl | (have b' : u < (f : Int) := b; omega))
            have p1 : pf k = pf (k + 1) := by rw [PS.out]; exact if_neg (by rintro ⟨a, b⟩; first | exact a rfl | (have b' : (f : Int) < u := b; omega))
            have a1 : af k = af (k + 1) := by rw [AS.out]; exact if_neg (by rintro ⟨a, b⟩; have a' : (f : Int) ≤ u := a; have b' : u < (t : Int) := b; omega)
            have N1 := Go.Lib.hid n1
            have P1 := Go.Lib.hid p1
            have A1 := Go.Lib.hid a1
            clear n1 p1 a1
            go_wp2
            go_roundw
            case rel => exact ⟨_, k, by omega, rfl, rfl, by rw [N1.out], by rw [P1.out], Go.Lib.hid (by rw [A1.out]; exact HO.out), HB⟩
            case measure => simp [RowKit.intOf]
          · have h3b := neB h3
            have h5 : ¬ u < (f : Int) := by omega
            by_cases h4 : (f : Int) < u
            · skip
              have n1 : nf k = nf (k + 1) := by rw [NS.out]; exact if_neg (by rintro ⟨a, b⟩; first | exact a rfl | (have b' : u < (f : Int) := b; omega))
              have p1 : pf k = max (pf (k + 1)) f := by rw [PS.out]; exact if_pos ⟨h3, by show (f : Int) < u; omega⟩
              have a1 : af k = af (k + 1) := by rw [AS.out]; exact if_neg (by rintro ⟨a, b⟩; have a' : (f : Int) ≤ u := a; have b' : u < (t : Int) := b; omega)
              have N1 := Go.Lib.hid n1
              have P1 := Go.Lib.hid p1
              have A1 := Go.Lib.hid a1
              clear n1 p1 a1
              go_wp2
              go_roundw
              case rel => exact ⟨_, k, by omega, rfl, rfl, by rw [N1.out], by rw [P1.out]; exact max_up _ _, Go.Lib.hid (by rw [A1.out]; exact HO.out), HB⟩
              case measure => simp [RowKit.intOf]
            · skip
              have n1 : nf k = nf (k + 1) := by rw [NS.out]; exact if_neg (by rintro ⟨a, b⟩; first | exact a rfl | (have b' : u < (f : Int) := b; omega))
              have p1 : pf k = pf (k + 1) := by rw [PS.out]; exact if_neg (by rintro ⟨a, b⟩; first | exact a rfl | (have b' : (f : Int) < u := b; omega))
              have a1 : af k = af (k + 1) := by rw [AS.out]; exact if_neg (by rintro ⟨a, b⟩; have a' : (f : Int) ≤ u := a; have b' : u < (t : Int) := b; omega)
              have N1 := Go.Lib.hid n1
              have P1 := Go.Lib.hid p1
              have A1 := Go.Lib.hid a1
              clear n1 p1 a1
              go_wp2
              go_roundw
              case rel => exact ⟨_, k, by omega, rfl, rfl, by rw [N1.out], by rw [P1.out], Go.Lib.hid (by rw [A1.out]; exact HO.out), HB⟩
              case measure => simp [RowKit.intOf]
      · have h5 : u < (f : Int) := by omega
        have h4 : ¬ (f : Int) < u := by omega
        by_cases h3 : kd = 3
        · subst h3
          have n1 : nf k = nf (k + 1) := by rw [NS.out]; exact if_neg (by rintro ⟨a, b⟩; first | exact a rfl | (have b' : u < (f : Int) := b; omega))
          have p1 : pf k = pf (k + 1) := by rw [PS.out]; exact if_neg (by rintro ⟨a, b⟩; first | exact a rfl | (have b' : (f : Int) < u := b; omega))
          have a1 : af k = af (k + 1) := by rw [AS.out]; exact if_neg (by rintro ⟨a, b⟩; have a' : (f : Int) ≤ u := a; have b' : u < (t : Int) := b; omega)
          have N1 := Go.Lib.hid n1
          have P1 := Go.Lib.hid p1
          have A1 := Go.Lib.hid a1
          clear n1 p1 a1
          go_wp2
          go_roundw
          case rel => exact ⟨_, k, by omega, rfl, rfl, by rw [N1.out], by rw [P1.out], Go.Lib.hid (by rw [A1.out]; exact HO.out), HB⟩
          case measure => simp [RowKit.intOf]
        · have h3b := neB h3
          have n1 : nf k = f := by rw [NS.out]; exact if_pos ⟨h3, by show u < (f : Int); omega⟩
          have p1 : pf k = pf (k + 1) := by rw [PS.out]; exact if_neg (by rintro ⟨a, b⟩; first | exact a rfl | (have b' : (f : Int) < u := b; omega))
          have a1 : af k = af (k + 1) := by rw [AS.out]; exact if_neg (by rintro ⟨a, b⟩; have a' : (f : Int) ≤ u := a; have b' : u < (t : Int) := b; omega)
          have N1 := Go.Lib.hid n1
          have P1 := Go.Lib.hid p1
          have A1 := Go.Lib.hid a1
          clear n1 p1 a1
          go_wp2
          go_roundw
          case rel => exact ⟨_, k, by omega, rfl, rfl, by rw [N1.out], by rw [P1.out], Go.Lib.hid (by rw [A1.out]; exact HO.out), HB⟩
          case measure => simp [RowKit.intOf]
theorem law_finds (s : ByteArray) (u : Int) (hs : s.size ≤ maxLen) (w : World) (hT : Tabs w) : Calls Tryd.prog 7 #[.string s, .int .i64 u] w (BoolPost true w) := by
  obtain ⟨P, bad, h⟩ := str_cut3 s
  have hl := str_len3 h
  have cC := fun w => short_any s hs w
  by_cases hb : bad = []
  · subst hb
    by_cases ho : u < 0 ∨ (P.length : Int) < u
    · exact finds_out h hl u ho w hT cC
    · exact finds_in h hl u (by omega) w hT cC
  · exact finds_bad h hl hb u w hT cC
end Go.Proofs.YthjooopppidcfaaDoor
