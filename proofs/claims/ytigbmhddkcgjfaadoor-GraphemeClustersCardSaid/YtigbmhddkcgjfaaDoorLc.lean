import Derived.Test.YtigbmhddkcgjfaaDoorGl
import Derived.Test.YtigbmhddkcgjfaaDoorCf
namespace Go.Proofs.YtigbmhddkcgjfaaDoor
open Go.RowKit Go.Shelf
open Gc

/-- A block of strings. -/
def Ss (w : World) (g : Nat) (l : List Value) : Prop := g < w.heap.size ∧ ∀ k (h : k < l.length), w.cell? ⟨g, k, none⟩ = some l[k]
theorem Ss.below {w w' : World} {g n : Nat} {l : List Value} (h : Ss w g l) (hb : Below n w w') (hg : g < n) : Ss w' g l :=
  ⟨Nat.lt_of_lt_of_le h.1 hb.size, fun k hk => (hb.cell (p := ⟨g, k, none⟩) hg).trans (h.2 k hk)⟩
theorem strs_cases {w : World} {base : Nat} {v : Value} {l : List Value} (h : w.ownsRow base 9 1 v l.length l) : ∃ a c, v = .slice a l.length c ∧ (0 < l.length → ∃ g, a = some ⟨g, 0, none⟩ ∧ Ss w g l) := by
  obtain ⟨h1, h2⟩ := h
  rcases h2 with ⟨rfl, h0⟩ | ⟨g, cap, cur, rfl, hb, hgb, hle, hmx, hsz, htk⟩
  · refine ⟨none, 0, by rw [h0], fun h => by omega⟩
  · refine ⟨_, cap, rfl, fun _ => ⟨g, rfl, (Array.getElem?_eq_some_iff.1 hgb).1, fun k hk => ?_⟩⟩
    have e1 : cur[k]? = some l[k] := by
      have e2 : (cur.toList.take (l.length * 1))[k]? = l[k]? := by rw [htk]
      rw [List.getElem?_take_of_lt (by omega), List.getElem?_eq_getElem hk] at e2
      simpa using e2
    simp [World.cell?, hgb, e1]
def ListOk (l : List Value) (m : Nat) (w : World) (e : Ending) (w' : World) : Prop := ∃ a c, e = .returned (.tuple #[.slice a m c, .int .i64 0]) ∧ (0 < m → ∃ g, a = some ⟨g, 0, none⟩ ∧ Ss w' g l) ∧ Below w.heap.size w w'
theorem list_ok {s : ByteArray} {P : List Nat} (h : Str s P []) (w : World) (hT : Tabs w) : Calls Tryd.prog 20 #[.string s] w (ListOk (txts s P (cls (cp P))) (cls (cp P)).length w) :=
  (list_any h w hT).mono fun e w' ⟨v, he, hr, hb⟩ => by
    obtain ⟨a, c, rfl, hA⟩ := strs_cases hr
    have e1 : (txts s P (cls (cp P))).length = (cls (cp P)).length := List.length_map _
    rw [e1] at hA he
    exact ⟨a, c, he, hA, hb⟩

theorem quiet_int {P : Program} {f : FuncId} {args : Array Value} {w : World} {n : Nat} {x : Int} (h : Calls P f args (w.drewN n) (SameInt x (w.drewN n))) :
    Calls P f args (w.drewN n) fun e w'' => e = .returned (.int .i64 x) ∧ ∃ m, w'' = w.drewN m := h.mono fun _ _ ⟨he, hm⟩ => ⟨he, n, hm.symm⟩
set_option maxRecDepth 100000 in
set_option maxHeartbeats 4000000 in
theorem law_clusters (s : ByteArray) (hs : s.size ≤ maxLen) (w : World) (hT : Tabs w) : Calls Tryd.prog 5 #[.string s] w (BoolPost true w) := by
  obtain ⟨P, bad, h⟩ := str_cut s
  have HT := Go.Lib.hid hT
  clear hT
  have cC := fun w => cut_any s hs w
  by_cases hb : bad = []
  · subst hb
    have cP := fun w' => points_ok2 h w'
    have cL := fun w' hT' => list_ok h w' hT'
    have kS := fun w' hT' => count_any h w' hT'
    have hl2 := h.len
    have cR := fun v base w' hv => ref_blk h base v w' hv
    have hl := cls_len_le h
    have hbl := bl_len (cls (cp P))
    have hb' : ∀ k, nx (cp P) k ≤ P.length := fun k => by have := nx_le (cp P) k; rw [cp_len] at this; exact this
    have cY := fun k base v w' hv => bytesOf_any h base v w' hv (nx (cp P) k) (hb' k)
    have hof := fun k => off_size h (nx (cp P) k)
    have hom := fun k => U.off_mono P (nx (cp P) k) (nx (cp P) (k + 1)) (nx_mono (cp P) k)
    have hsz := h.size
    have kC : ∀ k, k < (cls (cp P)).length → ∀ w', Tabs w' → Calls Tryd.prog 21 #[.string ((cutS s).extract (U.off P (nx (cp P) k)) (U.off P (nx (cp P) (k + 1))))] w' (Pair2 (.int .i64 1) (.int .i64 0) w') := by
      intro k hk w' hT'
      have := count_any (str_mid h (nx (cp P) k) (nx (cp P) (k + 1)) (nx_mono (cp P) k)) w' hT'
      rw [cp_mid, cls_one (cp P) k hk] at this
      exact this
    obtain ⟨L, G, m, hL, hG, hm, e1, e2⟩ : ∃ L G m, bl (cls (cp P)) = L ∧ txts (cutS s) P (cls (cp P)) = G ∧ (cls (cp P)).length = m ∧ (∀ k (h : k < L.length), L[k] = (nx (cp P) k : Nat)) ∧
        (G.length = m ∧ ∀ k (h : k < G.length), G[k] = .string ((cutS s).extract (U.off P (nx (cp P) k)) (U.off P (nx (cp P) (k + 1))))) :=
      ⟨_, _, _, rfl, rfl, rfl, nx_at (cp P), List.length_map _, fun k hk => by
        have hk' : k < (cls (cp P)).length := by simpa [txts] using hk
        simp only [txts, List.getElem_map, cls_at (cp P) k hk']⟩
    rw [hL] at cR hbl
    rw [hG, hm] at cL
    rw [hm] at kS hbl hl kC
    clear hL hG hm h hb'
    obtain ⟨X, hX⟩ : ∃ X, nx (cp P) = X := ⟨_, rfl⟩
    rw [hX] at cY hof hom kC e1 e2
    obtain ⟨O, hO⟩ : ∃ O : Nat → Nat, ∀ k, U.off P (X k) = O k := ⟨_, fun _ => rfl⟩
    simp only [hO] at cY hof hom kC e2
    clear hX hO
    obtain ⟨e3, e4⟩ := e2
    have N := Go.Lib.hid hbl
    have M := Go.Lib.hid e3
    have E1 := Go.Lib.hid e1
    have E4 := Go.Lib.hid e4
    have HO := Go.Lib.hid (And.intro hof hom)
    clear hbl e3 e1 e4 hof hom
    go_enter Tryd.func5, Tryd.ntmps5
    go_wp2_with (first
      | (go_at_call 15; (with_reducible refine (cC _).mono ?_); rintro e w' ⟨rfl, rfl⟩)
      | (go_at_call 20; (with_reducible refine (cL _ HT.out).mono ?_); rintro e w1 ⟨a1, c1, rfl, hA, b1⟩; have A1 := Go.Lib.hid hA; have B1 := Go.Lib.hid b1; clear b1 hA)
      | (go_at_call 21; (with_reducible refine (kS _ (HT.out.below B1.out)).mono ?_); rintro e w2 ⟨rfl, b2⟩; have D2 := Go.Lib.hid b2; have B2 := Go.Lib.hid (B1.out.trans (b2.mono B1.out.size)); clear b2)
      | (go_at_call 17; (with_reducible refine (cP _).mono ?_); rintro e w5 ⟨x1, p1, x2, p2, rfl, i1, i2, b5⟩; have I1 := Go.Lib.hid i1; have J1 := Go.Lib.hid i2; clear i1 i2; have D5 := Go.Lib.hid (D2.out.trans (b5.mono D2.out.size)); have B5 := Go.Lib.hid (B2.out.trans (b5.mono B2.out.size)); clear b5)
      | (go_at_call 12; (with_reducible refine (known_any _ (HT.out.below B5.out)).mono ?_); rintro e w6 ⟨rfl, b6⟩; have I2 := Go.Lib.hid (I1.out.below b6); have J2 := Go.Lib.hid (J1.out.below b6); have D6 := Go.Lib.hid (D5.out.trans (b6.mono D5.out.size)); have B6 := Go.Lib.hid (B5.out.trans (b6.mono B5.out.size)); clear b6)
      | (go_at_call 19; (with_reducible refine (cR _ _ _ I2.out).mono ?_); rintro e w7 ⟨g7, p7, rfl, C7, b7⟩; rw [N.out]; have K7 := Go.Lib.hid C7; have J3 := Go.Lib.hid (J2.out.below b7); have D7 := Go.Lib.hid (D6.out.trans (b7.mono D6.out.size)); have B7 := Go.Lib.hid (B6.out.trans (b7.mono B6.out.size)); clear C7 b7))
    go_loopw [2, 11] (fun r i wr => ∃ k : Nat, k ≤ m ∧ r = .bool false ∧ i = .int .i64 (k : Nat) ∧ Hid (Below w7.heap.size w7 wr)) (fun _ i _ => m - (intOf i).toNat)
    case atStart => exact ⟨0, Nat.zero_le _, rfl, rfl, Go.Lib.hid (Below.refl _ _)⟩
    case round =>
      obtain ⟨k, hk, rfl, rfl, HB⟩ := hrel
      have HTr := Go.Lib.hid (HT.out.below (B7.out.trans (HB.out.mono B7.out.size)))
      by_cases hlt : k < m
      · obtain ⟨g, rfl, hSs⟩ := A1.out (by omega)
        have hSr := (hSs.below D7.out hSs.1).below HB.out (Nat.lt_of_lt_of_le hSs.1 D7.out.size)
        have hkG : k < G.length := by have := M.out; omega
        have hkL : k < L.length := by have := N.out; omega
        have hkL2 : k + 1 < L.length := by have := N.out; omega
        have q1 := hSr.2 k hkG
        rw [E4.out k hkG] at q1
        have ho1 := HO.out.2 k
        have ho2 := HO.out.1 (k + 1)
        have kk := kC k hlt
        have cY1 := cY k
        have cY2 := cY (k + 1)
        have QL := Go.Lib.hid ((K7.out.below HB.out K7.out.1))
        have q2 := QL.out.2 k hkL
        have q3 := QL.out.2 (k + 1) hkL2
        rw [E1.out k hkL] at q2
        rw [E1.out (k + 1) hkL2] at q3
        have JR := Go.Lib.hid (J3.out.below HB.out)
        clear kC cY hkG hkL hkL2
        generalize X k = xa at q2 cY1
        generalize X (k + 1) = xb at q3 cY2
        generalize O k = oa at ho1 q1 kk cY1
        generalize O (k + 1) = ob at ho1 ho2 q1 kk cY2
        have hgr := hSr.1
        have hg7 := QL.out.1
        go_wp2_with (go_at_call 21; (with_reducible refine (kk _ HTr.out).mono ?_); rintro e w8 ⟨rfl, b8⟩; have r1 := (b8.cell (p := ⟨g, k, none⟩) hgr).trans q1; have r2 := (b8.cell (p := ⟨g7, k, none⟩) hg7).trans q2; have r3 := (b8.cell (p := ⟨g7, k + 1, none⟩) hg7).trans q3; have JQ := Go.Lib.hid (JR.out.below b8); have B8 := Go.Lib.hid (HB.out.trans (b8.mono HB.out.size)); clear b8)
        go_quiet (first
          | (go_at_call 22; with_reducible exact quiet_int (cY1 _ _ _ (JQ.out.below (below_drews _ _ _))))
          | (go_at_call 22; with_reducible exact quiet_int (cY2 _ _ _ (JQ.out.below (below_drews _ _ _)))))
        go_wp2
        go_roundw
        case rel => exact ⟨k + 1, by omega, rfl, by go_num, Go.Lib.hid (B8.out.trans (below_drews _ _ _))⟩
        case measure => simp [intOf]; omega
      · obtain rfl : k = m := by omega
        go_wp2
        go_ret
        exact ⟨ret_bool (by simp), B7.out.trans (HB.out.mono B7.out.size)⟩
  · have cP := fun w' => points_bad h hb w'
    have cL := fun w' hT' => clusters_bad h hb w' hT'
    have kS := fun w' hT' => count_bad h hb w' hT'
    clear h
    go_enter Tryd.func5, Tryd.ntmps5
    go_wp2_with (first
      | (go_at_call 15; (with_reducible refine (cC _).mono ?_); rintro e w' ⟨rfl, rfl⟩)
      | (go_at_call 20; (with_reducible refine (cL _ HT.out).mono ?_); rintro e w1 ⟨rfl, b1⟩; have B1 := Go.Lib.hid b1; clear b1)
      | (go_at_call 21; (with_reducible refine (kS _ (HT.out.below B1.out)).mono ?_); rintro e w2 ⟨rfl, b2⟩; have B2 := Go.Lib.hid (B1.out.trans (b2.mono B1.out.size)); clear b2)
      | (go_at_call 17; (with_reducible refine (cP _).mono ?_); rintro e w5 ⟨rfl, b5⟩; have B5 := Go.Lib.hid (B2.out.trans (b5.mono B2.out.size)); clear b5)
      | (go_at_call 12; (with_reducible refine (known_any _ (HT.out.below B5.out)).mono ?_); rintro e w6 ⟨rfl, b6⟩; have B6 := Go.Lib.hid (B5.out.trans (b6.mono B5.out.size)); clear b6))
    go_ret
    exact ⟨ret_bool (by simp), B6.out⟩
end Go.Proofs.YtigbmhddkcgjfaaDoor
