import Derived.Test.YtigbmhddkcgjfaaDoorGf
namespace Go.Proofs.YtigbmhddkcgjfaaDoor
open Go.RowKit Go.Shelf
open Gc

theorem ints_form {w : World} {base : Nat} {v : Value} {l : List Int} (h : Ints w base v l) : ∃ a c, v = .slice a l.length c := by
  rcases ints_cases h with ⟨rfl, rfl⟩ | ⟨g, cap, _, rfl, _⟩
  · exact ⟨none, 0, rfl⟩
  · exact ⟨_, _, rfl⟩
def PtsOk2 (P : List Nat) (w : World) (e : Ending) (w' : World) : Prop := ∃ a1 c1 a2 c2, e = .returned (.tuple #[.slice a1 P.length c1, .slice a2 P.length c2, .bool true]) ∧
  Ints w' w.heap.size (.slice a1 P.length c1) (ptsI P) ∧ Ints w' w.heap.size (.slice a2 P.length c2) (offs P) ∧ Below w.heap.size w w'
theorem points_ok2 {s : ByteArray} {P : List Nat} (h : Str s P []) (w : World) : Calls Tryd.prog 17 #[.string s] w (PtsOk2 P w) :=
  (points_ok h w).mono fun e w' ⟨v1, v2, he, i1, i2, hb⟩ => by
    obtain ⟨a1, c1, rfl⟩ := ints_form i1
    obtain ⟨a2, c2, rfl⟩ := ints_form i2
    rw [ptsI_len] at i1 he
    rw [offs_len] at i2 he
    exact ⟨a1, c1, a2, c2, he, i1, i2, hb⟩

set_option maxRecDepth 100000 in
set_option maxHeartbeats 4000000 in
theorem law_moves (s : ByteArray) (at' : Int) (hs : s.size ≤ maxLen) (w : World) (hT : Tabs w) : Calls Tryd.prog 6 #[.string s, .int .i64 at'] w (BoolPost true w) := by
  obtain ⟨P, bad, h⟩ := str_cut s
  have HT := Go.Lib.hid hT
  clear hT
  have cC := fun w => cut_any s hs w
  by_cases hb : bad = []
  · subst hb
    have cP := fun w' => points_ok2 h w'
    have hl2 := h.len
    by_cases hr : 0 ≤ at' ∧ at' ≤ P.length
    · have c23 := fun w' hT' => isB_ok h at' w' hT' hr
      have c24 := fun w' hT' => next_ok h at' w' hT' hr
      have c25 := fun w' hT' => prev_ok h at' w' hT' hr
      have c26 := fun w' hT' => floorE_ok h at' w' hT' hr
      have cR := fun v base w' hv => ref_blk h base v w' hv
      have hl := cls_len_le h
      have hbl := bl_len (cls (cp P))
      have f1 := floor_flo (cp P) at'
      have f2 := floor_flo (cp P) (at' - 1)
      have f3 := next_nxt (cp P) at' hr.1 (by rw [cp_len]; exact hr.2)
      have hpl := ptsI_len P
      have hne := bl_ne (cls (cp P))
      have hr1 : 0 ≤ at' := hr.1
      have hr2 : at' ≤ 100000 := by omega
      have HR := Go.Lib.hid hr
      clear hr h
      have HPL := Go.Lib.hid hpl
      clear hpl
      generalize bl (cls (cp P)) = L at cR hbl f1 f2 f3 hne
      generalize (flo (cls (cp P)) at' : Nat) = a1 at c23 c26 f1
      generalize (flo (cls (cp P)) (at' - 1) : Nat) = a2 at c25 f2
      generalize nxt (cls (cp P)) at' = a3 at c24 f3
      have HLN := Go.Lib.hid (show L.length ≤ 1000000 by omega)
      have HL0 := Go.Lib.hid (List.length_pos_iff.2 hne)
      have F := Go.Lib.hid (And.intro f1 (And.intro f2 f3))
      clear f1 f2 f3 hbl hl hne
      have c27a := fun n g cap w hn (hC : Cs w g L) => refFloor_any L n g cap hn (hn ▸ HLN.out) at' w hC
      have c27b := fun n g cap w hn (hC : Cs w g L) => refFloor_any L n g cap hn (hn ▸ HLN.out) (at' - 1) w hC
      have c28 := fun n g cap w hn (hC : Cs w g L) => refNext_any L n g cap hn (hn ▸ HL0.out) (hn ▸ HLN.out) at' w hC
      rw [F.out.1] at c27a
      rw [F.out.2.1] at c27b
      rw [F.out.2.2] at c28
      have hpn : ¬ (P.length : Int) < at' := by have := HR.out.2; omega
      go_enter Tryd.func6, Tryd.ntmps6
      go_wp2_with (first
        | (go_at_call 15; (with_reducible refine (cC _).mono ?_); rintro e w' ⟨rfl, rfl⟩)
        | (go_at_call 23; (with_reducible refine (c23 _ HT.out).mono ?_); rintro e w1 ⟨rfl, b1⟩; have B1 := Go.Lib.hid b1; clear b1)
        | (go_at_call 24; (with_reducible refine (c24 _ (HT.out.below B1.out)).mono ?_); rintro e w2 ⟨rfl, b2⟩; have B2 := Go.Lib.hid (B1.out.trans (b2.mono B1.out.size)); clear b2)
        | (go_at_call 25; (with_reducible refine (c25 _ (HT.out.below B2.out)).mono ?_); rintro e w3 ⟨rfl, b3⟩; have B3 := Go.Lib.hid (B2.out.trans (b3.mono B2.out.size)); clear b3)
        | (go_at_call 26; (with_reducible refine (c26 _ (HT.out.below B3.out)).mono ?_); rintro e w4 ⟨rfl, b4⟩; have B4 := Go.Lib.hid (B3.out.trans (b4.mono B3.out.size)); clear b4)
        | (go_at_call 17; (with_reducible refine (cP _).mono ?_); rintro e w5 ⟨x1, p1, x2, p2, rfl, i1, i2, b5⟩; have I1 := Go.Lib.hid i1; clear i1 i2; have B5 := Go.Lib.hid (B4.out.trans (b5.mono B4.out.size)); clear b5)
        | (go_at_call 12; (with_reducible refine (known_any _ (HT.out.below B5.out)).mono ?_); rintro e w6 ⟨rfl, b6⟩; have I2 := Go.Lib.hid (I1.out.below b6); have B6 := Go.Lib.hid (B5.out.trans (b6.mono B5.out.size)); clear b6)
        | (go_at_call 19; (with_reducible refine (cR _ _ _ I2.out).mono ?_); rintro e w7 ⟨g7, p7, rfl, C7, b7⟩; have K7 := Go.Lib.hid C7; have B7 := Go.Lib.hid (B6.out.trans (b7.mono B6.out.size)); clear C7 b7)
        | (go_at_call 27; (with_reducible refine (c27a _ g7 p7 _ rfl K7.out).mono ?_); rintro e w8 ⟨rfl, rfl⟩)
        | (go_at_call 28; (with_reducible refine (c28 _ g7 p7 _ rfl K7.out).mono ?_); rintro e w8 ⟨rfl, rfl⟩)
        | (go_at_call 27; (with_reducible refine (c27b _ g7 p7 _ rfl K7.out).mono ?_); rintro e w8 ⟨rfl, rfl⟩))
      go_ret
      exact ⟨ret_bool (by simp), B7.out⟩
    · have he : errOf P [] at' = 2 := by unfold errOf; rw [if_neg (fun h => h rfl), if_pos (by omega)]
      have hne : errOf P [] at' ≠ 0 := by rw [he]; decide
      have c23 := fun w' hT' => isB_err h at' w' hT' hne
      have c24 := fun w' hT' => next_err h at' w' hT' hne
      have c25 := fun w' hT' => prev_err h at' w' hT' hne
      have c26 := fun w' hT' => floorE_err h at' w' hT' hne
      rw [he] at c23 c24 c25 c26
      clear h he hne
      have HR := Go.Lib.hid hr
      clear hr
      by_cases h0 : at' < 0
      all_goals
        first | (have h1 : 0 ≤ at' := (by omega); have h2 : (P.length : Int) < at' := (by have := HR.out; omega)) | skip
        go_enter Tryd.func6, Tryd.ntmps6
        go_wp2_with (first
          | (go_at_call 15; (with_reducible refine (cC _).mono ?_); rintro e w' ⟨rfl, rfl⟩)
          | (go_at_call 23; (with_reducible refine (c23 _ HT.out).mono ?_); rintro e w1 ⟨rfl, b1⟩; have B1 := Go.Lib.hid b1; clear b1)
          | (go_at_call 24; (with_reducible refine (c24 _ (HT.out.below B1.out)).mono ?_); rintro e w2 ⟨rfl, b2⟩; have B2 := Go.Lib.hid (B1.out.trans (b2.mono B1.out.size)); clear b2)
          | (go_at_call 25; (with_reducible refine (c25 _ (HT.out.below B2.out)).mono ?_); rintro e w3 ⟨rfl, b3⟩; have B3 := Go.Lib.hid (B2.out.trans (b3.mono B2.out.size)); clear b3)
          | (go_at_call 26; (with_reducible refine (c26 _ (HT.out.below B3.out)).mono ?_); rintro e w4 ⟨rfl, b4⟩; have B4 := Go.Lib.hid (B3.out.trans (b4.mono B3.out.size)); clear b4)
          | (go_at_call 17; (with_reducible refine (cP _).mono ?_); rintro e w5 ⟨x1, p1, x2, p2, rfl, _, _, b5⟩; have B5 := Go.Lib.hid (B4.out.trans (b5.mono B4.out.size)); clear b5)
          | (go_at_call 12; (with_reducible refine (known_any _ (HT.out.below B5.out)).mono ?_); rintro e w6 ⟨rfl, b6⟩; have B6 := Go.Lib.hid (B5.out.trans (b6.mono B5.out.size)); clear b6))
        go_ret
        exact ⟨ret_bool (by simp), B6.out⟩
  · have he : errOf P bad at' = 12 := by unfold errOf; rw [if_pos hb]
    have hne : errOf P bad at' ≠ 0 := by rw [he]; decide
    have c23 := fun w' hT' => isB_err h at' w' hT' hne
    have c24 := fun w' hT' => next_err h at' w' hT' hne
    have c25 := fun w' hT' => prev_err h at' w' hT' hne
    have c26 := fun w' hT' => floorE_err h at' w' hT' hne
    have cP := fun w' => points_bad h hb w'
    rw [he] at c23 c24 c25 c26
    clear h he hne
    go_enter Tryd.func6, Tryd.ntmps6
    go_wp2_with (first
      | (go_at_call 15; (with_reducible refine (cC _).mono ?_); rintro e w' ⟨rfl, rfl⟩)
      | (go_at_call 23; (with_reducible refine (c23 _ HT.out).mono ?_); rintro e w1 ⟨rfl, b1⟩; have B1 := Go.Lib.hid b1; clear b1)
      | (go_at_call 24; (with_reducible refine (c24 _ (HT.out.below B1.out)).mono ?_); rintro e w2 ⟨rfl, b2⟩; have B2 := Go.Lib.hid (B1.out.trans (b2.mono B1.out.size)); clear b2)
      | (go_at_call 25; (with_reducible refine (c25 _ (HT.out.below B2.out)).mono ?_); rintro e w3 ⟨rfl, b3⟩; have B3 := Go.Lib.hid (B2.out.trans (b3.mono B2.out.size)); clear b3)
      | (go_at_call 26; (with_reducible refine (c26 _ (HT.out.below B3.out)).mono ?_); rintro e w4 ⟨rfl, b4⟩; have B4 := Go.Lib.hid (B3.out.trans (b4.mono B3.out.size)); clear b4)
      | (go_at_call 17; (with_reducible refine (cP _).mono ?_); rintro e w5 ⟨rfl, b5⟩; have B5 := Go.Lib.hid (B4.out.trans (b5.mono B4.out.size)); clear b5)
      | (go_at_call 12; (with_reducible refine (known_any _ (HT.out.below B5.out)).mono ?_); rintro e w6 ⟨rfl, b6⟩; have B6 := Go.Lib.hid (B5.out.trans (b6.mono B5.out.size)); clear b6))
    go_ret
    exact ⟨ret_bool (by simp), B6.out⟩
end Go.Proofs.YtigbmhddkcgjfaaDoor
