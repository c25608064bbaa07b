/- Layer 3: the law Joins. -/
import Derived.Test.YthjooopppidcfaaDoorPj
namespace Go.Proofs.YthjooopppidcfaaDoor
open Go.RowKit Go.Shelf
open Gc

/-- What the law puts together. -/
def wantA (P : List Nat) : List (Nat × Int) := ubrk P ++ (if 0 < (segC P).length ∧ Sg.cat (segC P) ((segC P).length - 1) = 1 then [(P.length, 2)] else [])
def wantB (P Q : List Nat) : List (Nat × Int) := wantA P ++ (if 0 < (segC Q).length then [(P.length + 1, 2)] else [])
def wantC (P Q : List Nat) (k : Nat) : List (Nat × Int) := wantB P Q ++ ((ubrk Q).take k).map (bmoved (P.length + 1))
theorem wantC_zero (P Q : List Nat) : wantC P Q 0 = wantB P Q := by unfold wantC; simp
theorem wantC_succ (P Q : List Nat) (k : Nat) (h : k < (ubrk Q).length) : wantC P Q (k + 1) = wantC P Q k ++ [bmoved (P.length + 1) (bk (ubrk Q) k)] := by
  unfold wantC
  rw [List.take_succ_eq_append_getElem h, List.map_append, bk_get _ k h, List.append_assoc]; rfl
theorem wantC_end (P Q : List Nat) (h : (cp P).reverse.headD 0 ≠ 1) : wantC P Q (ubrk Q).length = ubrk (P ++ 10 :: Q) := by
  rw [ubrk_join P Q h]
  unfold wantC wantB wantA
  rw [List.take_length]
  simp only [List.append_assoc]
theorem ubrk_small (P : List Nat) : (ubrk P).length ≤ P.length := by
  have h1 := brkTo_len P (segC P).length
  rw [brkTo_all] at h1
  have h2 := clu_le P
  rw [clu_len, ← segC_len] at h2
  omega
theorem wantC_len (P Q : List Nat) (k : Nat) (hk : k ≤ (ubrk Q).length) : (wantC P Q k).length ≤ P.length + Q.length + 2 := by
  have h1 := ubrk_small P
  have h2 := ubrk_small Q
  unfold wantC wantB wantA
  simp only [List.length_append, List.length_map, List.length_take]
  split <;> split <;> simp <;> omega
theorem tk_of {l : List Tok} {k : Nat} {x : Tok} (h : l[k]? = some x) : ∃ h' : k < l.length, l[k] = x := List.getElem?_eq_some_iff.1 h

set_option maxRecDepth 100000 in
set_option maxHeartbeats 8000000 in
theorem joins_bad1 {a b c d : ByteArray} {P : List Nat} {bad : List UInt8} (h : Str c P bad) (hb : bad ≠ []) {Q : List Nat} {bad2 : List UInt8} (h2 : Str d Q bad2) (l2 : Q.length ≤ 240) (w : World) (hT : Tabs w)
    (cC : ∀ w, Calls Tryd.prog 15 #[.string a] w fun e w' => e = .returned (.string c) ∧ w = w') (cD : ∀ w, Calls Tryd.prog 15 #[.string b] w fun e w' => e = .returned (.string d) ∧ w = w') : Calls Tryd.prog 11 #[.string a, .string b] w (BoolPost true w) := by
  have HT := Go.Lib.hid hT
  clear hT
  have cA := fun w' => tokens_bad h hb w'
  unfold NoneRet at cA
  have cB : ∀ w', Tabs w' → Calls Tryd.prog 16 #[.string d] w' fun e w'' => (∃ A n cap c, e = .returned (.tuple #[.slice A n cap, .int .i64 c])) ∧ Below w'.heap.size w' w'' := by
    intro w' hT'
    by_cases hb2 : bad2 = []
    · subst hb2
      exact (tokens_ok h2 (by omega) w' hT').mono fun e w'' ⟨A, cap, he, _, hb⟩ => ⟨⟨A, _, cap, 0, he⟩, hb⟩
    · exact (tokens_bad h2 hb2 w').mono fun e w'' ⟨he, hb⟩ => ⟨⟨none, 0, 0, 12, he⟩, hb⟩
  clear h hb h2
  go_enter Tryd.func11, Tryd.ntmps11
  go_wp2_with (first
    | (go_at_call 15; (with_reducible refine (cC _).mono ?_); rintro e w' ⟨rfl, rfl⟩)
    | (go_at_call 15; (with_reducible refine (cD _).mono ?_); rintro e w' ⟨rfl, rfl⟩)
    | (go_at_call 16; (with_reducible refine (cA _).mono ?_); rintro e w1 ⟨rfl, b1⟩; have B1 := Go.Lib.hid b1; clear b1)
    | (go_at_call 16; (with_reducible refine (cB _ (HT.out.below B1.out)).mono ?_); rintro e w2 ⟨⟨A2, n2, p2, c2, rfl⟩, b2⟩; have B2 := Go.Lib.hid (B1.out.trans (b2.mono B1.out.size)); clear b2)
    | (go_at_call 12; (with_reducible refine (known_any w2 (HT.out.below B2.out)).mono ?_); rintro e w3 ⟨rfl, b3⟩; have B3 := Go.Lib.hid (B2.out.trans (b3.mono B2.out.size)); clear b3)
    | (go_at_call 12; (with_reducible refine (known_any w3 (HT.out.below B3.out)).mono ?_); rintro e w4 ⟨rfl, b4⟩; have B4 := Go.Lib.hid (B3.out.trans (b4.mono B3.out.size)); clear b4))
  go_ret
  exact ⟨rfl, B4.out⟩

set_option maxRecDepth 100000 in
set_option maxHeartbeats 8000000 in
theorem joins_bad2 {a b c d : ByteArray} {P : List Nat} (h : Str c P []) (l1 : P.length ≤ 240) {Q : List Nat} {bad2 : List UInt8} (h2 : Str d Q bad2) (hb2 : bad2 ≠ []) (w : World) (hT : Tabs w)
    (cC : ∀ w, Calls Tryd.prog 15 #[.string a] w fun e w' => e = .returned (.string c) ∧ w = w') (cD : ∀ w, Calls Tryd.prog 15 #[.string b] w fun e w' => e = .returned (.string d) ∧ w = w') : Calls Tryd.prog 11 #[.string a, .string b] w (BoolPost true w) := by
  have HT := Go.Lib.hid hT
  clear hT
  have cA := fun w' hT' => tokens_ok h (by omega) w' hT'
  have cB := fun w' => tokens_bad h2 hb2 w'
  unfold NoneRet at cB
  unfold TokensRet at cA
  generalize (utok P).length = n at cA
  clear h h2 hb2
  go_enter Tryd.func11, Tryd.ntmps11
  go_wp2_with (first
    | (go_at_call 15; (with_reducible refine (cC _).mono ?_); rintro e w' ⟨rfl, rfl⟩)
    | (go_at_call 15; (with_reducible refine (cD _).mono ?_); rintro e w' ⟨rfl, rfl⟩)
    | (go_at_call 16; (with_reducible refine (cA _ HT.out).mono ?_); rintro e w1 ⟨A1, p1, rfl, T1, b1⟩; have B1 := Go.Lib.hid b1; clear b1 T1)
    | (go_at_call 16; (with_reducible refine (cB _).mono ?_); rintro e w2 ⟨rfl, b2⟩; have B2 := Go.Lib.hid (B1.out.trans (b2.mono B1.out.size)); clear b2)
    | (go_at_call 12; (with_reducible refine (known_any w2 (HT.out.below B2.out)).mono ?_); rintro e w3 ⟨rfl, b3⟩; have B3 := Go.Lib.hid (B2.out.trans (b3.mono B2.out.size)); clear b3)
    | (go_at_call 12; (with_reducible refine (known_any w3 (HT.out.below B3.out)).mono ?_); rintro e w4 ⟨rfl, b4⟩; have B4 := Go.Lib.hid (B3.out.trans (b4.mono B3.out.size)); clear b4))
  go_ret
  exact ⟨rfl, B4.out⟩

set_option maxRecDepth 100000 in
set_option maxHeartbeats 8000000 in
theorem joins_cr {a b c d : ByteArray} {P : List Nat} (h : Str c P []) (l1 : P.length ≤ 240) {Q : List Nat} (h2 : Str d Q []) (l2 : Q.length ≤ 240) (z : Nat) (hz : c.size = z + 1) (hz2 : z < c.size) (hb : c[z].toNat = 13) (hc : c.size ≤ 240) (w : World) (hT : Tabs w)
    (cC : ∀ w, Calls Tryd.prog 15 #[.string a] w fun e w' => e = .returned (.string c) ∧ w = w') (cD : ∀ w, Calls Tryd.prog 15 #[.string b] w fun e w' => e = .returned (.string d) ∧ w = w') : Calls Tryd.prog 11 #[.string a, .string b] w (BoolPost true w) := by
  have HT := Go.Lib.hid hT
  clear hT
  have cA := fun w' hT' => tokens_ok h (by omega) w' hT'
  have cB := fun w' hT' => tokens_ok h2 (by omega) w' hT'
  unfold TokensRet at cA cB
  generalize (utok P).length = n at cA
  generalize (utok Q).length = n2 at cB
  have hw : IntKind.i64.wrap ((c.size : Int) - 1) = (z : Int) := by rw [show (c.size : Int) - 1 = (z : Int) by omega]; exact IntWalk.i64_in _ (by omega)
  have hp : (0 : Int) < (c.size : Int) := by omega
  clear h h2
  go_enter Tryd.func11, Tryd.ntmps11
  go_wp2_with (first
    | (go_at_call 15; (with_reducible refine (cC _).mono ?_); rintro e w' ⟨rfl, rfl⟩)
    | (go_at_call 15; (with_reducible refine (cD _).mono ?_); rintro e w' ⟨rfl, rfl⟩)
    | (go_at_call 16; (with_reducible refine (cA _ HT.out).mono ?_); rintro e w1 ⟨A1, p1, rfl, T1, b1⟩; have B1 := Go.Lib.hid b1; clear b1 T1)
    | (go_at_call 16; (with_reducible refine (cB _ (HT.out.below B1.out)).mono ?_); rintro e w2 ⟨A2, p2, rfl, T2, b2⟩; have B2 := Go.Lib.hid (B1.out.trans (b2.mono B1.out.size)); clear b2 T2)
    | (go_at_call 12; (with_reducible refine (known_any w2 (HT.out.below B2.out)).mono ?_); rintro e w3 ⟨rfl, b3⟩; have B3 := Go.Lib.hid (B2.out.trans (b3.mono B2.out.size)); clear b3)
    | (go_at_call 12; (with_reducible refine (known_any w3 (HT.out.below B3.out)).mono ?_); rintro e w4 ⟨rfl, b4⟩; have B4 := Go.Lib.hid (B3.out.trans (b4.mono B3.out.size)); clear b4))
  go_ret
  exact ⟨rfl, B4.out⟩
end Go.Proofs.YthjooopppidcfaaDoor
