/- Layer 7: Value; the law of Get. -/
import Derived.Test.YtjdjfokfilnnoaaJ8
import Derived.Deep.RegionHeld3
namespace Go.Proofs.Ytjdjfokfilnnoaa
open Go.RowKit Go.Lib

/-- What hands back a list of n properties. -/
def OutP (o : List Pr) (n : Nat) (w : World) (e : Ending) (w' : World) : Prop := ∃ B cb, e = .returned (.slice B n cb) ∧ n ≤ cb ∧ cb ≤ maxLen ∧ PrAt w' B o ∧ Below w.heap.size w w'
theorem PRet.out {o : List Pr} {n : Nat} {w w' : World} {e : Ending} (h : PRet o w e w') (hn : o.length = n) : OutP o n w e w' := by
  obtain ⟨v, rfl, ⟨A, c, rfl, h1, h2, h3⟩, h4⟩ := h
  subst hn
  exact ⟨A, c, rfl, h1, h2, h3, h4⟩
theorem ordered_out (A : Option Addr) (len c : Nat) (l : List Pr) (w : World) (h : PropsIn w A len c l) : Calls Try.prog 29 #[.slice A len c] w (OutP (ordP l) (ordP l).length w) :=
  (ordered_any A len c l h.1 ⟨h.2.1, h.2.2.1⟩ w h.2.2.2.1).mono fun _ _ h' => h'.out rfl
section
variable (o : List Pr) (hs : SortP o) (B : Option Addr) (n cb : Nat) (ho : o.length = n) (hn : n ≤ 1000) (hc : n ≤ cb ∧ cb ≤ maxLen) (p : Int)
include hs ho hn hc
set_option maxRecDepth 100000 in
set_option maxHeartbeats 4000000 in
theorem value_yes (hb : getB o p = true) (w : World) (hB : PrAt w B o) : Calls Try.prog 32 #[.slice B n cb, .int .i64 p] w fun e w' => e = .returned (.int .i64 (getV o p)) ∧ Below w.heap.size w w' := by
  have cG := fun w' hB => get_any o hs B n cb ho hn hc p w' hB
  rw [hb] at cG
  clear hb ho
  go_enter Try.func32, Try.ntmps32
  go_wp2_with (go_at_call 30; (with_reducible refine (cG _ hB).mono ?_); rintro e w1 ⟨rfl, hb1⟩)
  go_ret
  exact ⟨rfl, hb1⟩
set_option maxRecDepth 100000 in
set_option maxHeartbeats 4000000 in
theorem value_no (hb : getB o p = false) (d e0 : Int) (cD : ∀ w', Calls Try.prog 16 #[.int .i64 p] w' fun e w'' => e = .returned (.tuple #[.int .i64 d, .int .i64 e0]) ∧ Below w'.heap.size w' w'') (w : World) (hB : PrAt w B o) :
    Calls Try.prog 32 #[.slice B n cb, .int .i64 p] w fun e w' => e = .returned (.int .i64 d) ∧ Below w.heap.size w w' := by
  have cG := fun w' hB => get_any o hs B n cb ho hn hc p w' hB
  rw [hb] at cG
  clear hb ho
  go_enter Try.func32, Try.ntmps32
  go_wp2_with (first
    | (go_at_call 30; (with_reducible refine (cG _ hB).mono ?_); rintro e w1 ⟨rfl, hb1⟩)
    | (go_at_call 16; (with_reducible refine (cD _).mono ?_); rintro e w2 ⟨rfl, hb2⟩))
  go_ret
  exact ⟨rfl, hb1.trans (hb2.mono hb1.size)⟩
end

set_option maxRecDepth 100000 in
set_option maxHeartbeats 8000000 in
theorem gets_yes (o : List Pr) (hs : SortP o) (n : Nat) (ho : o.length = n) (hn : n ≤ 60) (A : Option Addr) (len c : Nat) (p : Int) (w : World) (cO : Calls Try.prog 29 #[.slice A len c] w (OutP o n w)) (hb : getB o p = true)
    (ka kb kc kd ke : Int) (kf : ByteArray) (is : Bool) (cF : ∀ w', Calls Try.prog 18 #[.int .i64 p] w' fun e w'' => e = .returned (.tuple #[.agg #[.int .i64 ka, .int .i64 kb, .int .i64 kc, .int .i64 kd, .int .i64 ke, .string kf], .bool is]) ∧ Below w'.heap.size w' w'') :
    Calls Try.prog 7 #[.slice A len c, .int .i64 p] w fun e w' => e = .returned (.bool true) ∧ Below w.heap.size w w' := by
  have cK := fun w' => known_any w'
  have cG := fun B cb hc w' hB => get_any o hs B n cb ho (by omega) hc p w' hB
  have cR := fun B cb hc w' hB => rget_any B n cb o ho hc p w' hB
  have cV := fun B cb hc w' hB => value_yes o hs B n cb ho (by omega) hc p hb w' hB
  rw [hb] at cG cR
  clear hb ho hs
  go_enter Try.func7, Try.ntmps7
  go_wp2_with fail
  refine cO.mono ?_
  rintro e w1 ⟨B, cb, rfl, hc1, hc2, hB1, hb1⟩
  go_wp2_with fail
  refine (cG B cb ⟨hc1, hc2⟩ _ hB1).mono ?_
  rintro e w2 ⟨rfl, hb2⟩
  have hB2 := hB1.below hb2 (Nat.le_refl _)
  go_wp2_with fail
  refine (cR B cb ⟨hc1, hc2⟩ _ hB2).mono ?_
  rintro e w2' ⟨rfl, rfl⟩
  go_wp2_with fail
  refine (cF _).mono ?_
  rintro e w3 ⟨rfl, hb3⟩
  have hB3 := hB2.below hb3 (Nat.le_refl _)
  have hb03 := (hb1.trans (hb2.mono hb1.size)).trans (hb3.mono (Nat.le_trans hb1.size hb2.size))
  clear hb1 hb2 hb3 hB1 hB2 cO
  go_wp2_with (go_at_call 19; (with_reducible refine (cK _).mono ?_); rintro e w4 ⟨rfl, hb4⟩)
  have hz := hb03.size
  have hB4 := (hB3.below (((Below.refl _ w3).alloc (Nat.le_refl _) _)) (Nat.le_refl _)).below hb4 (Nat.le_refl _)
  refine (cV B cb ⟨hc1, hc2⟩ _ hB4).mono ?_
  rintro e w5 ⟨rfl, hb5⟩
  go_wp2
  go_ret
  exact ⟨ret_bool' (by simp), ((hb03.alloc hz _).trans (hb4.mono (by rw [World.size_alloc]; omega))).trans (hb5.mono (by have := hb4.size; rw [World.size_alloc] at this; omega))⟩

set_option maxRecDepth 100000 in
set_option maxHeartbeats 8000000 in
theorem gets_no (o : List Pr) (hs : SortP o) (n : Nat) (ho : o.length = n) (hn : n ≤ 60) (A : Option Addr) (len c : Nat) (p : Int) (w : World) (cO : Calls Try.prog 29 #[.slice A len c] w (OutP o n w)) (hb : getB o p = false)
    (ka kb kc kd ke : Int) (kf : ByteArray) (is : Bool) (cF : ∀ w', Calls Try.prog 18 #[.int .i64 p] w' fun e w'' => e = .returned (.tuple #[.agg #[.int .i64 ka, .int .i64 kb, .int .i64 kc, .int .i64 kd, .int .i64 ke, .string kf], .bool is]) ∧ Below w'.heap.size w' w'')
    (e0 : Int) (cD : ∀ w', Calls Try.prog 16 #[.int .i64 p] w' fun e w'' => e = .returned (.tuple #[.int .i64 ke, .int .i64 e0]) ∧ Below w'.heap.size w' w'') :
    Calls Try.prog 7 #[.slice A len c, .int .i64 p] w fun e w' => e = .returned (.bool true) ∧ Below w.heap.size w w' := by
  have cK := fun w' => known_any w'
  have h0 := get_none (l := o) (p := p) fun j h he => by
    unfold getB at hb
    rw [List.any_eq_false] at hb
    exact hb o[j] (List.getElem_mem h) (by simpa using he)
  have cG := fun B cb hc w' hB => get_any o hs B n cb ho (by omega) hc p w' hB
  have cR := fun B cb hc w' hB => rget_any B n cb o ho hc p w' hB
  have cV := fun B cb hc w' hB => value_no o hs B n cb ho (by omega) hc p hb ke e0 cD w' hB
  rw [hb, h0.2] at cG cR
  clear hb ho hs h0
  go_enter Try.func7, Try.ntmps7
  go_wp2_with fail
  refine cO.mono ?_
  rintro e w1 ⟨B, cb, rfl, hc1, hc2, hB1, hb1⟩
  go_wp2_with fail
  refine (cG B cb ⟨hc1, hc2⟩ _ hB1).mono ?_
  rintro e w2 ⟨rfl, hb2⟩
  have hB2 := hB1.below hb2 (Nat.le_refl _)
  go_wp2_with fail
  refine (cR B cb ⟨hc1, hc2⟩ _ hB2).mono ?_
  rintro e w2' ⟨rfl, rfl⟩
  go_wp2_with fail
  refine (cF _).mono ?_
  rintro e w3 ⟨rfl, hb3⟩
  have hB3 := hB2.below hb3 (Nat.le_refl _)
  have hb03 := (hb1.trans (hb2.mono hb1.size)).trans (hb3.mono (Nat.le_trans hb1.size hb2.size))
  clear hb1 hb2 hb3 hB1 hB2 cO cG cR cF cD
  go_wp2_with fail
  have ob := ObjAt.new w3 #[.int .i64 ka, .int .i64 kb, .int .i64 kc, .int .i64 kd, .int .i64 ke, .string kf] 30
  have B4 : Below w.heap.size w (w3.alloc (.cells #[.int .i64 ka, .int .i64 kb, .int .i64 kc, .int .i64 kd, .int .i64 ke, .string kf] 30)) := hb03.alloc hb03.size _
  have hB4 := hB3.below (((Below.refl _ w3).alloc (Nat.le_refl _) (.cells #[.int .i64 ka, .int .i64 kb, .int .i64 kc, .int .i64 kd, .int .i64 ke, .string kf] 30))) (Nat.le_refl _)
  clear hB3 hb03
  generalize w3.heap.size = bx at ob ⊢
  generalize (w3.alloc (.cells #[.int .i64 ka, .int .i64 kb, .int .i64 kc, .int .i64 kd, .int .i64 ke, .string kf] 30)) = w4 at ob B4 hB4 ⊢
  have s4 := ob.s4
  have hbx := ob.lt
  have hB4d : PrAt w4.drew B o := hB4.below (bdrew1 (Below.refl _ w4)) (Nat.le_refl _)
  clear ob
  go_region_held3 (fun w' => w'.cell? ⟨bx, 4, none⟩ = some (.int .i64 ke))
    (first
      | go_keep
      | (exact (hb5.cell (p := ⟨bx, 4, none⟩) hbx).trans s4)
      | (exact (hb6.cell (p := ⟨bx, 4, none⟩) (Nat.lt_of_lt_of_le hbx hb5.size)).trans ((hb5.cell (p := ⟨bx, 4, none⟩) hbx).trans s4)))
    (first
      | (go_at_call 19; (with_reducible refine (cK _).mono ?_); rintro e w5 ⟨rfl, hb5⟩)
      | (go_at_call 32; (with_reducible refine (cV B cb ⟨hc1, hc2⟩ _ (hB4d.below hb5 (Nat.le_refl _))).mono ?_); rintro e w6 ⟨rfl, hb6⟩))
  go_wp2
  go_ret
  exact ⟨ret_bool' (by simp), ((bdrew1 B4).trans (hb5.mono B4.size)).trans (hb6.mono (Nat.le_trans B4.size hb5.size))⟩
theorem law_gets (A : Option Addr) (len c : Nat) (l : List Pr) (p : Int) (w : World) (hA : PropsIn w A len c l) : Calls Try.prog 7 #[.slice A len c, .int .i64 p] w fun e w' => e = .returned (.bool true) ∧ Below w.heap.size w w' := by
  have cO := ordered_out A len c l w hA
  have hs := ordP_sort l
  have hn := ordP_len l
  generalize ordP l = o at cO hs hn
  by_cases hx : ∃ r ∈ tabP, r.1 = p
  · obtain ⟨⟨ra, rb, rc, rd, re, rf⟩, hm, rfl⟩ := hx
    cases hb : getB o ra with
    | true => exact gets_yes o hs _ rfl hn A len c ra w cO hb _ _ _ _ _ _ _ (fun w' => of_row ra rb rc rd re rf hm w')
    | false => exact gets_no o hs _ rfl hn A len c ra w cO hb _ _ _ _ _ _ _ (fun w' => of_row ra rb rc rd re rf hm w') _ (fun w' => preset_row ra rb rc rd re rf hm w')
  · cases hb : getB o p with
    | true => exact gets_yes o hs _ rfl hn A len c p w cO hb _ _ _ _ _ _ _ (fun w' => of_no p hx w')
    | false => exact gets_no o hs _ rfl hn A len c p w cO hb _ _ _ _ _ _ _ (fun w' => of_no p hx w') _ (fun w' => preset_no p hx w')
end Go.Proofs.Ytjdjfokfilnnoaa
