/- Layer 6: the law of numbers (8), whole. -/
import Derived.Test.YtknbglcmjggkjaaK7
import Derived.Deep.RegionHeld3
namespace Go.Proofs.Ytknbglcmjggkjaa
open Go.RowKit Go.Shelf Go.Lib Co

set_option maxRecDepth 100000 in
set_option maxHeartbeats 8000000 in
theorem numbers_digit {x : Sx} {h : ByteArray} (sx : x.s.size ≤ 200) (ca : ∀ w, Calls Try.prog 14 #[.string h] w fun e w' => e = .returned (.string x.s) ∧ w' = w) (n k : Nat) (hbad : x.bad = []) {m : Nat} (hm : x.s.size = m + 1) (h1 : 48 ≤ (x.s[m]'(by omega)).toNat) (h2 : (x.s[m]'(by omega)).toNat ≤ 57) (w : World) :
    Calls Try.prog 8 #[.int .i64 (n : Nat), .int .i64 (k : Nat), .string h] w (TrueW w) := by
  have hstr := Str.of x.str x.small
  rw [hbad] at hstr
  have cP := fun w' => points_ok hstr w'
  unfold PtsOk at cP
  have hml : m < x.s.size := by omega
  have hmi : (x.s.size : Int) = (m : Int) + 1 := by omega
  go_enter Try.func8, Try.ntmps8
  go_wp2_with (first
    | (go_at_call 14; (with_reducible refine (ca _).mono ?_); rintro e w ⟨rfl, rfl⟩)
    | (go_at_call 26; (with_reducible refine (cP _).mono ?_); rintro e w1 ⟨v1, v2, rfl, _, _, k1⟩)
    | (go_at_call 16; (with_reducible refine (known_any w1).mono ?_); rintro e w2 ⟨rfl, k2⟩))
  refine (known_any w2).mono ?_
  rintro e w3 ⟨rfl, k3⟩
  have HB := Go.Lib.hid ((k1.trans (k2.mono k1.size)).trans (k3.mono (Nat.le_trans k1.size k2.size)))
  go_wp2
  go_ret
  exact ⟨rfl, HB.out⟩
/-- A number as the law compares it. -/
def cmpN (n k : Nat) : Int := if n < k then -1 else if k < n then 1 else 0
theorem numbers_cmp {x : Sx} (sx : x.s.size ≤ 200) (hbad : x.bad = []) (hl : ∀ p, x.P.getLast? = some p → dig p = false) (n k : Nat) (hn : n < 9223372036854775808) (hk : k < 9223372036854775808) (A B : ByteArray) (hA : A = bs (d8 (List.replicate (k % 10) 48 ++ dcm n))) (hB : B = bs (d8 (List.replicate 0 48 ++ dcm k))) (w : World) :
    Calls Try.prog 23 #[.string (x.s ++ A), .string (x.s ++ B), .agg #[.int .i64 1, .bool true, .bool false, .bool false]] w fun e w' => e = .returned (.tuple #[.int .i64 (cmpN n k), .int .i64 0]) ∧ Below w.heap.size w w' := by
  have l1 := dcm_len n 18 (by omega)
  have l2 := dcm_len k 18 (by omega)
  have hlow : ∀ z j, ∀ p ∈ List.replicate z 48 ++ dcm j, p < 128 := by
    intro z j p hp
    rcases List.mem_append.1 hp with hp | hp
    · rw [(List.mem_replicate.1 hp).2]; decide
    · have := dcm_dig j p hp
      simp [dig] at this; omega
  have sA := str_low (hlow (k % 10) n) (by rw [List.length_append, List.length_replicate]; omega)
  have sB := str_low (hlow 0 k) (by rw [List.length_append, List.length_replicate]; omega)
  have hx := x.str
  rw [hbad] at hx
  have zA : A.size ≤ 40 := by rw [hA, bs_size]; unfold d8; rw [List.length_map, List.length_append, List.length_replicate]; omega
  have zB : B.size ≤ 40 := by rw [hB, bs_size]; unfold d8; rw [List.length_map, List.length_append, List.length_replicate]; omega
  rw [← hA] at sA
  rw [← hB] at sB
  have tA := str_app hx sA (by omega)
  have tB := str_app hx sB (by omega)
  have y1 : (x.s ++ A).size ≤ 100000 := by rw [ByteArray.size_append]; omega
  have y2 : (x.s ++ B).size ≤ 100000 := by rw [ByteArray.size_append]; omega
  refine (compare_ok (x := ⟨_, _, _, tA, y1⟩) (y := ⟨_, _, _, tB, y2⟩) (st := 1) true false false rfl rfl (by decide) (by decide) (by show (x.s ++ A).size ≤ 4096; rw [ByteArray.size_append]; omega) (by show (x.s ++ B).size ≤ 4096; rw [ByteArray.size_append]; omega) w).mono ?_
  rintro e w' ⟨rfl, hb⟩
  refine ⟨?_, hb⟩
  have e1 := cmpX_eq (st := 1) (nu := true) (ig := false) (uf := false) (x := ⟨_, _, _, tA, y1⟩) (y := ⟨_, _, _, tB, y2⟩) (by show (x.s ++ A).size ≤ 4096; rw [ByteArray.size_append]; omega) (by show (x.s ++ B).size ≤ 4096; rw [ByteArray.size_append]; omega)
  unfold cmpX at e1
  rw [e1]
  have e2 := cmp_num (upN false) false (x.s ++ A).data.toList (x.s ++ B).data.toList x.P hl n k (k % 10)
  simp only [List.replicate_zero, List.nil_append]
  exact congrArg (fun v => Ending.returned (.tuple #[.int .i64 v, .int .i64 0])) e2
set_option maxRecDepth 100000 in
set_option maxHeartbeats 8000000 in
theorem numbers_empty {x : Sx} {h : ByteArray} (sx : x.s.size ≤ 200) (ca : ∀ w, Calls Try.prog 14 #[.string h] w fun e w' => e = .returned (.string x.s) ∧ w' = w) (n k : Nat) (hn : n < 9223372036854775808) (hk : k < 9223372036854775808) (hbad : x.bad = []) (hl : ∀ p, x.P.getLast? = some p → dig p = false) (hm : x.s.size = 0) (w : World) :
    Calls Try.prog 8 #[.int .i64 (n : Nat), .int .i64 (k : Nat), .string h] w (TrueW w) := by
  obtain ⟨A, hA⟩ : ∃ A, A = bs (d8 (List.replicate (k % 10) 48 ++ dcm n)) := ⟨_, rfl⟩
  obtain ⟨B, hB⟩ : ∃ B, B = bs (d8 (List.replicate 0 48 ++ dcm k)) := ⟨_, rfl⟩
  have cC := fun w' => numbers_cmp sx hbad hl n k hn hk A B hA hB w'
  have l1 := dcm_len n 18 (by omega)
  have l2 := dcm_len k 18 (by omega)
  have zA : A.size ≤ 40 := by rw [hA, bs_size]; unfold d8; rw [List.length_map, List.length_append, List.length_replicate]; omega
  have zB : B.size ≤ 40 := by rw [hB, bs_size]; unfold d8; rw [List.length_map, List.length_append, List.length_replicate]; omega
  have cA : ∀ w', Calls Try.prog 27 #[.int .i64 (n : Nat), .int .i64 ((k : Int).tmod 10)] w' fun e w'' => e = .returned (.string A) ∧ Below w'.heap.size w' w'' := fun w' => by
    have := digits_any n (k % 10) hn (by omega) w'
    rw [show (((k % 10 : Nat) : Nat) : Int) = (k : Int).tmod 10 from rfl] at this
    unfold StrA at this
    rw [← hA] at this
    exact this
  have cB : ∀ w', Calls Try.prog 27 #[.int .i64 (k : Nat), .int .i64 0] w' fun e w'' => e = .returned (.string B) ∧ Below w'.heap.size w' w'' := fun w' => by
    have := digits_any k 0 hk (by omega) w'
    unfold StrA at this
    rw [← hB] at this
    exact this
  have hstr := Str.of x.str x.small
  rw [hbad] at hstr
  have cP := fun w' => points_ok hstr w'
  unfold PtsOk at cP
  clear hA hB l1 l2 hl
  have hmi : (x.s.size : Int) = 0 := by omega
  go_enter Try.func8, Try.ntmps8
  go_wp2_with (first
    | (go_at_call 14; (with_reducible refine (ca _).mono ?_); rintro e w ⟨rfl, rfl⟩)
    | (go_at_call 26; (with_reducible refine (cP _).mono ?_); rintro e w1 ⟨v1, v2, rfl, _, _, k1⟩)
    | (go_at_call 16; (with_reducible refine (known_any w1).mono ?_); rintro e w2 ⟨rfl, k2⟩))
  clear hmi hm
  have q1 : ¬ 9223372036854775807 < x.s.size + A.size := by omega
  have q2 : ¬ 9223372036854775807 < x.s.size + B.size := by omega
  have o1 := ObjAt.new w2 #[.int .i64 1, .bool true, .bool false, .bool false] 23
  have hB : Below w.heap.size w (w2.alloc (.cells #[.int .i64 1, .bool true, .bool false, .bool false] 23)) := (k1.trans (k2.mono k1.size)).alloc (Nat.le_trans k1.size k2.size) _
  have hlt : w.heap.size ≤ w2.heap.size := Nat.le_trans k1.size k2.size
  clear k1 k2
  generalize w2.alloc (.cells #[.int .i64 1, .bool true, .bool false, .bool false] 23) = W at *
  have o2 : ObjAt W.drew w2.heap.size #[.int .i64 1, .bool true, .bool false, .bool false] 23 := o1
  go_region_held3 (fun w' => w'.cell? ⟨w2.heap.size, 0, none⟩ = some (.int .i64 1) ∧ w'.cell? ⟨w2.heap.size, 1, none⟩ = some (.bool true) ∧ w'.cell? ⟨w2.heap.size, 2, none⟩ = some (.bool false) ∧ w'.cell? ⟨w2.heap.size, 3, none⟩ = some (.bool false))
    (first
      | exact ⟨o5.o0, o5.o1, o5.o2, o5.o3⟩
      | exact ⟨o4.o0, o4.o1, o4.o2, o4.o3⟩
      | exact ⟨o3.o0, o3.o1, o3.o2, o3.o3⟩
      | exact ⟨o2.o0, o2.o1, o2.o2, o2.o3⟩
      | go_keep)
    (first
      | (go_at_call 23; (with_reducible refine (cC _).mono ?_); rintro e w5 ⟨rfl, k5⟩; have o5 := o4.below k5)
      | (go_at_call 27; (with_reducible refine (cA _).mono ?_); rintro e w4 ⟨rfl, k4⟩; have o4 := o3.below k4)
      | (go_at_call 27; (with_reducible refine (cB _).mono ?_); rintro e w4 ⟨rfl, k4⟩; have o4 := o3.below k4)
      | (go_at_call 27; (with_reducible refine (cA _).mono ?_); rintro e w3 ⟨rfl, k3⟩; have o3 := o2.below k3)
      | (go_at_call 27; (with_reducible refine (cB _).mono ?_); rintro e w3 ⟨rfl, k3⟩; have o3 := o2.below k3)
      | fail)
  all_goals
    have HB := Go.Lib.hid (show Below w.heap.size w w5 from ((hB.drew.trans (k3.mono hB.size)).trans (k4.mono (Nat.le_trans hB.size k3.size))).trans (k5.mono (Nat.le_trans hB.size (Nat.le_trans k3.size k4.size))))
    clear k3 k4 k5 o1 o2 o3 o4 o5 hB hlt cA cB cC cP ca hstr zA zB
    rcases (show n < k ∨ n = k ∨ k < n by omega) with hc | hc | hc
    · have i1 : (n : Int) < (k : Int) := by omega
      have i2 : ¬ (k : Int) < (n : Int) := by omega
      rw [show cmpN n k = -1 by unfold cmpN; rw [if_pos hc]]
      clear hc
      go_wp2
      go_ret
      exact ⟨rfl, HB.out⟩
    · rw [show cmpN n k = 0 by unfold cmpN; rw [if_neg (by omega), if_neg (by omega)]]
      have i1 : ¬ (n : Int) < (k : Int) := by omega
      have i2 : ¬ (k : Int) < (n : Int) := by omega
      clear hc
      go_wp2
      go_ret
      exact ⟨rfl, HB.out⟩
    · have i1 : ¬ (n : Int) < (k : Int) := by omega
      have i2 : (k : Int) < (n : Int) := by omega
      rw [show cmpN n k = 1 by unfold cmpN; rw [if_neg (by omega), if_pos hc]]
      clear hc
      go_wp2
      go_ret
      exact ⟨rfl, HB.out⟩
set_option maxRecDepth 100000 in
set_option maxHeartbeats 8000000 in
theorem numbers_low {x : Sx} {h : ByteArray} (sx : x.s.size ≤ 200) (ca : ∀ w, Calls Try.prog 14 #[.string h] w fun e w' => e = .returned (.string x.s) ∧ w' = w) (n k : Nat) (hn : n < 9223372036854775808) (hk : k < 9223372036854775808) (hbad : x.bad = []) (hl : ∀ p, x.P.getLast? = some p → dig p = false) {m : Nat} (hm : x.s.size = m + 1) (h1 : (x.s[m]'(by omega)).toNat < 48) (w : World) :
    Calls Try.prog 8 #[.int .i64 (n : Nat), .int .i64 (k : Nat), .string h] w (TrueW w) := by
  obtain ⟨A, hA⟩ : ∃ A, A = bs (d8 (List.replicate (k % 10) 48 ++ dcm n)) := ⟨_, rfl⟩
  obtain ⟨B, hB⟩ : ∃ B, B = bs (d8 (List.replicate 0 48 ++ dcm k)) := ⟨_, rfl⟩
  have cC := fun w' => numbers_cmp sx hbad hl n k hn hk A B hA hB w'
  have l1 := dcm_len n 18 (by omega)
  have l2 := dcm_len k 18 (by omega)
  have zA : A.size ≤ 40 := by rw [hA, bs_size]; unfold d8; rw [List.length_map, List.length_append, List.length_replicate]; omega
  have zB : B.size ≤ 40 := by rw [hB, bs_size]; unfold d8; rw [List.length_map, List.length_append, List.length_replicate]; omega
  have cA : ∀ w', Calls Try.prog 27 #[.int .i64 (n : Nat), .int .i64 ((k : Int).tmod 10)] w' fun e w'' => e = .returned (.string A) ∧ Below w'.heap.size w' w'' := fun w' => by
    have := digits_any n (k % 10) hn (by omega) w'
    rw [show (((k % 10 : Nat) : Nat) : Int) = (k : Int).tmod 10 from rfl] at this
    unfold StrA at this
    rw [← hA] at this
    exact this
  have cB : ∀ w', Calls Try.prog 27 #[.int .i64 (k : Nat), .int .i64 0] w' fun e w'' => e = .returned (.string B) ∧ Below w'.heap.size w' w'' := fun w' => by
    have := digits_any k 0 hk (by omega) w'
    unfold StrA at this
    rw [← hB] at this
    exact this
  have hstr := Str.of x.str x.small
  rw [hbad] at hstr
  have cP := fun w' => points_ok hstr w'
  unfold PtsOk at cP
  clear hA hB l1 l2 hl
  have hml : m < x.s.size := by omega
  have hmi : (x.s.size : Int) = (m : Int) + 1 := by omega
  go_enter Try.func8, Try.ntmps8
  go_wp2_with (first
    | (go_at_call 14; (with_reducible refine (ca _).mono ?_); rintro e w ⟨rfl, rfl⟩)
    | (go_at_call 26; (with_reducible refine (cP _).mono ?_); rintro e w1 ⟨v1, v2, rfl, _, _, k1⟩)
    | (go_at_call 16; (with_reducible refine (known_any w1).mono ?_); rintro e w2 ⟨rfl, k2⟩))
  clear hmi
  have q3 : ¬ 9223372036854775807 < m + 1 + A.size := by omega
  have q4 : ¬ 9223372036854775807 < m + 1 + B.size := by omega
  have q1 : ¬ 9223372036854775807 < x.s.size + A.size := by omega
  have q2 : ¬ 9223372036854775807 < x.s.size + B.size := by omega
  have o1 := ObjAt.new w2 #[.int .i64 1, .bool true, .bool false, .bool false] 23
  have hB : Below w.heap.size w (w2.alloc (.cells #[.int .i64 1, .bool true, .bool false, .bool false] 23)) := (k1.trans (k2.mono k1.size)).alloc (Nat.le_trans k1.size k2.size) _
  have hlt : w.heap.size ≤ w2.heap.size := Nat.le_trans k1.size k2.size
  clear k1 k2
  generalize w2.alloc (.cells #[.int .i64 1, .bool true, .bool false, .bool false] 23) = W at *
  have o2 : ObjAt W.drew w2.heap.size #[.int .i64 1, .bool true, .bool false, .bool false] 23 := o1
  go_region_held3 (fun w' => w'.cell? ⟨w2.heap.size, 0, none⟩ = some (.int .i64 1) ∧ w'.cell? ⟨w2.heap.size, 1, none⟩ = some (.bool true) ∧ w'.cell? ⟨w2.heap.size, 2, none⟩ = some (.bool false) ∧ w'.cell? ⟨w2.heap.size, 3, none⟩ = some (.bool false))
    (first
      | exact ⟨o5.o0, o5.o1, o5.o2, o5.o3⟩
      | exact ⟨o4.o0, o4.o1, o4.o2, o4.o3⟩
      | exact ⟨o3.o0, o3.o1, o3.o2, o3.o3⟩
      | exact ⟨o2.o0, o2.o1, o2.o2, o2.o3⟩
      | go_keep)
    (first
      | (go_at_call 23; (with_reducible refine (cC _).mono ?_); rintro e w5 ⟨rfl, k5⟩; have o5 := o4.below k5)
      | (go_at_call 27; (with_reducible refine (cA _).mono ?_); rintro e w4 ⟨rfl, k4⟩; have o4 := o3.below k4)
      | (go_at_call 27; (with_reducible refine (cB _).mono ?_); rintro e w4 ⟨rfl, k4⟩; have o4 := o3.below k4)
      | (go_at_call 27; (with_reducible refine (cA _).mono ?_); rintro e w3 ⟨rfl, k3⟩; have o3 := o2.below k3)
      | (go_at_call 27; (with_reducible refine (cB _).mono ?_); rintro e w3 ⟨rfl, k3⟩; have o3 := o2.below k3)
      | fail)
  all_goals
    have HB := Go.Lib.hid (show Below w.heap.size w w5 from ((hB.drew.trans (k3.mono hB.size)).trans (k4.mono (Nat.le_trans hB.size k3.size))).trans (k5.mono (Nat.le_trans hB.size (Nat.le_trans k3.size k4.size))))
    clear k3 k4 k5 o1 o2 o3 o4 o5 hB hlt cA cB cC cP ca hstr zA zB
    rcases (show n < k ∨ n = k ∨ k < n by omega) with hc | hc | hc
    · have i1 : (n : Int) < (k : Int) := by omega
      have i2 : ¬ (k : Int) < (n : Int) := by omega
      rw [show cmpN n k = -1 by unfold cmpN; rw [if_pos hc]]
      clear hc
      go_wp2
      go_ret
      exact ⟨rfl, HB.out⟩
    · rw [show cmpN n k = 0 by unfold cmpN; rw [if_neg (by omega), if_neg (by omega)]]
      have i1 : ¬ (n : Int) < (k : Int) := by omega
      have i2 : ¬ (k : Int) < (n : Int) := by omega
      clear hc
      go_wp2
      go_ret
      exact ⟨rfl, HB.out⟩
    · have i1 : ¬ (n : Int) < (k : Int) := by omega
      have i2 : (k : Int) < (n : Int) := by omega
      rw [show cmpN n k = 1 by unfold cmpN; rw [if_neg (by omega), if_pos hc]]
      clear hc
      go_wp2
      go_ret
      exact ⟨rfl, HB.out⟩
set_option maxRecDepth 100000 in
set_option maxHeartbeats 8000000 in
theorem numbers_high {x : Sx} {h : ByteArray} (sx : x.s.size ≤ 200) (ca : ∀ w, Calls Try.prog 14 #[.string h] w fun e w' => e = .returned (.string x.s) ∧ w' = w) (n k : Nat) (hn : n < 9223372036854775808) (hk : k < 9223372036854775808) (hbad : x.bad = []) (hl : ∀ p, x.P.getLast? = some p → dig p = false) {m : Nat} (hm : x.s.size = m + 1) (h1 : 57 < (x.s[m]'(by omega)).toNat) (w : World) :
    Calls Try.prog 8 #[.int .i64 (n : Nat), .int .i64 (k : Nat), .string h] w (TrueW w) := by
  obtain ⟨A, hA⟩ : ∃ A, A = bs (d8 (List.replicate (k % 10) 48 ++ dcm n)) := ⟨_, rfl⟩
  obtain ⟨B, hB⟩ : ∃ B, B = bs (d8 (List.replicate 0 48 ++ dcm k)) := ⟨_, rfl⟩
  have cC := fun w' => numbers_cmp sx hbad hl n k hn hk A B hA hB w'
  have l1 := dcm_len n 18 (by omega)
  have l2 := dcm_len k 18 (by omega)
  have zA : A.size ≤ 40 := by rw [hA, bs_size]; unfold d8; rw [List.length_map, List.length_append, List.length_replicate]; omega
  have zB : B.size ≤ 40 := by rw [hB, bs_size]; unfold d8; rw [List.length_map, List.length_append, List.length_replicate]; omega
  have cA : ∀ w', Calls Try.prog 27 #[.int .i64 (n : Nat), .int .i64 ((k : Int).tmod 10)] w' fun e w'' => e = .returned (.string A) ∧ Below w'.heap.size w' w'' := fun w' => by
    have := digits_any n (k % 10) hn (by omega) w'
    rw [show (((k % 10 : Nat) : Nat) : Int) = (k : Int).tmod 10 from rfl] at this
    unfold StrA at this
    rw [← hA] at this
    exact this
  have cB : ∀ w', Calls Try.prog 27 #[.int .i64 (k : Nat), .int .i64 0] w' fun e w'' => e = .returned (.string B) ∧ Below w'.heap.size w' w'' := fun w' => by
    have := digits_any k 0 hk (by omega) w'
    unfold StrA at this
    rw [← hB] at this
    exact this
  have hstr := Str.of x.str x.small
  rw [hbad] at hstr
  have cP := fun w' => points_ok hstr w'
  unfold PtsOk at cP
  clear hA hB l1 l2 hl
  have hml : m < x.s.size := by omega
  have hmi : (x.s.size : Int) = (m : Int) + 1 := by omega
  go_enter Try.func8, Try.ntmps8
  go_wp2_with (first
    | (go_at_call 14; (with_reducible refine (ca _).mono ?_); rintro e w ⟨rfl, rfl⟩)
    | (go_at_call 26; (with_reducible refine (cP _).mono ?_); rintro e w1 ⟨v1, v2, rfl, _, _, k1⟩)
    | (go_at_call 16; (with_reducible refine (known_any w1).mono ?_); rintro e w2 ⟨rfl, k2⟩))
  clear hmi
  have q3 : ¬ 9223372036854775807 < m + 1 + A.size := by omega
  have q4 : ¬ 9223372036854775807 < m + 1 + B.size := by omega
  have q1 : ¬ 9223372036854775807 < x.s.size + A.size := by omega
  have q2 : ¬ 9223372036854775807 < x.s.size + B.size := by omega
  have o1 := ObjAt.new w2 #[.int .i64 1, .bool true, .bool false, .bool false] 23
  have hB : Below w.heap.size w (w2.alloc (.cells #[.int .i64 1, .bool true, .bool false, .bool false] 23)) := (k1.trans (k2.mono k1.size)).alloc (Nat.le_trans k1.size k2.size) _
  have hlt : w.heap.size ≤ w2.heap.size := Nat.le_trans k1.size k2.size
  clear k1 k2
  generalize w2.alloc (.cells #[.int .i64 1, .bool true, .bool false, .bool false] 23) = W at *
  have o2 : ObjAt W.drew w2.heap.size #[.int .i64 1, .bool true, .bool false, .bool false] 23 := o1
  go_region_held3 (fun w' => w'.cell? ⟨w2.heap.size, 0, none⟩ = some (.int .i64 1) ∧ w'.cell? ⟨w2.heap.size, 1, none⟩ = some (.bool true) ∧ w'.cell? ⟨w2.heap.size, 2, none⟩ = some (.bool false) ∧ w'.cell? ⟨w2.heap.size, 3, none⟩ = some (.bool false))
    (first
      | exact ⟨o5.o0, o5.o1, o5.o2, o5.o3⟩
      | exact ⟨o4.o0, o4.o1, o4.o2, o4.o3⟩
      | exact ⟨o3.o0, o3.o1, o3.o2, o3.o3⟩
      | exact ⟨o2.o0, o2.o1, o2.o2, o2.o3⟩
      | go_keep)
    (first
      | (go_at_call 23; (with_reducible refine (cC _).mono ?_); rintro e w5 ⟨rfl, k5⟩; have o5 := o4.below k5)
      | (go_at_call 27; (with_reducible refine (cA _).mono ?_); rintro e w4 ⟨rfl, k4⟩; have o4 := o3.below k4)
      | (go_at_call 27; (with_reducible refine (cB _).mono ?_); rintro e w4 ⟨rfl, k4⟩; have o4 := o3.below k4)
      | (go_at_call 27; (with_reducible refine (cA _).mono ?_); rintro e w3 ⟨rfl, k3⟩; have o3 := o2.below k3)
      | (go_at_call 27; (with_reducible refine (cB _).mono ?_); rintro e w3 ⟨rfl, k3⟩; have o3 := o2.below k3)
      | fail)
  all_goals
    have HB := Go.Lib.hid (show Below w.heap.size w w5 from ((hB.drew.trans (k3.mono hB.size)).trans (k4.mono (Nat.le_trans hB.size k3.size))).trans (k5.mono (Nat.le_trans hB.size (Nat.le_trans k3.size k4.size))))
    clear k3 k4 k5 o1 o2 o3 o4 o5 hB hlt cA cB cC cP ca hstr zA zB
    rcases (show n < k ∨ n = k ∨ k < n by omega) with hc | hc | hc
    · have i1 : (n : Int) < (k : Int) := by omega
      have i2 : ¬ (k : Int) < (n : Int) := by omega
      rw [show cmpN n k = -1 by unfold cmpN; rw [if_pos hc]]
      clear hc
      go_wp2
      go_ret
      exact ⟨rfl, HB.out⟩
    · rw [show cmpN n k = 0 by unfold cmpN; rw [if_neg (by omega), if_neg (by omega)]]
      have i1 : ¬ (n : Int) < (k : Int) := by omega
      have i2 : ¬ (k : Int) < (n : Int) := by omega
      clear hc
      go_wp2
      go_ret
      exact ⟨rfl, HB.out⟩
    · have i1 : ¬ (n : Int) < (k : Int) := by omega
      have i2 : (k : Int) < (n : Int) := by omega
      rw [show cmpN n k = 1 by unfold cmpN; rw [if_neg (by omega), if_pos hc]]
      clear hc
      go_wp2
      go_ret
      exact ⟨rfl, HB.out⟩
theorem law_numbers {w : World} (a : Int) (ha : (Lit.int .i64 a).wf = true) (b : Int) (hb : (Lit.int .i64 b).wf = true) (h : ByteArray) (hh : h.size ≤ maxLen) : Calls Try.prog 8 #[.int .i64 a, .int .i64 b, .string h] w (TrueW w) := by
  obtain ⟨x, sx, cx⟩ := cut_x h hh
  by_cases hq : a < 0 ∨ b < 0 ∨ x.bad ≠ []
  · exact numbers_known cx a b hq w
  · have hbad : x.bad = [] := by
      by_cases h : x.bad = []
      · exact h
      · exact absurd (.inr (.inr h)) hq
    obtain ⟨n, rfl⟩ : ∃ n : Nat, a = (n : Nat) := ⟨a.toNat, by have : ¬ a < 0 := fun h => hq (.inl h); omega⟩
    obtain ⟨k, rfl⟩ : ∃ k : Nat, b = (k : Nat) := ⟨b.toNat, by have : ¬ b < 0 := fun h => hq (.inr (.inl h)); omega⟩
    have hn : n < 9223372036854775808 := by
      simp [Lit.wf, IntKind.bits, IntKind.signed, IntKind.min, IntKind.max] at ha
      omega
    have hk : k < 9223372036854775808 := by
      simp [Lit.wf, IntKind.bits, IntKind.signed, IntKind.min, IntKind.max] at hb
      omega
    have hx := x.str
    rw [hbad] at hx
    rcases Nat.eq_zero_or_pos x.s.size with h0 | h0
    · refine numbers_empty sx cx n k hn hk hbad (fun p hp => ?_) h0 w
      have h1 := hx.size
      have : x.P = [] := by
        cases hP : x.P with
        | nil => rfl
        | cons c r =>
          rw [hP] at h1
          have := (U.enc_pos c).1
          unfold U.bytes at h1
          rw [List.flatMap_cons, List.length_append] at h1
          omega
      rw [this] at hp; cases hp
    · obtain ⟨m, hm⟩ : ∃ m, x.s.size = m + 1 := ⟨x.s.size - 1, by omega⟩
      by_cases h1 : 48 ≤ (x.s[m]'(by omega)).toNat ∧ (x.s[m]'(by omega)).toNat ≤ 57
      · exact numbers_digit sx cx n k hbad hm h1.1 h1.2 w
      · have hl := last_dig hx hm h1
        by_cases h2 : (x.s[m]'(by omega)).toNat < 48
        · exact numbers_low sx cx n k hn hk hbad hl hm h2 w
        · exact numbers_high sx cx n k hn hk hbad hl hm (by omega) w
end Go.Proofs.Ytknbglcmjggkjaa
