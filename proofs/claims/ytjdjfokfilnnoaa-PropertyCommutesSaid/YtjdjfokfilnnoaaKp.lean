/- Layer 7: the law of commuting. -/
import Derived.Test.YtjdjfokfilnnoaaKs
import Derived.Deep.RegionHeld3
namespace Go.Proofs.Ytjdjfokfilnnoaa
open Go.RowKit Go.Lib

theorem equal_same (A B : Option Addr) (n m c d : Nat) (l l' : List Pr) (hl : l.length = n) (hl' : l'.length = m) (hc : n ≤ c ∧ c ≤ maxLen) (hd : m ≤ d ∧ d ≤ maxLen) (he : l = l') (w : World) (hA : PrAt w A l) (hB : PrAt w B l') :
    Calls Try.prog 39 #[.slice A n c, .slice B m d] w fun e w' => e = .returned (.bool true) ∧ Below w.heap.size w w' :=
  (equal_any A B n m c d l l' hl hl' hc hd w hA hB).mono fun _ _ ⟨h1, h2⟩ => ⟨by rw [h1, decide_eq_true he], h2⟩
theorem sets_comm {o : List Pr} (hs : SortP o) {xk xv yk yv : Int} (h : xk ≠ yk) : setP (setP o xk xv) yk yv = setP (setP o yk yv) xk xv :=
  look_ext (srt_set (srt_set (srt_iff.1 hs) _ _) _ _) (srt_set (srt_set (srt_iff.1 hs) _ _) _ _) fun p => by
    rw [look_set (srt_set (srt_iff.1 hs) _ _), look_set (srt_iff.1 hs), look_set (srt_set (srt_iff.1 hs) _ _), look_set (srt_iff.1 hs)]
    by_cases h1 : p = yk
    · subst h1; rw [if_pos rfl, if_neg (fun e => h e.symm), if_pos rfl]
    · rw [if_neg h1, if_neg h1]
theorem set_clear_comm {o : List Pr} (hs : SortP o) {xk xv yk : Int} (h : xk ≠ yk) : clearP (setP o xk xv) yk = setP (clearP o yk) xk xv :=
  look_ext (srt_clear (srt_set (srt_iff.1 hs) _ _) _) (srt_set (srt_clear (srt_iff.1 hs) _) _ _) fun p => by
    rw [look_clear, look_set (srt_iff.1 hs), look_set (srt_clear (srt_iff.1 hs) _), look_clear]
    by_cases h1 : p = yk
    · subst h1; rw [if_pos rfl, if_neg (fun e => h e.symm), if_pos rfl]
    · rw [if_neg h1, if_neg h1]
set_option maxRecDepth 100000 in
set_option maxHeartbeats 40000000 in
theorem commutes_in (A : Option Addr) (m c : Nat) (z o : List Pr) (xk xv yk yv : Int) (hs : SortP o) (hq : o.length ≤ 60) (cO : ∀ w, PrAt w A z → Calls Try.prog 29 #[.slice A m c] w (OutN o w)) (w : World) (hA : PrAt w A z) :
    Calls Try.prog 9 #[.slice A m c, .agg #[.int .i64 xk, .int .i64 xv], .agg #[.int .i64 yk, .int .i64 yv]] w fun e w' => e = .returned (.bool true) ∧ Below w.heap.size w w' := by
  have cK := fun w' => known_any w'
  have ob0 := (ObjAt.new w #[.int .i64 xk, .int .i64 xv] 57).alloc (.cells #[.int .i64 yk, .int .i64 yv] 57)
  have oc0 := ObjAt.new (w.alloc (.cells #[.int .i64 xk, .int .i64 xv] 57)) #[.int .i64 yk, .int .i64 yv] 57
  rw [World.size_alloc] at oc0
  have HB0 : Below w.heap.size w ((w.alloc (.cells #[.int .i64 xk, .int .i64 xv] 57)).alloc (.cells #[.int .i64 yk, .int .i64 yv] 57)) := ((Below.refl _ w).alloc (Nat.le_refl _) _).alloc (by rw [World.size_alloc]; omega) _
  have hA1 := hA.below HB0 (Nat.le_refl _)
  have cG := fun l (hl : SortP l) p B n cb ho hc hn w' hB => get_any l hl B n cb ho (show n ≤ 1000 from hn) hc p w' hB
  clear hA
  go_enter Try.func9, Try.ntmps9
  go_wp2_with fail
  refine (cO _ hA1).mono ?_
  rintro e w1 ⟨B1, n1, c1, rfl, l1, x1, y1, Q1, hb1⟩
  have HBB1 := HB0.trans (hb1.mono HB0.size)
  have ob_1 := ob0.below hb1
  have oc_1 := oc0.below hb1
  have HL1 := Go.Lib.hid l1
  clear HB0 hb1 ob0 oc0 l1
  have L1 : n1 ≤ 60 := by have := HL1.out; omega
  by_cases hk : xk = yk
  · have hkb : (xk == yk) = true := by simpa using hk
    have HK := Go.Lib.hid hk
    clear hk
    go_wp2_with fail
    refine (cK _).mono ?_
    rintro e w2 ⟨rfl, hb2⟩
    have Po_2 := Q1.below hb2 (Nat.le_refl _)
    have HBB2 := HBB1.trans (hb2.mono HBB1.size)
    have ob_2 := ob_1.below hb2
    have oc_2 := oc_1.below hb2
    clear Q1 HBB1 hb2 ob_1 oc_1
    have sx0 := ob_2.a0
    have sx1 := ob_2.a1
    have sy0 := oc_2.a0
    have sy1 := oc_2.a1
    go_wp2_with fail
    refine (cK _).mono ?_
    rintro e w3 ⟨rfl, hb3⟩
    have Po_3 := Po_2.below hb3 (Nat.le_refl _)
    have HBB3 := HBB2.trans (hb3.mono HBB2.size)
    go_wp2
    go_ret
    exact ⟨rfl, HBB3⟩
  · have hkb : (xk == yk) = false := by simpa using hk
    have EAB := Go.Lib.hid (sets_comm (xv := xv) (yv := yv) hs hk)
    have ECD := Go.Lib.hid (set_clear_comm (xv := xv) hs hk)
    have cGa := fun B n cb (ho : (setP (setP o xk xv) yk yv).length = n) hc (hn : n ≤ 1000) w' hB => get_any (setP (setP o xk xv) yk yv) (srt_iff.2 (srt_set (srt_set (srt_iff.1 hs) xk xv) yk yv)) B n cb ho hn hc xk w' hB
    rw [look_getV, look_getB, look_set (srt_set (srt_iff.1 hs) _ _), if_neg hk, look_set (srt_iff.1 hs), if_pos rfl] at cGa
    have cGc := fun B n cb (ho : (clearP (setP o xk xv) yk).length = n) hc (hn : n ≤ 1000) w' hB => get_any (clearP (setP o xk xv) yk) (srt_iff.2 (srt_clear (srt_set (srt_iff.1 hs) xk xv) yk)) B n cb ho hn hc yk w' hB
    rw [look_getV, look_getB, look_clear, if_pos rfl] at cGc
    simp only [Option.getD_some, Option.isSome_some] at cGa
    simp only [Option.getD_none, Option.isSome_none] at cGc
    clear hk
    go_wp2_with fail
    refine (cK _).mono ?_
    rintro e w2 ⟨rfl, hb2⟩
    have Po_2 := Q1.below hb2 (Nat.le_refl _)
    have HBB2 := HBB1.trans (hb2.mono HBB1.size)
    have ob_2 := ob_1.below hb2
    have oc_2 := oc_1.below hb2
    clear Q1 HBB1 hb2 ob_1 oc_1
    have sx0 := ob_2.a0
    have sx1 := ob_2.a1
    have sy0 := oc_2.a0
    have sy1 := oc_2.a1
    go_wp2_with fail
    clear sx0 sx1 sy0 sy1
    go_wp2_with fail
    have BD3 := bdrew1 (Below.refl w2.heap.size w2)
    have Do_3 := Po_2.below BD3 (Nat.le_refl _)
    have dob_3 := ob_2.below BD3
    have doc_3 := oc_2.below BD3
    have s0_3 := dob_3.a0
    have s1_3 := dob_3.a1
    have s2_3 := doc_3.a0
    have s3_3 := doc_3.a1
    go_region_held3 (fun w' => w'.cell? ⟨w.heap.size, 0, none⟩ = some (.int .i64 xk) ∧ w'.cell? ⟨w.heap.size, 1, none⟩ = some (.int .i64 xv) ∧ w'.cell? ⟨w.heap.size + 1, 0, none⟩ = some (.int .i64 yk) ∧ w'.cell? ⟨w.heap.size + 1, 1, none⟩ = some (.int .i64 yv))
      (first
        | go_keep
        | (go_split_ands
           refine ⟨?_, ?_, ?_, ?_⟩
           · (exact (hb3.cell (p := ⟨w.heap.size, 0, none⟩) dob_3.lt).trans s0_3)
           · (exact (hb3.cell (p := ⟨w.heap.size, 1, none⟩) dob_3.lt).trans s1_3)
           · (exact (hb3.cell (p := ⟨w.heap.size + 1, 0, none⟩) doc_3.lt).trans s2_3)
           · (exact (hb3.cell (p := ⟨w.heap.size + 1, 1, none⟩) doc_3.lt).trans s3_3)
          )
        | (go_split_ands
           refine ⟨?_, ?_, ?_, ?_⟩
           · (exact (hb4.cell (p := ⟨w.heap.size, 0, none⟩) (Nat.lt_of_lt_of_le dob_3.lt hb3.size)).trans ((hb3.cell (p := ⟨w.heap.size, 0, none⟩) dob_3.lt).trans s0_3))
           · (exact (hb4.cell (p := ⟨w.heap.size, 1, none⟩) (Nat.lt_of_lt_of_le dob_3.lt hb3.size)).trans ((hb3.cell (p := ⟨w.heap.size, 1, none⟩) dob_3.lt).trans s1_3))
           · (exact (hb4.cell (p := ⟨w.heap.size + 1, 0, none⟩) (Nat.lt_of_lt_of_le doc_3.lt hb3.size)).trans ((hb3.cell (p := ⟨w.heap.size + 1, 0, none⟩) doc_3.lt).trans s2_3))
           · (exact (hb4.cell (p := ⟨w.heap.size + 1, 1, none⟩) (Nat.lt_of_lt_of_le doc_3.lt hb3.size)).trans ((hb3.cell (p := ⟨w.heap.size + 1, 1, none⟩) doc_3.lt).trans s3_3))
          ))
      (first
        | (go_at_call 33; (with_reducible refine (set_any _ _ _ o hs HL1.out ⟨x1, y1⟩ (by omega) xk xv _ Do_3).mono ?_); rintro e w3 ⟨B3, n3, c3, rfl, l3, x3, y3, Q3, hb3⟩; have HL3 := Go.Lib.hid l3; clear l3; have L3 : n3 ≤ 61 := (by have h0 := HL3.out; have h1 := set_len o xk xv; omega))
        | (go_at_call 33; (with_reducible refine (set_any _ _ _ (setP o xk xv) (srt_iff.2 (srt_set (srt_iff.1 hs) xk xv)) HL3.out ⟨x3, y3⟩ (by omega) yk yv _ Q3).mono ?_); rintro e w4 ⟨B4, n4, c4, rfl, l4, x4, y4, Q4, hb4⟩; have HL4 := Go.Lib.hid l4; clear l4))
    have Po_4 := (Do_3.below hb3 (Nat.le_refl _)).below hb4 (Nat.le_refl _)
    have ob_4 := (dob_3.below hb3).below hb4
    have oc_4 := (doc_3.below hb3).below hb4
    have HBB4 := ((HBB2.trans (BD3.mono HBB2.size)).trans (hb3.mono (Nat.le_trans HBB2.size BD3.size))).trans (hb4.mono (Nat.le_trans (Nat.le_trans HBB2.size BD3.size) hb3.size))
    clear s0_3 s1_3 s2_3 s3_3 Po_2 Do_3 ob_2 dob_3 oc_2 doc_3 HBB2 hb3 hb4 Q3 BD3
    go_wp2_with fail
    have BD5 := bdrew1 (Below.refl w4.heap.size w4)
    have Do_5 := Po_4.below BD5 (Nat.le_refl _)
    have Da_5 := Q4.below BD5 (Nat.le_refl _)
    have dob_5 := ob_4.below BD5
    have doc_5 := oc_4.below BD5
    have s0_5 := dob_5.a0
    have s1_5 := dob_5.a1
    have s2_5 := doc_5.a0
    have s3_5 := doc_5.a1
    go_region_held3 (fun w' => w'.cell? ⟨w.heap.size, 0, none⟩ = some (.int .i64 xk) ∧ w'.cell? ⟨w.heap.size, 1, none⟩ = some (.int .i64 xv) ∧ w'.cell? ⟨w.heap.size + 1, 0, none⟩ = some (.int .i64 yk) ∧ w'.cell? ⟨w.heap.size + 1, 1, none⟩ = some (.int .i64 yv))
      (first
        | go_keep
        | (go_split_ands
           refine ⟨?_, ?_, ?_, ?_⟩
           · (exact (hb5.cell (p := ⟨w.heap.size, 0, none⟩) dob_5.lt).trans s0_5)
           · (exact (hb5.cell (p := ⟨w.heap.size, 1, none⟩) dob_5.lt).trans s1_5)
           · (exact (hb5.cell (p := ⟨w.heap.size + 1, 0, none⟩) doc_5.lt).trans s2_5)
           · (exact (hb5.cell (p := ⟨w.heap.size + 1, 1, none⟩) doc_5.lt).trans s3_5)
          )
        | (go_split_ands
           refine ⟨?_, ?_, ?_, ?_⟩
           · (exact (hb6.cell (p := ⟨w.heap.size, 0, none⟩) (Nat.lt_of_lt_of_le dob_5.lt hb5.size)).trans ((hb5.cell (p := ⟨w.heap.size, 0, none⟩) dob_5.lt).trans s0_5))
           · (exact (hb6.cell (p := ⟨w.heap.size, 1, none⟩) (Nat.lt_of_lt_of_le dob_5.lt hb5.size)).trans ((hb5.cell (p := ⟨w.heap.size, 1, none⟩) dob_5.lt).trans s1_5))
           · (exact (hb6.cell (p := ⟨w.heap.size + 1, 0, none⟩) (Nat.lt_of_lt_of_le doc_5.lt hb5.size)).trans ((hb5.cell (p := ⟨w.heap.size + 1, 0, none⟩) doc_5.lt).trans s2_5))
           · (exact (hb6.cell (p := ⟨w.heap.size + 1, 1, none⟩) (Nat.lt_of_lt_of_le doc_5.lt hb5.size)).trans ((hb5.cell (p := ⟨w.heap.size + 1, 1, none⟩) doc_5.lt).trans s3_5))
          ))
      (first
        | (go_at_call 33; (with_reducible refine (set_any _ _ _ o hs HL1.out ⟨x1, y1⟩ (by omega) yk yv _ Do_5).mono ?_); rintro e w5 ⟨B5, n5, c5, rfl, l5, x5, y5, Q5, hb5⟩; have HL5 := Go.Lib.hid l5; clear l5; have L5 : n5 ≤ 61 := (by have h0 := HL5.out; have h1 := set_len o yk yv; omega))
        | (go_at_call 33; (with_reducible refine (set_any _ _ _ (setP o yk yv) (srt_iff.2 (srt_set (srt_iff.1 hs) yk yv)) HL5.out ⟨x5, y5⟩ (by omega) xk xv _ Q5).mono ?_); rintro e w6 ⟨B6, n6, c6, rfl, l6, x6, y6, Q6, hb6⟩; have HL6 := Go.Lib.hid l6; clear l6))
    have Po_6 := (Do_5.below hb5 (Nat.le_refl _)).below hb6 (Nat.le_refl _)
    have Pa_6 := (Da_5.below hb5 (Nat.le_refl _)).below hb6 (Nat.le_refl _)
    have ob_6 := (dob_5.below hb5).below hb6
    have oc_6 := (doc_5.below hb5).below hb6
    have HBB6 := ((HBB4.trans (BD5.mono HBB4.size)).trans (hb5.mono (Nat.le_trans HBB4.size BD5.size))).trans (hb6.mono (Nat.le_trans (Nat.le_trans HBB4.size BD5.size) hb5.size))
    clear s0_5 s1_5 s2_5 s3_5 Po_4 Do_5 Q4 Da_5 ob_4 dob_5 oc_4 doc_5 HBB4 hb5 hb6 Q5 BD5
    go_wp2_with fail
    have BD7 := bdrew1 (Below.refl w6.heap.size w6)
    have Do_7 := Po_6.below BD7 (Nat.le_refl _)
    have Da_7 := Pa_6.below BD7 (Nat.le_refl _)
    have Db_7 := Q6.below BD7 (Nat.le_refl _)
    have dob_7 := ob_6.below BD7
    have doc_7 := oc_6.below BD7
    have s0_7 := dob_7.a0
    have s1_7 := dob_7.a1
    have s2_7 := doc_7.a0
    go_region_held3 (fun w' => w'.cell? ⟨w.heap.size, 0, none⟩ = some (.int .i64 xk) ∧ w'.cell? ⟨w.heap.size, 1, none⟩ = some (.int .i64 xv) ∧ w'.cell? ⟨w.heap.size + 1, 0, none⟩ = some (.int .i64 yk))
      (first
        | go_keep
        | (go_split_ands
           refine ⟨?_, ?_, ?_⟩
           · (exact (hb7.cell (p := ⟨w.heap.size, 0, none⟩) dob_7.lt).trans s0_7)
           · (exact (hb7.cell (p := ⟨w.heap.size, 1, none⟩) dob_7.lt).trans s1_7)
           · (exact (hb7.cell (p := ⟨w.heap.size + 1, 0, none⟩) doc_7.lt).trans s2_7)
          )
        | (go_split_ands
           refine ⟨?_, ?_, ?_⟩
           · (exact (hb8.cell (p := ⟨w.heap.size, 0, none⟩) (Nat.lt_of_lt_of_le dob_7.lt hb7.size)).trans ((hb7.cell (p := ⟨w.heap.size, 0, none⟩) dob_7.lt).trans s0_7))
           · (exact (hb8.cell (p := ⟨w.heap.size, 1, none⟩) (Nat.lt_of_lt_of_le dob_7.lt hb7.size)).trans ((hb7.cell (p := ⟨w.heap.size, 1, none⟩) dob_7.lt).trans s1_7))
           · (exact (hb8.cell (p := ⟨w.heap.size + 1, 0, none⟩) (Nat.lt_of_lt_of_le doc_7.lt hb7.size)).trans ((hb7.cell (p := ⟨w.heap.size + 1, 0, none⟩) doc_7.lt).trans s2_7))
          ))
      (first
        | (go_at_call 33; (with_reducible refine (set_any _ _ _ o hs HL1.out ⟨x1, y1⟩ (by omega) xk xv _ Do_7).mono ?_); rintro e w7 ⟨B7, n7, c7, rfl, l7, x7, y7, Q7, hb7⟩; have HL7 := Go.Lib.hid l7; clear l7; have L7 : n7 ≤ 61 := (by have h0 := HL7.out; have h1 := set_len o xk xv; omega))
        | (go_at_call 34; (with_reducible refine (clearF_any _ _ _ (setP o xk xv) (srt_iff.2 (srt_set (srt_iff.1 hs) xk xv)) HL7.out ⟨x7, y7⟩ (by omega) yk _ Q7).mono ?_); rintro e w8 ⟨B8, n8, c8, rfl, l8, x8, y8, Q8, hb8⟩; have HL8 := Go.Lib.hid l8; clear l8))
    have Po_8 := (Do_7.below hb7 (Nat.le_refl _)).below hb8 (Nat.le_refl _)
    have Pa_8 := (Da_7.below hb7 (Nat.le_refl _)).below hb8 (Nat.le_refl _)
    have Pb_8 := (Db_7.below hb7 (Nat.le_refl _)).below hb8 (Nat.le_refl _)
    have ob_8 := (dob_7.below hb7).below hb8
    have oc_8 := (doc_7.below hb7).below hb8
    have HBB8 := ((HBB6.trans (BD7.mono HBB6.size)).trans (hb7.mono (Nat.le_trans HBB6.size BD7.size))).trans (hb8.mono (Nat.le_trans (Nat.le_trans HBB6.size BD7.size) hb7.size))
    clear s0_7 s1_7 s2_7 Po_6 Do_7 Pa_6 Da_7 Q6 Db_7 ob_6 dob_7 oc_6 doc_7 HBB6 hb7 hb8 Q7 BD7
    go_wp2_with fail
    have BD9 := bdrew1 (Below.refl w8.heap.size w8)
    have Do_9 := Po_8.below BD9 (Nat.le_refl _)
    have Da_9 := Pa_8.below BD9 (Nat.le_refl _)
    have Db_9 := Pb_8.below BD9 (Nat.le_refl _)
    have Dc_9 := Q8.below BD9 (Nat.le_refl _)
    have dob_9 := ob_8.below BD9
    have doc_9 := oc_8.below BD9
    have s0_9 := dob_9.a0
    have s1_9 := dob_9.a1
    have s2_9 := doc_9.a0
    go_region_held3 (fun w' => w'.cell? ⟨w.heap.size, 0, none⟩ = some (.int .i64 xk) ∧ w'.cell? ⟨w.heap.size, 1, none⟩ = some (.int .i64 xv) ∧ w'.cell? ⟨w.heap.size + 1, 0, none⟩ = some (.int .i64 yk))
      (first
        | go_keep
        | (go_split_ands
           refine ⟨?_, ?_, ?_⟩
           · (exact (hb9.cell (p := ⟨w.heap.size, 0, none⟩) dob_9.lt).trans s0_9)
           · (exact (hb9.cell (p := ⟨w.heap.size, 1, none⟩) dob_9.lt).trans s1_9)
           · (exact (hb9.cell (p := ⟨w.heap.size + 1, 0, none⟩) doc_9.lt).trans s2_9)
          )
        | (go_split_ands
           refine ⟨?_, ?_, ?_⟩
           · (exact (hb10.cell (p := ⟨w.heap.size, 0, none⟩) (Nat.lt_of_lt_of_le dob_9.lt hb9.size)).trans ((hb9.cell (p := ⟨w.heap.size, 0, none⟩) dob_9.lt).trans s0_9))
           · (exact (hb10.cell (p := ⟨w.heap.size, 1, none⟩) (Nat.lt_of_lt_of_le dob_9.lt hb9.size)).trans ((hb9.cell (p := ⟨w.heap.size, 1, none⟩) dob_9.lt).trans s1_9))
           · (exact (hb10.cell (p := ⟨w.heap.size + 1, 0, none⟩) (Nat.lt_of_lt_of_le doc_9.lt hb9.size)).trans ((hb9.cell (p := ⟨w.heap.size + 1, 0, none⟩) doc_9.lt).trans s2_9))
          ))
      (first
        | (go_at_call 34; (with_reducible refine (clearF_any _ _ _ o hs HL1.out ⟨x1, y1⟩ (by omega) yk _ Do_9).mono ?_); rintro e w9 ⟨B9, n9, c9, rfl, l9, x9, y9, Q9, hb9⟩; have HL9 := Go.Lib.hid l9; clear l9; have L9 : n9 ≤ 61 := (by have h0 := HL9.out; have h1 := clear_len o yk; omega))
        | (go_at_call 33; (with_reducible refine (set_any _ _ _ (clearP o yk) (srt_iff.2 (srt_clear (srt_iff.1 hs) yk)) HL9.out ⟨x9, y9⟩ (by omega) xk xv _ Q9).mono ?_); rintro e w10 ⟨B10, n10, c10, rfl, l10, x10, y10, Q10, hb10⟩; have HL10 := Go.Lib.hid l10; clear l10))
    have Po_10 := (Do_9.below hb9 (Nat.le_refl _)).below hb10 (Nat.le_refl _)
    have Pa_10 := (Da_9.below hb9 (Nat.le_refl _)).below hb10 (Nat.le_refl _)
    have Pb_10 := (Db_9.below hb9 (Nat.le_refl _)).below hb10 (Nat.le_refl _)
    have Pc_10 := (Dc_9.below hb9 (Nat.le_refl _)).below hb10 (Nat.le_refl _)
    have ob_10 := (dob_9.below hb9).below hb10
    have oc_10 := (doc_9.below hb9).below hb10
    have HBB10 := ((HBB8.trans (BD9.mono HBB8.size)).trans (hb9.mono (Nat.le_trans HBB8.size BD9.size))).trans (hb10.mono (Nat.le_trans (Nat.le_trans HBB8.size BD9.size) hb9.size))
    clear s0_9 s1_9 s2_9 Po_8 Do_9 Pa_8 Da_9 Pb_8 Db_9 Q8 Dc_9 ob_8 dob_9 oc_8 doc_9 HBB8 hb9 hb10 Q9 BD9
    have sx0 := ob_10.a0
    have sx1 := ob_10.a1
    have sy0 := oc_10.a0
    have sy1 := oc_10.a1
    have La : n4 ≤ 62 := by have h0 := HL4.out; have h1 := set_len (setP o xk xv) yk yv; have h2 := set_len o xk xv; have h3 := HL1.out; omega
    have Lc : n8 ≤ 62 := by have h0 := HL8.out; have h1 := clear_len (setP o xk xv) yk; have h2 := set_len o xk xv; have h3 := HL1.out; omega
    go_wp2_with fail
    refine (cGa _ _ _ HL4.out ⟨x4, y4⟩ (by omega) _ Pa_10).mono ?_
    rintro e w11 ⟨rfl, hb11⟩
    have Po_11 := Po_10.below hb11 (Nat.le_refl _)
    have Pa_11 := Pa_10.below hb11 (Nat.le_refl _)
    have Pb_11 := Pb_10.below hb11 (Nat.le_refl _)
    have Pc_11 := Pc_10.below hb11 (Nat.le_refl _)
    have Pd_11 := Q10.below hb11 (Nat.le_refl _)
    have HBB11 := HBB10.trans (hb11.mono HBB10.size)
    have ob_11 := ob_10.below hb11
    have oc_11 := oc_10.below hb11
    clear sx0 sx1 sy0 sy1
    clear Po_10 Pa_10 Pb_10 Pc_10 Q10 HBB10 hb11 ob_10 oc_10
    have sx0 := ob_11.a0
    have sx1 := ob_11.a1
    have sy0 := oc_11.a0
    have sy1 := oc_11.a1
    go_wp2_with fail
    refine (cGc _ _ _ HL8.out ⟨x8, y8⟩ (by omega) _ Pc_11).mono ?_
    rintro e w12 ⟨rfl, hb12⟩
    have Po_12 := Po_11.below hb12 (Nat.le_refl _)
    have Pa_12 := Pa_11.below hb12 (Nat.le_refl _)
    have Pb_12 := Pb_11.below hb12 (Nat.le_refl _)
    have Pc_12 := Pc_11.below hb12 (Nat.le_refl _)
    have Pd_12 := Pd_11.below hb12 (Nat.le_refl _)
    have HBB12 := HBB11.trans (hb12.mono HBB11.size)
    have ob_12 := ob_11.below hb12
    have oc_12 := oc_11.below hb12
    clear sx0 sx1 sy0 sy1
    clear Po_11 Pa_11 Pb_11 Pc_11 Pd_11 HBB11 hb12 ob_11 oc_11
    have sx0 := ob_12.a0
    have sx1 := ob_12.a1
    have sy0 := oc_12.a0
    have sy1 := oc_12.a1
    go_wp2_with fail
    refine (equal_same _ _ _ _ _ _ (setP (setP o xk xv) yk yv) (setP (setP o yk yv) xk xv) HL4.out HL6.out ⟨x4, y4⟩ ⟨x6, y6⟩ EAB.out _ Pa_12 Pb_12).mono ?_
    rintro e w13 ⟨rfl, hb13⟩
    have Po_13 := Po_12.below hb13 (Nat.le_refl _)
    have Pa_13 := Pa_12.below hb13 (Nat.le_refl _)
    have Pb_13 := Pb_12.below hb13 (Nat.le_refl _)
    have Pc_13 := Pc_12.below hb13 (Nat.le_refl _)
    have Pd_13 := Pd_12.below hb13 (Nat.le_refl _)
    have HBB13 := HBB12.trans (hb13.mono HBB12.size)
    have ob_13 := ob_12.below hb13
    have oc_13 := oc_12.below hb13
    clear sx0 sx1 sy0 sy1
    clear Po_12 Pa_12 Pb_12 Pc_12 Pd_12 HBB12 hb13 ob_12 oc_12
    have sx0 := ob_13.a0
    have sx1 := ob_13.a1
    have sy0 := oc_13.a0
    have sy1 := oc_13.a1
    go_wp2_with fail
    refine (equal_same _ _ _ _ _ _ (clearP (setP o xk xv) yk) (setP (clearP o yk) xk xv) HL8.out HL10.out ⟨x8, y8⟩ ⟨x10, y10⟩ ECD.out _ Pc_13 Pd_13).mono ?_
    rintro e w14 ⟨rfl, hb14⟩
    have Po_14 := Po_13.below hb14 (Nat.le_refl _)
    have Pa_14 := Pa_13.below hb14 (Nat.le_refl _)
    have Pb_14 := Pb_13.below hb14 (Nat.le_refl _)
    have Pc_14 := Pc_13.below hb14 (Nat.le_refl _)
    have Pd_14 := Pd_13.below hb14 (Nat.le_refl _)
    have HBB14 := HBB13.trans (hb14.mono HBB13.size)
    have ob_14 := ob_13.below hb14
    have oc_14 := oc_13.below hb14
    clear sx0 sx1 sy0 sy1
    clear Po_13 Pa_13 Pb_13 Pc_13 Pd_13 HBB13 hb14 ob_13 oc_13
    have sx0 := ob_14.a0
    have sx1 := ob_14.a1
    have sy0 := oc_14.a0
    have sy1 := oc_14.a1
    go_wp2
    go_ret
    exact ⟨ret_bool' (by simp), HBB14⟩
theorem law_commutes (A : Option Addr) (len c : Nat) (l : List Pr) (xk xv yk yv : Int) (w : World) (hA : PropsIn w A len c l) :
    Calls Try.prog 9 #[.slice A len c, .agg #[.int .i64 xk, .int .i64 xv], .agg #[.int .i64 yk, .int .i64 yv]] w fun e w' => e = .returned (.bool true) ∧ Below w.heap.size w w' :=
  commutes_in A len c l _ xk xv yk yv (ordP_sort l) (ordP_len l) (fun w h => ordered_outN A len c l hA.1 ⟨hA.2.1, hA.2.2.1⟩ w h) w hA.2.2.2.1
end Go.Proofs.Ytjdjfokfilnnoaa
