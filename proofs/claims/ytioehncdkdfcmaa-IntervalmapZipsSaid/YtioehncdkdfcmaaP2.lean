/- Layer 5: play. -/
import Derived.Test.YtioehncdkdfcmaaP1
namespace Go.Proofs.Ytioehncdkdfcmaa
open Go.RowKit Go.Lib Im

/-- What play hands back. -/
def PlayR (w : World) (e : Ending) (w' : World) : Prop := ∃ (b : Nat) (A : Option Addr) (n c : Nat) (l : List Int), e = .returned (.tuple #[.pointer (some ⟨b, 0, none⟩), .slice A n c, .bool true]) ∧ PS w w' b A n c l l ∧ n ≤ 1000
set_option maxRecDepth 100000 in
set_option maxHeartbeats 32000000 in
theorem play_any (L : Nat) (V : Int) (A : Option Addr) (no c : Nat) (ops : List Opr) (hL : L < 256) (hno : ops.length = no) (w : World) (hA : OpAt w A ops) (hB : OpB ops) (hnm : no ≤ maxLen) :
    Calls Try.prog 12 #[.agg #[.int .u8 L, .int .i64 V, .slice A no c]] w (PlayR w) := by
  have HA := Go.Lib.hid hA
  have HB := Go.Lib.hid hB
  have HNO := Go.Lib.hid hno
  unfold maxLen at hnm
  clear hA hB hno
  obtain ⟨w0, hw0⟩ : ∃ w0, w0 = w.alloc (.cells #[.int .u8 L, .int .i64 V, .slice A no c] 24) := ⟨_, rfl⟩
  have ob : ObjAt w0 w.heap.size #[.int .u8 L, .int .i64 V, .slice A no c] 24 := by rw [hw0]; exact ObjAt.new w _ 24
  have hb0 : Below w.heap.size w w0 := by rw [hw0]; exact (Below.refl _ w).alloc (Nat.le_refl _) _
  have hs0 : w0.heap.size = w.heap.size + 1 := by rw [hw0]; simp
  have o0 := ob.b0
  have o1 := ob.b1
  have o2 := ob.b2
  have hwL : IntKind.i64.wrap (L : Int) = L := IntWalk.i64_in _ (by omega)
  have cN := new_map L V w0 (by omega) (by omega)
  rw [show ((L : Nat) : Int).toNat = L by omega] at cN
  have cU := fun w' => rnew_any L V w' (by omega)
  unfold OwnL at cU
  have HO0 := Go.Lib.hid ob
  have HB0 := Go.Lib.hid hb0
  have HA0 := Go.Lib.hid (HA.out.below hb0)
  clear ob hb0 HA
  rw [hw0] at o0 o1 o2
  go_enter Try.func12, Try.ntmps12
  go_wp2_with fail
  rw [← hw0]
  rw [← hw0] at o0 o1 o2
  clear hw0
  (with_reducible refine cN.mono ?_)
  rintro e w1 ⟨b, rfl, hN⟩
  obtain ⟨g, n1, n2, n3, n4, n5, n6⟩ := hN
  have ob1 := HO0.out.below n6
  have hC1 : CM w0.heap.size w1 b (runs (List.replicate L V)) := CM.of n1 n2 n3
  have HB1 := Go.Lib.hid n6
  have o0' := ob1.b0
  have o1' := ob1.b1
  clear n1 n2 n3 n4 n5 n6 o0 o1 o2 cN ob1
  go_wp2_with fail
  (with_reducible refine (cU _).mono ?_)
  rintro e w2 ⟨A2, c2, rfl, ho2, hb2⟩
  have HP2 : Hid (PS w0 w2 b A2 L c2 (List.replicate L V) (List.replicate L V)) := Go.Lib.hid ⟨hC1.below hb2, own_lower ho2 HB1.out.size, List.length_replicate, HB1.out.trans (hb2.mono HB1.out.size)⟩
  clear o0' o1' hC1 ho2 hb2 HB1 cU hwL
  have cI := is_ps HP2.out (by omega)
  go_wp2_with fail
  (with_reducible refine cI.mono ?_)
  rintro e w3 ⟨rfl, hP3⟩
  have HP3 := Go.Lib.hid hP3
  clear cI hP3
  go_wp2_with fail
  go_loopw [7, 8] (fun lv iv wr => ∃ (k : Nat) (A2 : Option Addr) (n2 c2 : Nat) (l : List Int), k ≤ no ∧ k ≤ 30 ∧ iv = .int .i64 k ∧ lv = .slice A2 n2 c2 ∧ n2 ≤ 255 + 20 * k ∧ Hid (PS w0 wr b A2 n2 c2 l l)) (fun _ iv _ => 30 - (RowKit.intOf iv).toNat)
  case atStart => exact ⟨0, A2, L, c2, _, Nat.zero_le _, by omega, rfl, rfl, by omega, HP3⟩
  case round =>
    clear HP3 HP2
    obtain ⟨k, A3, n, c3, l, hk, hk30, rfl, rfl, hn, HP⟩ := hrel
    have obr := HO0.out.below HP.out.2.2.2
    have o2 := obr.b2
    have HOR := Go.Lib.hid obr
    clear obr
    by_cases hlt : k < no
    · by_cases hlt2 : k < 30
      · have hkl : k < ops.length := by rw [HNO.out]; exact hlt
        rcases HA0.out with hA0 | ⟨gA, oA, rfl, hgA, hcl⟩
        · rw [hA0] at hkl; exact absurd hkl (Nat.not_lt_zero _)
        obtain ⟨c0, c1, c2', c3', c4⟩ := hcl k hkl
        obtain ⟨hB1, hB2, hB3, hB4⟩ := HB.out k hkl
        have hbw := HP.out.2.2.2
        have d0 := (hbw.cell (p := ⟨gA, oA + k * 5, none⟩) hgA).trans c0
        have d1 := (hbw.cell (p := ⟨gA, oA + k * 5 + 1, none⟩) hgA).trans c1
        have d2 := (hbw.cell (p := ⟨gA, oA + k * 5 + 2, none⟩) hgA).trans c2'
        have d3 := (hbw.cell (p := ⟨gA, oA + k * 5 + 3, none⟩) hgA).trans c3'
        have d4 := (hbw.cell (p := ⟨gA, oA + k * 5 + 4, none⟩) hgA).trans c4
        clear hcl c0 c1 c2' c3' c4 hgA hbw
        generalize ops[k] = y at d0 d1 d2 d3 d4 hB1 hB2 hB3 hB4
        obtain ⟨yk, yf, yt, yi, yv⟩ := y
        dsimp only at d0 d1 d2 d3 d4 hB1 hB2 hB3 hB4
        have q1 : (0 : Int) ≤ (k : Int) := by omega
        have q2 : (k : Int) < (no : Int) := by omega
        obtain ⟨f, hf⟩ : ∃ f, yf % (n + 1) = f := ⟨_, rfl⟩
        have hfn : f ≤ n := by rw [← hf]; exact Nat.le_of_lt_succ (Nat.mod_lt _ (Nat.succ_pos n))
        have F1 : (yf : Int) % ((n : Int) + 1) = (f : Int) := by rw [← hf]; simp
        obtain ⟨m1, hm1⟩ : ∃ m1, n - f = m1 := ⟨_, rfl⟩
        have F2 : IntKind.i64.wrap ((n : Int) - (f : Int)) = (m1 : Int) := by rw [IntKind.wrap_i64]; omega
        have F3 : IntKind.i64.wrap ((m1 : Int) + 2) = (m1 : Int) + 2 := by rw [IntKind.wrap_i64]; omega
        obtain ⟨s, hs⟩ : ∃ s, yt % (m1 + 2) = s := ⟨_, rfl⟩
        have hsm : s ≤ m1 + 1 := by rw [← hs]; exact Nat.le_of_lt_succ (Nat.mod_lt _ (Nat.succ_pos _))
        have F4 : (yt : Int) % ((m1 : Int) + 2) = (s : Int) := by rw [← hs]; simp
        obtain ⟨t, ht⟩ : ∃ t, f + s = t := ⟨_, rfl⟩
        have F5 : IntKind.i64.wrap ((f : Int) + (s : Int)) = (t : Int) := by rw [IntKind.wrap_i64]; omega
        have F6 : ¬ ((m1 : Int) + 2 = 0) := by omega
        have F7 : ¬ ((n : Int) + 1 = 0) := by omega
        have F8 : IntKind.i64.wrap ((t : Int) - (f : Int)) = (s : Int) := by rw [IntKind.wrap_i64]; omega
        obtain ⟨m, hm⟩ : ∃ m, yi % 20 = m := ⟨_, rfl⟩
        have hm20 : m ≤ 20 := by omega
        have F9 : (yi : Int) % 20 = (m : Int) := by omega
        have hlen := HP.out.2.2.1
        have HLEN := Go.Lib.hid hlen
        have hft : f ≤ t := by omega
        have HPa : Hid (PS w0 (wr.alloc (.cells #[.int .u8 yk, .int .u8 yf, .int .u8 yt, .int .u8 yi, .int .i64 yv] 79)) b A3 n c3 l l) := Go.Lib.hid (HP.out.below ((Below.refl _ wr).alloc (Nat.le_refl _) _))
        have oop := ObjAt.new wr #[.int .u8 yk, .int .u8 yf, .int .u8 yt, .int .u8 yi, .int .i64 yv] 79
        have z0 := oop.get (k := 0) (v := .int .u8 yk) rfl
        have z1 := oop.get (k := 1) (v := .int .u8 yf) rfl
        have z2 := oop.get (k := 2) (v := .int .u8 yt) rfl
        have z3 := oop.get (k := 3) (v := .int .u8 yi) rfl
        have z4 := oop.get (k := 4) (v := .int .i64 yv) rfl
        have HOO := Go.Lib.hid oop
        have hn1000 : n ≤ 1000 := by omega
        have cR := right_any n f t (wr.alloc (.cells #[.int .u8 yk, .int .u8 yf, .int .u8 yt, .int .u8 yi, .int .i64 yv] 79))
        clear oop hlen hf hs HP
        by_cases hr : t ≤ n
        · rw [decide_eq_true (show 0 ≤ (f : Int) ∧ (f : Int) ≤ (t : Int) ∧ (t : Int) ≤ (n : Int) from ⟨by omega, by omega, by omega⟩)] at cR
          have hkk : yk % 4 = 0 ∨ yk % 4 = 1 ∨ yk % 4 = 2 ∨ yk % 4 = 3 := by omega
          rcases hkk with hkk | hkk | hkk | hkk
          · have FK : (yk : Int) % 4 = 0 := by omega
            have cM := set_ok HPa.out yv (by rw [HLEN.out]; omega) hft (by rw [HLEN.out]; exact hr)
            unfold OkP at cM
            go_wp2_with fail
            (with_reducible refine cR.mono ?_)
            rintro e w4 ⟨rfl, rfl⟩
            clear cR
            go_wp2_with fail
            (with_reducible refine cM.mono ?_)
            rintro e w5 ⟨rfl, hP5, hK5⟩
            have HP5 := Go.Lib.hid hP5
            have y0 := (HOO.out.kc hK5 (by decide) (by decide)).get (k := 0) (v := .int .u8 yk) rfl
            have y1 := (HOO.out.kc hK5 (by decide) (by decide)).get (k := 1) (v := .int .u8 yf) rfl
            have y2 := (HOO.out.kc hK5 (by decide) (by decide)).get (k := 2) (v := .int .u8 yt) rfl
            have y3 := (HOO.out.kc hK5 (by decide) (by decide)).get (k := 3) (v := .int .u8 yi) rfl
            have y4 := (HOO.out.kc hK5 (by decide) (by decide)).get (k := 4) (v := .int .i64 yv) rfl
            clear hP5 hK5 cM z0 z1 z2 z3 z4
            have cL := rset_any A3 n c3 l HLEN.out f t yv w5 (own_lower HP5.out.2.1 (Nat.zero_le _)) hft hr (by omega)
            unfold OwnL at cL
            skip
            go_wp2_with fail
            (with_reducible refine cL.mono ?_)
            rintro e w6 ⟨B6, c6, rfl, ho6, hb6⟩
            have HP6 : Hid (PS w0 w6 b B6 n c6 (mp (fun _ => yv) l f (t - f)) (mp (fun _ => yv) l f (t - f))) := Go.Lib.hid (HP5.out.list ho6 (by rw [mp_len, HLEN.out]) hb6)
            clear ho6 hb6 cL y0 y1 y2 y3 y4
            have cI := is_ps HP6.out (by omega)
            go_wp2_with fail
            (with_reducible refine cI.mono ?_)
            rintro e w7 ⟨rfl, hP7⟩
            have HP7 := Go.Lib.hid hP7
            clear hP7 cI
            go_wp2
            go_roundw
            case rel => exact ⟨k + 1, _, _, _, _, by omega, by omega, by go_num, rfl, by omega, HP7⟩
            case measure => simp [RowKit.intOf]; omega
          · have FK : (yk : Int) % 4 = 1 := by omega
            have cM := add_ok HPa.out yv (by rw [HLEN.out]; omega) hft (by rw [HLEN.out]; exact hr)
            unfold OkP at cM
            go_wp2_with fail
            (with_reducible refine cR.mono ?_)
            rintro e w4 ⟨rfl, rfl⟩
            clear cR
            go_wp2_with fail
            (with_reducible refine cM.mono ?_)
            rintro e w5 ⟨rfl, hP5, hK5⟩
            have HP5 := Go.Lib.hid hP5
            have y0 := (HOO.out.kc hK5 (by decide) (by decide)).get (k := 0) (v := .int .u8 yk) rfl
            have y1 := (HOO.out.kc hK5 (by decide) (by decide)).get (k := 1) (v := .int .u8 yf) rfl
            have y2 := (HOO.out.kc hK5 (by decide) (by decide)).get (k := 2) (v := .int .u8 yt) rfl
            have y3 := (HOO.out.kc hK5 (by decide) (by decide)).get (k := 3) (v := .int .u8 yi) rfl
            have y4 := (HOO.out.kc hK5 (by decide) (by decide)).get (k := 4) (v := .int .i64 yv) rfl
            clear hP5 hK5 cM z0 z1 z2 z3 z4
            have cL := radd_any A3 n c3 l HLEN.out f t yv w5 (own_lower HP5.out.2.1 (Nat.zero_le _)) hft hr (by omega)
            unfold OwnL at cL
            skip
            go_wp2_with fail
            (with_reducible refine cL.mono ?_)
            rintro e w6 ⟨B6, c6, rfl, ho6, hb6⟩
            have HP6 : Hid (PS w0 w6 b B6 n c6 (mp (adI yv) l f (t - f)) (mp (adI yv) l f (t - f))) := Go.Lib.hid (HP5.out.list ho6 (by rw [mp_len, HLEN.out]) hb6)
            clear ho6 hb6 cL y0 y1 y2 y3 y4
            have cI := is_ps HP6.out (by omega)
            go_wp2_with fail
            (with_reducible refine cI.mono ?_)
            rintro e w7 ⟨rfl, hP7⟩
            have HP7 := Go.Lib.hid hP7
            clear hP7 cI
            go_wp2
            go_roundw
            case rel => exact ⟨k + 1, _, _, _, _, by omega, by omega, by go_num, rfl, by omega, HP7⟩
            case measure => simp [RowKit.intOf]; omega
          · have FK : (yk : Int) % 4 = 2 := by omega
            have cM := spc_ok HPa.out yv (by rw [HLEN.out]; omega) ht (by rw [HLEN.out]; exact hr) hm20
            unfold OkP at cM
            go_wp2_with fail
            (with_reducible refine cR.mono ?_)
            rintro e w4 ⟨rfl, rfl⟩
            clear cR
            go_wp2_with fail
            (with_reducible refine cM.mono ?_)
            rintro e w5 ⟨rfl, hP5, hK5⟩
            have HP5 := Go.Lib.hid hP5
            have y0 := (HOO.out.kc hK5 (by decide) (by decide)).get (k := 0) (v := .int .u8 yk) rfl
            have y1 := (HOO.out.kc hK5 (by decide) (by decide)).get (k := 1) (v := .int .u8 yf) rfl
            have y2 := (HOO.out.kc hK5 (by decide) (by decide)).get (k := 2) (v := .int .u8 yt) rfl
            have y3 := (HOO.out.kc hK5 (by decide) (by decide)).get (k := 3) (v := .int .u8 yi) rfl
            have y4 := (HOO.out.kc hK5 (by decide) (by decide)).get (k := 4) (v := .int .i64 yv) rfl
            clear hP5 hK5 cM z0 z1 z2 z3 z4
            have cL := rsplice_any A3 n c3 l HLEN.out f s t m (f + m + (n - t)) yv w5 (own_lower HP5.out.2.1 (Nat.zero_le _)) ht rfl hr (by omega) (by omega)
            unfold OwnL at cL
            skip
            go_wp2_with fail
            (with_reducible refine cL.mono ?_)
            rintro e w6 ⟨B6, c6, rfl, ho6, hb6⟩
            have HP6 : Hid (PS w0 w6 b B6 (f + m + (n - t)) c6 (l.take f ++ List.replicate m yv ++ l.drop t) (l.take f ++ List.replicate m yv ++ l.drop t)) := Go.Lib.hid (HP5.out.list ho6 (by simp only [List.length_append, List.length_take, List.length_drop, List.length_replicate, HLEN.out]; omega) hb6)
            clear ho6 hb6 cL y0 y1 y2 y3 y4
            have cI := is_ps HP6.out (by omega)
            go_wp2_with fail
            (with_reducible refine cI.mono ?_)
            rintro e w7 ⟨rfl, hP7⟩
            have HP7 := Go.Lib.hid hP7
            clear hP7 cI
            go_wp2
            go_roundw
            case rel => exact ⟨k + 1, _, _, _, _, by omega, by omega, by go_num, rfl, by omega, HP7⟩
            case measure => simp [RowKit.intOf]; omega
          · have FK : (yk : Int) % 4 = 3 := by omega
            have cM := spc_ok HPa.out (r := 0) (t := f) yv (by rw [HLEN.out]; omega) (Nat.add_zero f) (by rw [HLEN.out]; exact hfn) hm20
            unfold OkP at cM
            rw [show ((0 : Nat) : Int) = 0 from rfl] at cM
            go_wp2_with fail
            (with_reducible refine cR.mono ?_)
            rintro e w4 ⟨rfl, rfl⟩
            clear cR
            go_wp2_with fail
            (with_reducible refine cM.mono ?_)
            rintro e w5 ⟨rfl, hP5, hK5⟩
            have HP5 := Go.Lib.hid hP5
            have y0 := (HOO.out.kc hK5 (by decide) (by decide)).get (k := 0) (v := .int .u8 yk) rfl
            have y1 := (HOO.out.kc hK5 (by decide) (by decide)).get (k := 1) (v := .int .u8 yf) rfl
            have y2 := (HOO.out.kc hK5 (by decide) (by decide)).get (k := 2) (v := .int .u8 yt) rfl
            have y3 := (HOO.out.kc hK5 (by decide) (by decide)).get (k := 3) (v := .int .u8 yi) rfl
            have y4 := (HOO.out.kc hK5 (by decide) (by decide)).get (k := 4) (v := .int .i64 yv) rfl
            clear hP5 hK5 cM z0 z1 z2 z3 z4
            have cL := rsplice_any A3 n c3 l HLEN.out f 0 f m (f + m + m1) yv w5 (own_lower HP5.out.2.1 (Nat.zero_le _)) (Nat.add_zero f) (by omega) hfn (by omega) (by omega)
            unfold OwnL at cL
            rw [show ((0 : Nat) : Int) = 0 from rfl] at cL
            go_wp2_with fail
            (with_reducible refine cL.mono ?_)
            rintro e w6 ⟨B6, c6, rfl, ho6, hb6⟩
            have HP6 : Hid (PS w0 w6 b B6 (f + m + m1) c6 (l.take f ++ List.replicate m yv ++ l.drop f) (l.take f ++ List.replicate m yv ++ l.drop f)) := Go.Lib.hid (HP5.out.list ho6 (by simp only [List.length_append, List.length_take, List.length_drop, List.length_replicate, HLEN.out]; omega) hb6)
            clear ho6 hb6 cL y0 y1 y2 y3 y4
            have cI := is_ps HP6.out (by omega)
            go_wp2_with fail
            (with_reducible refine cI.mono ?_)
            rintro e w7 ⟨rfl, hP7⟩
            have HP7 := Go.Lib.hid hP7
            clear hP7 cI
            go_wp2
            go_roundw
            case rel => exact ⟨k + 1, _, _, _, _, by omega, by omega, by go_num, rfl, by omega, HP7⟩
            case measure => simp [RowKit.intOf]; omega
        · rw [decide_eq_false (show ¬ (0 ≤ (f : Int) ∧ (f : Int) ≤ (t : Int) ∧ (t : Int) ≤ (n : Int)) from fun h => by omega)] at cR
          have hkk : yk % 4 = 0 ∨ yk % 4 = 1 ∨ yk % 4 = 2 ∨ yk % 4 = 3 := by omega
          rcases hkk with hkk | hkk | hkk | hkk
          · have FK : (yk : Int) % 4 = 0 := by omega
            have cM := set_no HPa.out (f := f) (t := t) yv (by rw [HLEN.out]; omega) (by rw [HLEN.out]; omega)
            unfold OkP at cM
            go_wp2_with fail
            (with_reducible refine cR.mono ?_)
            rintro e w4 ⟨rfl, rfl⟩
            clear cR
            go_wp2_with fail
            (with_reducible refine cM.mono ?_)
            rintro e w5 ⟨rfl, hP5, hK5⟩
            have HP5 := Go.Lib.hid hP5
            have y0 := (HOO.out.kc hK5 (by decide) (by decide)).get (k := 0) (v := .int .u8 yk) rfl
            have y1 := (HOO.out.kc hK5 (by decide) (by decide)).get (k := 1) (v := .int .u8 yf) rfl
            have y2 := (HOO.out.kc hK5 (by decide) (by decide)).get (k := 2) (v := .int .u8 yt) rfl
            have y3 := (HOO.out.kc hK5 (by decide) (by decide)).get (k := 3) (v := .int .u8 yi) rfl
            have y4 := (HOO.out.kc hK5 (by decide) (by decide)).get (k := 4) (v := .int .i64 yv) rfl
            clear hP5 hK5 cM z0 z1 z2 z3 z4
            have HP6 := HP5
            have cI := is_ps HP6.out (by omega)
            go_wp2_with fail
            (with_reducible refine cI.mono ?_)
            rintro e w7 ⟨rfl, hP7⟩
            have HP7 := Go.Lib.hid hP7
            clear hP7 cI
            go_wp2
            go_roundw
            case rel => exact ⟨k + 1, _, _, _, _, by omega, by omega, by go_num, rfl, by omega, HP7⟩
            case measure => simp [RowKit.intOf]; omega
          · have FK : (yk : Int) % 4 = 1 := by omega
            have cM := add_no HPa.out (f := f) (t := t) yv (by rw [HLEN.out]; omega) (by rw [HLEN.out]; omega)
            unfold OkP at cM
            go_wp2_with fail
            (with_reducible refine cR.mono ?_)
            rintro e w4 ⟨rfl, rfl⟩
            clear cR
            go_wp2_with fail
            (with_reducible refine cM.mono ?_)
            rintro e w5 ⟨rfl, hP5, hK5⟩
            have HP5 := Go.Lib.hid hP5
            have y0 := (HOO.out.kc hK5 (by decide) (by decide)).get (k := 0) (v := .int .u8 yk) rfl
            have y1 := (HOO.out.kc hK5 (by decide) (by decide)).get (k := 1) (v := .int .u8 yf) rfl
            have y2 := (HOO.out.kc hK5 (by decide) (by decide)).get (k := 2) (v := .int .u8 yt) rfl
            have y3 := (HOO.out.kc hK5 (by decide) (by decide)).get (k := 3) (v := .int .u8 yi) rfl
            have y4 := (HOO.out.kc hK5 (by decide) (by decide)).get (k := 4) (v := .int .i64 yv) rfl
            clear hP5 hK5 cM z0 z1 z2 z3 z4
            have HP6 := HP5
            have cI := is_ps HP6.out (by omega)
            go_wp2_with fail
            (with_reducible refine cI.mono ?_)
            rintro e w7 ⟨rfl, hP7⟩
            have HP7 := Go.Lib.hid hP7
            clear hP7 cI
            go_wp2
            go_roundw
            case rel => exact ⟨k + 1, _, _, _, _, by omega, by omega, by go_num, rfl, by omega, HP7⟩
            case measure => simp [RowKit.intOf]; omega
          · have FK : (yk : Int) % 4 = 2 := by omega
            have cM := spc_no HPa.out (a := f) (r := s) (i := m) yv (by rw [HLEN.out]; omega) (by rw [HLEN.out]; exact hfn) (by rw [HLEN.out]; omega) (by omega) hm20
            unfold OkP at cM
            go_wp2_with fail
            (with_reducible refine cR.mono ?_)
            rintro e w4 ⟨rfl, rfl⟩
            clear cR
            go_wp2_with fail
            (with_reducible refine cM.mono ?_)
            rintro e w5 ⟨rfl, hP5, hK5⟩
            have HP5 := Go.Lib.hid hP5
            have y0 := (HOO.out.kc hK5 (by decide) (by decide)).get (k := 0) (v := .int .u8 yk) rfl
            have y1 := (HOO.out.kc hK5 (by decide) (by decide)).get (k := 1) (v := .int .u8 yf) rfl
            have y2 := (HOO.out.kc hK5 (by decide) (by decide)).get (k := 2) (v := .int .u8 yt) rfl
            have y3 := (HOO.out.kc hK5 (by decide) (by decide)).get (k := 3) (v := .int .u8 yi) rfl
            have y4 := (HOO.out.kc hK5 (by decide) (by decide)).get (k := 4) (v := .int .i64 yv) rfl
            clear hP5 hK5 cM z0 z1 z2 z3 z4
            have HP6 := HP5
            have cI := is_ps HP6.out (by omega)
            go_wp2_with fail
            (with_reducible refine cI.mono ?_)
            rintro e w7 ⟨rfl, hP7⟩
            have HP7 := Go.Lib.hid hP7
            clear hP7 cI
            go_wp2
            go_roundw
            case rel => exact ⟨k + 1, _, _, _, _, by omega, by omega, by go_num, rfl, by omega, HP7⟩
            case measure => simp [RowKit.intOf]; omega
          · have FK : (yk : Int) % 4 = 3 := by omega
            have cM := spc_ok HPa.out (r := 0) (t := f) yv (by rw [HLEN.out]; omega) (Nat.add_zero f) (by rw [HLEN.out]; exact hfn) hm20
            unfold OkP at cM
            rw [show ((0 : Nat) : Int) = 0 from rfl] at cM
            go_wp2_with fail
            (with_reducible refine cR.mono ?_)
            rintro e w4 ⟨rfl, rfl⟩
            clear cR
            go_wp2_with fail
            (with_reducible refine cM.mono ?_)
            rintro e w5 ⟨rfl, hP5, hK5⟩
            have HP5 := Go.Lib.hid hP5
            have y0 := (HOO.out.kc hK5 (by decide) (by decide)).get (k := 0) (v := .int .u8 yk) rfl
            have y1 := (HOO.out.kc hK5 (by decide) (by decide)).get (k := 1) (v := .int .u8 yf) rfl
            have y2 := (HOO.out.kc hK5 (by decide) (by decide)).get (k := 2) (v := .int .u8 yt) rfl
            have y3 := (HOO.out.kc hK5 (by decide) (by decide)).get (k := 3) (v := .int .u8 yi) rfl
            have y4 := (HOO.out.kc hK5 (by decide) (by decide)).get (k := 4) (v := .int .i64 yv) rfl
            clear hP5 hK5 cM z0 z1 z2 z3 z4
            have cL := rsplice_any A3 n c3 l HLEN.out f 0 f m (f + m + m1) yv w5 (own_lower HP5.out.2.1 (Nat.zero_le _)) (Nat.add_zero f) (by omega) hfn (by omega) (by omega)
            unfold OwnL at cL
            rw [show ((0 : Nat) : Int) = 0 from rfl] at cL
            go_wp2_with fail
            (with_reducible refine cL.mono ?_)
            rintro e w6 ⟨B6, c6, rfl, ho6, hb6⟩
            have HP6 : Hid (PS w0 w6 b B6 (f + m + m1) c6 (l.take f ++ List.replicate m yv ++ l.drop f) (l.take f ++ List.replicate m yv ++ l.drop f)) := Go.Lib.hid (HP5.out.list ho6 (by simp only [List.length_append, List.length_take, List.length_drop, List.length_replicate, HLEN.out]; omega) hb6)
            clear ho6 hb6 cL y0 y1 y2 y3 y4
            have cI := is_ps HP6.out (by omega)
            go_wp2_with fail
            (with_reducible refine cI.mono ?_)
            rintro e w7 ⟨rfl, hP7⟩
            have HP7 := Go.Lib.hid hP7
            clear hP7 cI
            go_wp2
            go_roundw
            case rel => exact ⟨k + 1, _, _, _, _, by omega, by omega, by go_num, rfl, by omega, HP7⟩
            case measure => simp [RowKit.intOf]; omega
      · obtain rfl : k = 30 := by omega
        go_wp2
        go_ret3
        exact ⟨b, A3, n, c3, l, rfl, HP.out.lower HB0.out, by omega⟩
    · obtain rfl : no = k := by omega
      go_wp2
      go_ret3
      exact ⟨b, A3, n, c3, l, rfl, HP.out.lower HB0.out, by omega⟩
end Go.Proofs.Ytioehncdkdfcmaa
