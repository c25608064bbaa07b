/- Layer 5: the law Splices. -/
import Derived.Test.YtioehncdkdfcmaaKm
namespace Go.Proofs.Ytioehncdkdfcmaa
open Go.RowKit Go.Lib Im

theorem spc_set (l : List Int) {a s b : Nat} (v : Int) (h : a + s = b) (hb : b ≤ l.length) (hl : l.length ≤ 1000) : spcE l.length a s s = 0 ∧ spcL l a s s v = mp (fun _ => v) l a (b - a) := by
  have e0 : spcE l.length a s s = 0 := by
    unfold spcE
    rw [if_pos ⟨by omega, by omega⟩, if_neg (by omega), if_neg (by omega)]
  refine ⟨e0, ?_⟩
  unfold spcL
  rw [if_pos e0, ← set_mp v (by omega) hb]
  unfold setL
  rw [if_pos ⟨by omega, by omega, by omega⟩, show ((b : Int) - (a : Int)).toNat = ((s : Int)).toNat by omega, show ((a : Int) + (s : Int)) = (b : Int) by omega]
theorem spc_ins (l : List Int) {a : Nat} (v : Int) (ha : a ≤ l.length) (hl : l.length ≤ 1000) : spcE l.length a 0 5 = 0 ∧ spcL l a 0 5 v = l.take a ++ (List.replicate 5 v ++ l.drop a) := by
  have e0 : spcE l.length a 0 5 = 0 := by
    unfold spcE
    rw [if_pos ⟨by omega, by omega⟩, if_neg (by omega), if_neg (by omega)]
  refine ⟨e0, ?_⟩
  unfold spcL
  rw [if_pos e0, Int.add_zero, Int.toNat_natCast, List.append_assoc]
  rfl
theorem spc_del (l : List Int) {a : Nat} (v : Int) (ha : a ≤ l.length) (hl : l.length ≤ 1000) : spcE (l.take a ++ (List.replicate 5 v ++ l.drop a)).length a 5 0 = 0 ∧ spcL (l.take a ++ (List.replicate 5 v ++ l.drop a)) a 5 0 0 = l := by
  have hlen : (l.take a ++ (List.replicate 5 v ++ l.drop a)).length = l.length + 5 := by
    simp only [List.length_append, List.length_take, List.length_drop, List.length_replicate]; omega
  have e0 : spcE (l.take a ++ (List.replicate 5 v ++ l.drop a)).length a 5 0 = 0 := by
    rw [hlen]
    unfold spcE
    rw [if_pos ⟨by omega, by omega⟩, if_neg (by omega), if_neg (by omega)]
  refine ⟨e0, ?_⟩
  have ht : (l.take a).length = a := by rw [List.length_take]; omega
  unfold spcL
  rw [if_pos e0, Int.toNat_natCast, show ((a : Int) + 5).toNat = a + 5 by omega, List.take_left' ht, ← List.drop_drop, List.drop_left' ht, List.drop_left' (by simp)]
  simp
theorem spc_bad (l : List Int) (a r i v : Int) {k : Int} (h : spcE l.length a r i = k) (hk : k ≠ 0) : spcL l a r i v = l := by
  unfold spcL
  rw [if_neg (by rw [h]; exact hk)]
set_option maxRecDepth 100000 in
set_option maxHeartbeats 32000000 in
theorem law_splices (v : Value) (L : Nat) (V : Int) (A : Option Addr) (n c : Nat) (ops : List Opr) (p0 p1 : Nat) (x0 : Int) (w : World) (h : PlayIn w v L V A n c ops) (hp : p0 < 256 ∧ p1 < 256) :
    Calls Try.prog 8 #[v, .agg #[.int .u8 p0, .int .u8 p1], .int .i64 x0] w (BoolB true w) := by
  obtain rfl := h.eq
  obtain ⟨hp0, hp1⟩ := hp
  obtain ⟨w0, hw0⟩ : ∃ w0, w0 = (w.alloc (.cells #[.int .u8 L, .int .i64 V, .slice A n c] 24)).alloc (.cells #[.int .u8 p0, .int .u8 p1] 63) := ⟨_, rfl⟩
  have hb0 : Below w.heap.size w w0 := by rw [hw0]; exact ((Below.refl _ w).alloc (Nat.le_refl _) _).alloc (by simp) _
  have ob1 : ObjAt w0 w.heap.size #[.int .u8 L, .int .i64 V, .slice A n c] 24 := by rw [hw0]; exact (ObjAt.new w _ 24).alloc _
  have ob2 : ObjAt w0 (w.heap.size + 1) #[.int .u8 p0, .int .u8 p1] 63 := by
    rw [hw0]
    have := ObjAt.new (w.alloc (.cells #[.int .u8 L, .int .i64 V, .slice A n c] 24)) #[.int .u8 p0, .int .u8 p1] 63
    rwa [World.size_alloc] at this
  have cP := play_in h hb0
  have o0 := ob1.b0
  have o1 := ob1.b1
  have o2 := ob1.b2
  have HO2 := Go.Lib.hid ob2
  have HB0 := Go.Lib.hid hb0
  clear ob1 ob2 h hb0
  rw [hw0] at o0 o1 o2
  go_enter Try.func8, Try.ntmps8
  go_wp2_with fail
  rw [← hw0]
  clear o0 o1 o2
  clear hw0
  (with_reducible refine cP.mono ?_)
  rintro e w1 ⟨b, A1, m, c1, l, rfl, hP, hm⟩
  have HP := Go.Lib.hid hP
  clear hP cP
  go_wp2_with fail
  (with_reducible refine (known_any _).mono ?_)
  rintro e w2 ⟨rfl, hb2⟩
  have HP2 := Go.Lib.hid (HP.out.below hb2)
  clear HP hb2
  have ob2 := HO2.out.below HP2.out.2.2.2
  have z0 := ob2.a0
  have z1 := ob2.a1
  have HLN := Go.Lib.hid HP2.out.2.2.1
  obtain ⟨f0, hf0⟩ : ∃ f, p0 % (m + 1) = f := ⟨_, rfl⟩
  have hf0m : f0 ≤ m := by rw [← hf0]; exact Nat.le_of_lt_succ (Nat.mod_lt _ (Nat.succ_pos m))
  have F1 : (p0 : Int) % ((m : Int) + 1) = (f0 : Int) := by rw [← hf0]; simp
  have F0 : ¬ ((m : Int) + 1 = 0) := by omega
  obtain ⟨m1, hm1⟩ : ∃ q, m - f0 = q := ⟨_, rfl⟩
  have G1a : IntKind.i64.wrap ((m : Int) - (f0 : Int)) = (m1 : Int) := by rw [IntKind.wrap_i64]; omega
  have G1b : IntKind.i64.wrap ((m1 : Int) + 1) = (m1 : Int) + 1 := by rw [IntKind.wrap_i64]; omega
  have G1z : ¬ ((m1 : Int) + 1 = 0) := by omega
  obtain ⟨s1, hs1⟩ : ∃ q, p1 % (m1 + 1) = q := ⟨_, rfl⟩
  have hs1m : s1 ≤ m1 := by rw [← hs1]; exact Nat.le_of_lt_succ (Nat.mod_lt _ (Nat.succ_pos _))
  have G1c : (p1 : Int) % ((m1 : Int) + 1) = (s1 : Int) := by rw [← hs1]; simp
  obtain ⟨f1, hf1⟩ : ∃ q, f0 + s1 = q := ⟨_, rfl⟩
  have G1d : IntKind.i64.wrap ((f0 : Int) + (s1 : Int)) = (f1 : Int) := by rw [IntKind.wrap_i64]; omega
  have G1e : IntKind.i64.wrap ((f1 : Int) - (f0 : Int)) = (s1 : Int) := by rw [IntKind.wrap_i64]; omega
  clear hs1
  clear hf0 ob2
  have hl1000 : l.length ≤ 1000 := by rw [HLN.out]; exact hm
  have q01 : f0 ≤ f1 := by omega
  have q3m : f1 ≤ l.length := by rw [HLN.out]; omega
  have HQ := Go.Lib.hid (And.intro hl1000 (And.intro q01 (And.intro q3m hf1)))
  have HM1 := Go.Lib.hid (show f0 + m1 = l.length by rw [HLN.out]; omega)
  clear hl1000 q01 q3m
  have cA := cl_one HP2.out (by have := HQ.out; omega)
  go_wp2_with fail
  (with_reducible refine cA.mono ?_)
  rintro e w3 ⟨x, rfl, h3⟩
  have H3 := Go.Lib.hid h3
  clear h3 cA z0 z1 HP2
  have cB := cl_two H3.out (by have := HQ.out; omega)
  go_wp2_with fail
  (with_reducible refine cB.mono ?_)
  rintro e w4 ⟨y, rfl, h4⟩
  have S4 := Go.Lib.hid h4
  clear h4 cB H3
  have E1 := Go.Lib.hid (spc_set l (a := f0) (s := s1) (b := f1) x0 HQ.out.2.2.2 HQ.out.2.2.1 HQ.out.1)
  have cC := spc_ls S4.out f0 s1 s1 x0 (by have := HQ.out; omega) (by omega) (by omega) (by omega) (by omega)
  unfold LsR at cC
  rw [E1.out.1, E1.out.2] at cC
  go_wp2_with fail
  (with_reducible refine cC.mono ?_)
  rintro e w5 ⟨rfl, hS⟩
  have S5 := Go.Lib.hid (hS.swap)
  clear hS cC S4
  have cC := set_ls S5.out (f := f0) (t := f1) x0 (by have := HQ.out; omega) HQ.out.2.1 HQ.out.2.2.1
  unfold LsR at cC
  skip
  go_wp2_with fail
  (with_reducible refine cC.mono ?_)
  rintro e w6 ⟨rfl, hS⟩
  have S6 := Go.Lib.hid (hS.swap)
  clear hS cC S5
  have cC := eq_ls S6.out
  unfold LsR at cC
  rw [decide_eq_true rfl] at cC
  go_wp2_with fail
  (with_reducible refine cC.mono ?_)
  rintro e w7 ⟨rfl, hS⟩
  have S7 := Go.Lib.hid (hS.rot.rot)
  clear hS cC S6
  have cC := cl_ls S7.out (by have := HQ.out; omega)
  unfold ClR at cC
  go_wp2_with fail
  (with_reducible refine cC.mono ?_)
  rintro e w8 ⟨z, rfl, hS⟩
  have S8 := Go.Lib.hid hS.swap
  clear hS cC S7
  have E2 := Go.Lib.hid (spc_ins l (a := f0) x0 (by have := HQ.out; omega) HQ.out.1)
  have E3 := Go.Lib.hid (spc_del l (a := f0) x0 (by have := HQ.out; omega) HQ.out.1)
  have cC := spc_ls S8.out f0 0 5 x0 (by have := HQ.out; omega) (by omega) (by omega) (by omega) (by omega)
  unfold LsR at cC
  rw [E2.out.1, E2.out.2] at cC
  go_wp2_with fail
  (with_reducible refine cC.mono ?_)
  rintro e w9 ⟨rfl, hS⟩
  have S9 := Go.Lib.hid (hS)
  clear hS cC S8
  have cC := spc_ls S9.out f0 5 0 0 (by simp only [List.length_append, List.length_take, List.length_drop, List.length_replicate]; have := HQ.out; omega) (by omega) (by omega) (by omega) (by omega)
  unfold LsR at cC
  rw [E3.out.1, E3.out.2] at cC
  go_wp2_with fail
  (with_reducible refine cC.mono ?_)
  rintro e w10 ⟨rfl, hS⟩
  have S10 := Go.Lib.hid (hS)
  clear hS cC S9
  have cC := eq_ls S10.out
  unfold LsR at cC
  rw [decide_eq_true rfl] at cC
  go_wp2_with fail
  (with_reducible refine cC.mono ?_)
  rintro e w11 ⟨rfl, hS⟩
  have S11 := Go.Lib.hid (hS)
  clear hS cC S10
  have EB11 : spcE l.length (-1) 0 1 = 2 := by
    have := HQ.out
    have := HM1.out
    unfold spcE
    (first | rw [if_neg (by omega)] | rw [if_pos (by omega), if_pos (by omega)] | rw [if_pos (by omega), if_neg (by omega), if_pos (by omega)])
  have HEB11 := Go.Lib.hid EB11
  clear EB11
  have cC := spc_ls S11.out (-1) 0 1 x0 (by have := HQ.out; omega) (by omega) (by omega) (by omega) (by omega)
  unfold LsR at cC
  rw [HEB11.out, spc_bad l (-1) 0 1 x0 HEB11.out (by decide)] at cC
  go_wp2_with fail
  (with_reducible refine cC.mono ?_)
  rintro e w12 ⟨rfl, hS⟩
  have S12 := Go.Lib.hid (hS)
  clear hS cC S11
  have EB12 : spcE l.length 0 (-1) 1 = 2 := by
    have := HQ.out
    have := HM1.out
    unfold spcE
    (first | rw [if_neg (by omega)] | rw [if_pos (by omega), if_pos (by omega)] | rw [if_pos (by omega), if_neg (by omega), if_pos (by omega)])
  have HEB12 := Go.Lib.hid EB12
  clear EB12
  have cC := spc_ls S12.out 0 (-1) 1 x0 (by have := HQ.out; omega) (by omega) (by omega) (by omega) (by omega)
  unfold LsR at cC
  rw [HEB12.out, spc_bad l 0 (-1) 1 x0 HEB12.out (by decide)] at cC
  go_wp2_with fail
  (with_reducible refine cC.mono ?_)
  rintro e w13 ⟨rfl, hS⟩
  have S13 := Go.Lib.hid (hS)
  clear hS cC S12
  have EB13 : spcE l.length 0 0 (-1) = 2 := by
    have := HQ.out
    have := HM1.out
    unfold spcE
    (first | rw [if_neg (by omega)] | rw [if_pos (by omega), if_pos (by omega)] | rw [if_pos (by omega), if_neg (by omega), if_pos (by omega)])
  have HEB13 := Go.Lib.hid EB13
  clear EB13
  have cC := spc_ls S13.out 0 0 (-1) x0 (by have := HQ.out; omega) (by omega) (by omega) (by omega) (by omega)
  unfold LsR at cC
  rw [HEB13.out, spc_bad l 0 0 (-1) x0 HEB13.out (by decide)] at cC
  go_wp2_with fail
  (with_reducible refine cC.mono ?_)
  rintro e w14 ⟨rfl, hS⟩
  have S14 := Go.Lib.hid (hS)
  clear hS cC S13
  have EB14 : spcE l.length f0 ((m1 : Int) + 1) 1 = 2 := by
    have := HQ.out
    have := HM1.out
    unfold spcE
    (first | rw [if_neg (by omega)] | rw [if_pos (by omega), if_pos (by omega)] | rw [if_pos (by omega), if_neg (by omega), if_pos (by omega)])
  have HEB14 := Go.Lib.hid EB14
  clear EB14
  have cC := spc_ls S14.out f0 ((m1 : Int) + 1) 1 x0 (by have := HQ.out; omega) (by omega) (by omega) (by omega) (by omega)
  unfold LsR at cC
  rw [HEB14.out, spc_bad l f0 ((m1 : Int) + 1) 1 x0 HEB14.out (by decide)] at cC
  go_wp2_with fail
  (with_reducible refine cC.mono ?_)
  rintro e w15 ⟨rfl, hS⟩
  have S15 := Go.Lib.hid (hS)
  clear hS cC S14
  have EB15 : spcE l.length f0 0 1048577 = 9 := by
    have := HQ.out
    have := HM1.out
    unfold spcE
    (first | rw [if_neg (by omega)] | rw [if_pos (by omega), if_pos (by omega)] | rw [if_pos (by omega), if_neg (by omega), if_pos (by omega)])
  have HEB15 := Go.Lib.hid EB15
  clear EB15
  have cC := spc_ls S15.out f0 0 1048577 x0 (by have := HQ.out; omega) (by omega) (by omega) (by omega) (by omega)
  unfold LsR at cC
  rw [HEB15.out, spc_bad l f0 0 1048577 x0 HEB15.out (by decide)] at cC
  go_wp2_with fail
  (with_reducible refine cC.mono ?_)
  rintro e w16 ⟨rfl, hS⟩
  have S16 := Go.Lib.hid (hS)
  clear hS cC S15
  have cC := eq_ls S16.out
  unfold LsR at cC
  rw [decide_eq_true rfl] at cC
  go_wp2_with fail
  (with_reducible refine cC.mono ?_)
  rintro e w17 ⟨rfl, hS⟩
  have S17 := Go.Lib.hid (hS)
  clear hS cC S16
  go_wp2
  go_ret
  exact ⟨rfl, HB0.out.trans (S17.out.2.2.2.mono HB0.out.size)⟩
end Go.Proofs.Ytioehncdkdfcmaa
