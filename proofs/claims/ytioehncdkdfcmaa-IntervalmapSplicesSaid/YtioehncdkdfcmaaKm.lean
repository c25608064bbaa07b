/- Layer 5: the law Commutes. -/
import Derived.Test.YtioehncdkdfcmaaN2
import Derived.Test.YtioehncdkdfcmaaKp
namespace Go.Proofs.Ytioehncdkdfcmaa
open Go.RowKit Go.Lib Im

theorem mp_comm (l : List Int) {a b c d : Nat} (x y : Int) (h1 : a ≤ b) (h2 : b ≤ c) (h3 : c ≤ d) (h4 : d ≤ l.length) :
    mp (fun _ => y) (mp (fun _ => x) l a (b - a)) c (d - c) = mp (fun _ => x) (mp (fun _ => y) l c (d - c)) a (b - a) := by
  apply List.ext_getElem?
  intro i
  rw [mp_get _ _ _ _ _ (by rw [mp_len]; omega), mp_get _ _ _ _ _ (by omega), mp_get _ _ _ _ _ (by rw [mp_len]; omega), mp_get _ _ _ _ _ (by omega)]
  by_cases e1 : c ≤ i ∧ i < c + (d - c)
  · rw [if_pos e1, if_neg (by omega), if_neg (by omega), if_pos e1]
  · rw [if_neg e1, if_neg e1]
theorem mp_twice (l : List Int) {a b : Nat} (x : Int) (h1 : a ≤ b) (h2 : b ≤ l.length) : mp (fun _ => x) (mp (fun _ => x) l a (b - a)) a (b - a) = mp (fun _ => x) l a (b - a) := by
  apply List.ext_getElem?
  intro i
  rw [mp_get _ _ _ _ _ (by rw [mp_len]; omega), mp_get _ _ _ _ _ (by omega)]
  by_cases e1 : a ≤ i ∧ i < a + (b - a)
  · simp only [if_pos e1]
    cases l[i]? <;> rfl
  · simp only [if_neg e1]
set_option maxRecDepth 100000 in
set_option maxHeartbeats 32000000 in
theorem law_commutes (v : Value) (L : Nat) (V : Int) (A : Option Addr) (n c : Nat) (ops : List Opr) (p0 p1 p2 p3 : Nat) (v0 v1 : Int) (w : World) (h : PlayIn w v L V A n c ops) (hp : p0 < 256 ∧ p1 < 256 ∧ p2 < 256 ∧ p3 < 256) (_ : (Lit.int .i64 v0).wf = true ∧ (Lit.int .i64 v1).wf = true) :
    Calls Try.prog 7 #[v, .agg #[.int .u8 p0, .int .u8 p1, .int .u8 p2, .int .u8 p3], .agg #[.int .i64 v0, .int .i64 v1]] w (BoolB true w) := by
  obtain rfl := h.eq
  obtain ⟨hp0, hp1, hp2, hp3⟩ := hp
  obtain ⟨w0, hw0⟩ : ∃ w0, w0 = ((w.alloc (.cells #[.int .u8 L, .int .i64 V, .slice A n c] 24)).alloc (.cells #[.int .u8 p0, .int .u8 p1, .int .u8 p2, .int .u8 p3] 57)).alloc (.cells #[.int .i64 v0, .int .i64 v1] 51) := ⟨_, rfl⟩
  have hb0 : Below w.heap.size w w0 := by rw [hw0]; exact (((Below.refl _ w).alloc (Nat.le_refl _) _).alloc (by simp) _).alloc (by simp; omega) _
  have ob1 : ObjAt w0 w.heap.size #[.int .u8 L, .int .i64 V, .slice A n c] 24 := by rw [hw0]; exact ((ObjAt.new w _ 24).alloc _).alloc _
  have ob2 : ObjAt w0 (w.heap.size + 1) #[.int .u8 p0, .int .u8 p1, .int .u8 p2, .int .u8 p3] 57 := by
    rw [hw0]
    have := (ObjAt.new (w.alloc (.cells #[.int .u8 L, .int .i64 V, .slice A n c] 24)) #[.int .u8 p0, .int .u8 p1, .int .u8 p2, .int .u8 p3] 57).alloc (.cells #[.int .i64 v0, .int .i64 v1] 51)
    rwa [World.size_alloc] at this
  have ob3 : ObjAt w0 (w.heap.size + 1 + 1) #[.int .i64 v0, .int .i64 v1] 51 := by
    rw [hw0]
    have := ObjAt.new ((w.alloc (.cells #[.int .u8 L, .int .i64 V, .slice A n c] 24)).alloc (.cells #[.int .u8 p0, .int .u8 p1, .int .u8 p2, .int .u8 p3] 57)) #[.int .i64 v0, .int .i64 v1] 51
    rwa [World.size_alloc, World.size_alloc] at this
  have cP := play_in h hb0
  have o0 := ob1.b0
  have o1 := ob1.b1
  have o2 := ob1.b2
  have HO2 := Go.Lib.hid ob2
  have HO3 := Go.Lib.hid ob3
  have HB0 := Go.Lib.hid hb0
  clear ob1 ob2 ob3 h hb0
  rw [hw0] at o0 o1 o2
  go_enter Try.func7, Try.ntmps7
  go_wp2_with fail
  rw [← hw0]
  clear o0 o1 o2
  clear hw0
  (with_reducible refine cP.mono ?_)
  rintro e w1 ⟨b, A1, m, c1, l, rfl, hP, hm⟩
  have HP := Go.Lib.hid hP
  clear hP cP
  go_wp2_with fail
  (with_reducible refine (known_any _).mono ?_)
  rintro e w2 ⟨rfl, hb2⟩
  have HP2 := Go.Lib.hid (HP.out.below hb2)
  clear HP hb2
  have ob2 := HO2.out.below HP2.out.2.2.2
  have z0 := ob2.get (k := 0) (v := .int .u8 p0) rfl
  have z1 := ob2.get (k := 1) (v := .int .u8 p1) rfl
  have z2 := ob2.get (k := 2) (v := .int .u8 p2) rfl
  have z3 := ob2.get (k := 3) (v := .int .u8 p3) rfl
  have HLN := Go.Lib.hid HP2.out.2.2.1
  obtain ⟨f0, hf0⟩ : ∃ f, p0 % (m + 1) = f := ⟨_, rfl⟩
  have hf0m : f0 ≤ m := by rw [← hf0]; exact Nat.le_of_lt_succ (Nat.mod_lt _ (Nat.succ_pos m))
  have F1 : (p0 : Int) % ((m : Int) + 1) = (f0 : Int) := by rw [← hf0]; simp
  have F0 : ¬ ((m : Int) + 1 = 0) := by omega
  obtain ⟨m1, hm1⟩ : ∃ q, m - f0 = q := ⟨_, rfl⟩
  have G1a : IntKind.i64.wrap ((m : Int) - (f0 : Int)) = (m1 : Int) := by rw [IntKind.wrap_i64]; omega
  have G1b : IntKind.i64.wrap ((m1 : Int) + 1) = (m1 : Int) + 1 := by rw [IntKind.wrap_i64]; omega
  have G1z : ¬ ((m1 : Int) + 1 = 0) := by omega
  obtain ⟨s1, hs1⟩ : ∃ q, p1 % (m1 + 1) = q := ⟨_, rfl⟩
  have hs1m : s1 ≤ m1 := by rw [← hs1]; exact Nat.le_of_lt_succ (Nat.mod_lt _ (Nat.succ_pos _))
  have G1c : (p1 : Int) % ((m1 : Int) + 1) = (s1 : Int) := by rw [← hs1]; simp
  obtain ⟨f1, hf1⟩ : ∃ q, f0 + s1 = q := ⟨_, rfl⟩
  have G1d : IntKind.i64.wrap ((f0 : Int) + (s1 : Int)) = (f1 : Int) := by rw [IntKind.wrap_i64]; omega
  clear hs1
  obtain ⟨m2, hm2⟩ : ∃ q, m - f1 = q := ⟨_, rfl⟩
  have G2a : IntKind.i64.wrap ((m : Int) - (f1 : Int)) = (m2 : Int) := by rw [IntKind.wrap_i64]; omega
  have G2b : IntKind.i64.wrap ((m2 : Int) + 1) = (m2 : Int) + 1 := by rw [IntKind.wrap_i64]; omega
  have G2z : ¬ ((m2 : Int) + 1 = 0) := by omega
  obtain ⟨s2, hs2⟩ : ∃ q, p2 % (m2 + 1) = q := ⟨_, rfl⟩
  have hs2m : s2 ≤ m2 := by rw [← hs2]; exact Nat.le_of_lt_succ (Nat.mod_lt _ (Nat.succ_pos _))
  have G2c : (p2 : Int) % ((m2 : Int) + 1) = (s2 : Int) := by rw [← hs2]; simp
  obtain ⟨f2, hf2⟩ : ∃ q, f1 + s2 = q := ⟨_, rfl⟩
  have G2d : IntKind.i64.wrap ((f1 : Int) + (s2 : Int)) = (f2 : Int) := by rw [IntKind.wrap_i64]; omega
  clear hs2
  obtain ⟨m3, hm3⟩ : ∃ q, m - f2 = q := ⟨_, rfl⟩
  have G3a : IntKind.i64.wrap ((m : Int) - (f2 : Int)) = (m3 : Int) := by rw [IntKind.wrap_i64]; omega
  have G3b : IntKind.i64.wrap ((m3 : Int) + 1) = (m3 : Int) + 1 := by rw [IntKind.wrap_i64]; omega
  have G3z : ¬ ((m3 : Int) + 1 = 0) := by omega
  obtain ⟨s3, hs3⟩ : ∃ q, p3 % (m3 + 1) = q := ⟨_, rfl⟩
  have hs3m : s3 ≤ m3 := by rw [← hs3]; exact Nat.le_of_lt_succ (Nat.mod_lt _ (Nat.succ_pos _))
  have G3c : (p3 : Int) % ((m3 : Int) + 1) = (s3 : Int) := by rw [← hs3]; simp
  obtain ⟨f3, hf3⟩ : ∃ q, f2 + s3 = q := ⟨_, rfl⟩
  have G3d : IntKind.i64.wrap ((f2 : Int) + (s3 : Int)) = (f3 : Int) := by rw [IntKind.wrap_i64]; omega
  clear hs3
  clear hf0 ob2
  have hl1000 : l.length ≤ 1000 := by rw [HLN.out]; exact hm
  have q01 : f0 ≤ f1 := by omega
  have q12 : f1 ≤ f2 := by omega
  have q23 : f2 ≤ f3 := by omega
  have q3m : f3 ≤ l.length := by rw [HLN.out]; omega
  have HQ := Go.Lib.hid (And.intro hl1000 (And.intro q01 (And.intro q12 (And.intro q23 q3m))))
  clear hl1000 q01 q12 q23 q3m
  have cA := cl_one HP2.out (by have := HQ.out; omega)
  go_wp2_with fail
  (with_reducible refine cA.mono ?_)
  rintro e w3 ⟨x, rfl, h3⟩
  have H3 := Go.Lib.hid h3
  clear h3 cA z0 z1 z2 z3 HP2
  have cB := cl_two H3.out (by have := HQ.out; omega)
  go_wp2_with fail
  (with_reducible refine cB.mono ?_)
  rintro e w4 ⟨y, rfl, h4⟩
  have S4 := Go.Lib.hid h4
  have y0 := (HO3.out.below S4.out.2.2.2).a0
  have y1 := (HO3.out.below S4.out.2.2.2).a1
  clear h4 cB H3
  have cC := set_ls S4.out (f := f0) (t := f1) v0 (by (try simp only [mp_len]); have := HQ.out; omega) (by have := HQ.out; omega) (by (try simp only [mp_len]); have := HQ.out; omega)
  unfold LsR at cC
  skip
  go_wp2_with fail
  (with_reducible refine cC.mono ?_)
  rintro e w5 ⟨rfl, hS⟩
  have S5 := Go.Lib.hid (hS)
  clear hS cC S4 y0 y1
  have y0 := (HO3.out.below S5.out.2.2.2).a0
  have y1 := (HO3.out.below S5.out.2.2.2).a1
  have cC := set_ls S5.out (f := f2) (t := f3) v1 (by (try simp only [mp_len]); have := HQ.out; omega) (by have := HQ.out; omega) (by (try simp only [mp_len]); have := HQ.out; omega)
  unfold LsR at cC
  skip
  go_wp2_with fail
  (with_reducible refine cC.mono ?_)
  rintro e w6 ⟨rfl, hS⟩
  have S6 := Go.Lib.hid (hS.swap)
  clear hS cC S5 y0 y1
  have y0 := (HO3.out.below S6.out.2.2.2).a0
  have y1 := (HO3.out.below S6.out.2.2.2).a1
  have cC := set_ls S6.out (f := f2) (t := f3) v1 (by (try simp only [mp_len]); have := HQ.out; omega) (by have := HQ.out; omega) (by (try simp only [mp_len]); have := HQ.out; omega)
  unfold LsR at cC
  skip
  go_wp2_with fail
  (with_reducible refine cC.mono ?_)
  rintro e w7 ⟨rfl, hS⟩
  have S7 := Go.Lib.hid (hS)
  clear hS cC S6 y0 y1
  have y0 := (HO3.out.below S7.out.2.2.2).a0
  have y1 := (HO3.out.below S7.out.2.2.2).a1
  have cC := set_ls S7.out (f := f0) (t := f1) v0 (by (try simp only [mp_len]); have := HQ.out; omega) (by have := HQ.out; omega) (by (try simp only [mp_len]); have := HQ.out; omega)
  unfold LsR at cC
  skip
  go_wp2_with fail
  (with_reducible refine cC.mono ?_)
  rintro e w8 ⟨rfl, hS⟩
  have S8 := Go.Lib.hid (hS.swap)
  clear hS cC S7 y0 y1
  have y0 := (HO3.out.below S8.out.2.2.2).a0
  have y1 := (HO3.out.below S8.out.2.2.2).a1
  have HE : Hid (mp (fun _ => v1) (mp (fun _ => v0) l f0 (f1 - f0)) f2 (f3 - f2) = mp (fun _ => v0) (mp (fun _ => v1) l f2 (f3 - f2)) f0 (f1 - f0)) := Go.Lib.hid (by obtain ⟨_, a1, a2, a3, a4⟩ := HQ.out; exact mp_comm l v0 v1 a1 a2 a3 a4)
  have cC := eq_ls S8.out
  unfold LsR at cC
  rw [decide_eq_true HE.out] at cC
  go_wp2_with fail
  (with_reducible refine cC.mono ?_)
  rintro e w9 ⟨rfl, hS⟩
  have S9 := Go.Lib.hid (hS.rot.rot)
  clear hS cC S8 y0 y1
  have y0 := (HO3.out.below S9.out.2.2.2).a0
  have y1 := (HO3.out.below S9.out.2.2.2).a1
  have cC := is_ls S9.out (by omega)
  unfold LsR at cC
  skip
  go_wp2_with fail
  (with_reducible refine cC.mono ?_)
  rintro e w10 ⟨rfl, hS⟩
  have S10 := Go.Lib.hid (hS.rot.swap)
  clear hS cC S9 y0 y1
  have y0 := (HO3.out.below S10.out.2.2.2).a0
  have y1 := (HO3.out.below S10.out.2.2.2).a1
  have cC := set_ls S10.out (f := f0) (t := f1) v0 (by (try simp only [mp_len]); have := HQ.out; omega) (by have := HQ.out; omega) (by (try simp only [mp_len]); have := HQ.out; omega)
  unfold LsR at cC
  skip
  go_wp2_with fail
  (with_reducible refine cC.mono ?_)
  rintro e w11 ⟨rfl, hS⟩
  have S11 := Go.Lib.hid (hS)
  clear hS cC S10 y0 y1
  have y0 := (HO3.out.below S11.out.2.2.2).a0
  have y1 := (HO3.out.below S11.out.2.2.2).a1
  have HE2 : Hid (mp (fun _ => v0) (mp (fun _ => v0) (mp (fun _ => v1) l f2 (f3 - f2)) f0 (f1 - f0)) f0 (f1 - f0) = mp (fun _ => v1) (mp (fun _ => v0) l f0 (f1 - f0)) f2 (f3 - f2)) := Go.Lib.hid (by
    obtain ⟨_, a1, a2, a3, a4⟩ := HQ.out
    rw [HE.out]
    exact mp_twice _ v0 a1 (by rw [mp_len]; omega))
  have cC := eq_ls S11.out
  unfold LsR at cC
  rw [decide_eq_true HE2.out] at cC
  go_wp2_with fail
  (with_reducible refine cC.mono ?_)
  rintro e w12 ⟨rfl, hS⟩
  have S12 := Go.Lib.hid (hS.swap)
  clear hS cC S11 y0 y1
  have y0 := (HO3.out.below S12.out.2.2.2).a0
  have y1 := (HO3.out.below S12.out.2.2.2).a1
  have cC := eq_ls S12.out
  unfold LsR at cC
  rw [decide_eq_true HE2.out.symm] at cC
  go_wp2_with fail
  (with_reducible refine cC.mono ?_)
  rintro e w13 ⟨rfl, hS⟩
  have S13 := Go.Lib.hid (hS)
  clear hS cC S12 y0 y1
  have y0 := (HO3.out.below S13.out.2.2.2).a0
  have y1 := (HO3.out.below S13.out.2.2.2).a1
  clear y0 y1
  go_wp2
  go_ret
  exact ⟨rfl, HB0.out.trans (S13.out.2.2.2.mono HB0.out.size)⟩
end Go.Proofs.Ytioehncdkdfcmaa
