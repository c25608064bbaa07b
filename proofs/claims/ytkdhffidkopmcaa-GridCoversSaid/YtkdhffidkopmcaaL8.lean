/- Layer 12: the law's cover (25); the law of covers (6), walked. -/
import Derived.Test.YtkdhffidkopmcaaH5
import Derived.Test.YtkdhffidkopmcaaH6
namespace Go.Proofs.Ytkdhffidkopmcaa
open Go.RowKit Go.Lib Go.Maps
set_option linter.unusedVariables false

theorem fin_app : ∀ (a b : List (Int × Int)) (f : Nat), Gd.fin f (a ++ b) = Gd.fin (Gd.fin f a) b
  | [], b, f => rfl
  | x :: a, b, f => by simp [Gd.fin, fin_app a b]
theorem le_ends {r : List Cl} {k : Nat} (hk : k < (plR r).length) : (plR r)[k].2.1 ≤ Gd.ends (plR r) := by
  have hk' : k < (r.map val).length := by rw [List.length_map, ← plR_len]; exact hk
  have g := Gd.cel_get (r.map val) 0 k hk'
  have g2 : (plR r)[k].2.1 = Gd.fin 0 ((r.map val).take (k + 1)) := congrArg (·.2.1) g
  rw [g2, ends_fin]
  conv => rhs; rw [← List.take_append_drop (k + 1) (r.map val)]
  rw [fin_app]
  exact Gd.le_fin _ _
theorem ends_wdt {T : Gd.Tb} : ∀ (n i : Nat) (h : i < T.length), i < n → Gd.ends T[i] ≤ wdt (T.take n)
  | 0, i, h, hn => absurd hn (Nat.not_lt_zero _)
  | n + 1, i, h, hn => by
    by_cases e : n < T.length
    · rw [wdt_take e]
      by_cases ei : i = n
      · subst ei; exact Nat.le_max_right _ _
      · exact Nat.le_trans (ends_wdt n i h (by omega)) (Nat.le_max_left _ _)
    · have := ends_wdt n i h (by omega)
      rw [List.take_of_length_le (by omega)] at this ⊢
      exact this
theorem at_wdt {T : List (List Cl)} {i k f t : Nat} {m : Int} (h : Gd.At (plT T) i k f t m) : t ≤ wdt (plT T) := by
  obtain ⟨L, h1, h2⟩ := h
  obtain ⟨hl, hL⟩ := List.getElem?_eq_some_iff.1 h1
  have hi : i < T.length := by rw [plT_len] at hl; exact hl
  have h3 := plT_get hi
  rw [h1] at h3; cases h3
  obtain ⟨hk, hx⟩ := List.getElem?_eq_some_iff.1 h2
  have h4 := le_ends hk
  rw [hx] at h4
  have h5 := ends_wdt (plT T).length i hl hl
  rw [List.take_of_length_le (Nat.le_refl _), hL] at h5
  exact Nat.le_trans h4 h5
theorem least_wdt {T : List (List Cl)} {rs : List Gd.Rc} {g : Nat → Nat → Option Nat} (hF : Gd.Fin (plT T) rs g) {a x : Ar} (h : Ar.Least rs a x) (hb : a.b ≤ T.length) (hr : a.r ≤ wdt (plT T)) : x.r ≤ wdt (plT T) := by
  have := h.2 ⟨0, 0, T.length, wdt (plT T)⟩ ⟨Nat.zero_le _, Nat.zero_le _, hb, hr⟩ fun q hq _ => by
    obtain ⟨⟨m, ha⟩, _, _, hbt⟩ := hF.cell q hq
    have h2 := hbt.2.1
    rw [plT_len] at h2
    exact ⟨Nat.zero_le _, Nat.zero_le _, h2, at_wdt ha⟩
  exact this.2.2.2

set_option maxRecDepth 100000 in
set_option maxHeartbeats 8000000 in
theorem lcover_any (T : List (List Cl)) (hT : GoodT T) (A : Option Addr) (N c : Nat) (hN : T.length = N) (hc : N ≤ c ∧ c ≤ maxLen) (rs : List Gd.Rc) (gg : Nat → Nat → Option Nat) (hF : Gd.Fin (plT T) rs gg) (a x : Ar) (ha : a.In N) (hL : Ar.Least rs a x) (hC : Ar.Closed rs x) (w : World) (hA : TbAt w A T) :
    Calls Try.prog 25 #[.slice A N c, arN a] w fun e w' => e = .returned (arN x) ∧ Below w.heap.size w w' := by
  have cR := Go.Lib.hid (fun w' (hb : Below w.heap.size w w') => rcover_any T hT A N c hN hc rs gg hF a ha w' (hA.below hb))
  have HU := Go.Lib.hid (fun y (h1 : Ar.Least rs a y) (h2 : Ar.Closed rs y) => h1.unique hL h2 hC)
  clear hT hN hF ha hL hC hA
  obtain ⟨at_, al, ab, ar⟩ := a
  unfold arN
  dsimp only at cR ⊢
  have o1 := ObjAt.new w #[.int .i64 (at_ : Nat), .int .i64 (al : Nat), .int .i64 (ab : Nat), .int .i64 (ar : Nat)] 48
  have o1' := o1.alloc (.cells #[.int .i64 0, .int .i64 0, .int .i64 0, .int .i64 0] 48)
  have o2 := ObjAt.new (w.alloc (.cells #[.int .i64 (at_ : Nat), .int .i64 (al : Nat), .int .i64 (ab : Nat), .int .i64 (ar : Nat)] 48)) #[.int .i64 0, .int .i64 0, .int .i64 0, .int .i64 0] 48
  rw [World.size_alloc] at o2
  have HB := Go.Lib.hid (((Below.refl w.heap.size w).alloc (Nat.le_refl _) (.cells #[.int .i64 (at_ : Nat), .int .i64 (al : Nat), .int .i64 (ab : Nat), .int .i64 (ar : Nat)] 48)).alloc (by simp) (.cells #[.int .i64 0, .int .i64 0, .int .i64 0, .int .i64 0] 48))
  have y0 := o1'.e0
  have y1 := o1'.e1
  have y2 := o1'.e2
  have y3 := o1'.e3
  have O2 := Go.Lib.hid o2
  have hc1 := hc.1
  have hc2 := hc.2
  unfold maxLen at hc2
  clear o1 o1' o2
  go_enter Try.func25, Try.ntmps25
  go_wp2_with fail
  generalize (w.alloc (.cells #[.int .i64 (at_ : Nat), .int .i64 (al : Nat), .int .i64 (ab : Nat), .int .i64 (ar : Nat)] 48)).alloc (.cells #[.int .i64 0, .int .i64 0, .int .i64 0, .int .i64 0] 48) = W at *
  have hsz := HB.out.size
  have cr := cR.out W HB.out
  (with_reducible refine cr.mono ?_)
  rintro e w2 ⟨y, rfl, l1, l2, l3, k2⟩
  have he := HU.out y l1 l2
  subst he
  have O3 := Go.Lib.hid (O2.out.below k2)
  have K2 := Go.Lib.hid (HB.out.trans (k2.mono hsz))
  clear cr l1 l2 l3 k2 y0 y1 y2 y3 HU
  obtain ⟨yt, yl, yb, yr⟩ := y
  dsimp only
  have x0 := O3.out.e0
  have x1 := O3.out.e1
  have x2 := O3.out.e2
  have x3 := O3.out.e3
  have f0 := O3.out.frozen 0
  have f1 := O3.out.frozen 1
  have f2 := O3.out.frozen 2
  have f3 := O3.out.frozen 3
  have O4 := Go.Lib.hid (set4 O3.out (.int .i64 (yt : Nat)) (.int .i64 (yl : Nat)) (.int .i64 (yb : Nat)) (.int .i64 (yr : Nat)))
  go_wp2
  have t0 := O4.out.e0
  have t1 := O4.out.e1
  have t2 := O4.out.e2
  have t3 := O4.out.e3
  refine bodyPost_ret (v := .agg #[.int .i64 (yt : Nat), .int .i64 (yl : Nat), .int .i64 (yb : Nat), .int .i64 (yr : Nat)]) ?_ rfl ⟨rfl, set4_below (b := w.heap.size + 1) K2.out (Nat.le_add_right _ _)⟩
  simp [results, Try.results25, go_sem, t0, t1, t2, t3]

attribute [local irreducible] wpQuiet in
set_option maxRecDepth 100000 in
set_option maxHeartbeats 16000000 in
theorem law_covers (A : Option Addr) (N c : Nat) (T : List (List Cl)) (hN : T.length = N) (hc : N ≤ c ∧ c ≤ maxLen) (t l b r : Int) (w : World) (hA : TbAt w A T) : Calls Try.prog 6 #[.slice A N c, .agg #[.int .i64 t, .int .i64 l, .int .i64 b, .int .i64 r]] w (TrueW w) := by
  have hB0 := (Below.refl w.heap.size w).alloc (Nat.le_refl _) (.cells #[.int .i64 t, .int .i64 l, .int .i64 b, .int .i64 r] 48)
  have o0 := ObjAt.new w #[.int .i64 t, .int .i64 l, .int .i64 b, .int .i64 r] 48
  have cK := Go.Lib.hid (fun w' => known_any w')
  have cS := Go.Lib.hid (fun w' (hb : Below w.heap.size w w') => small_any T A N c hN hc w' (hA.below hb))
  have HA := Go.Lib.hid hA
  have HN := Go.Lib.hid hN
  have HC := Go.Lib.hid hc
  have hc1 := hc.1
  have hc2 := hc.2
  unfold maxLen at hc2
  have HB0 := Go.Lib.hid hB0
  have O0 := Go.Lib.hid o0
  clear hA hN hc hB0 o0
  go_enter Try.func6, Try.ntmps6
  go_wp2_with fail
  generalize w.alloc (.cells #[.int .i64 t, .int .i64 l, .int .i64 b, .int .i64 r] 48) = W0 at *
  have s0 := HB0.out.size
  (with_reducible refine (cK.out _).mono ?_)
  rintro e w1 ⟨rfl, k1⟩
  have K1 := Go.Lib.hid (HB0.out.trans (k1.mono s0))
  have O1 := Go.Lib.hid (O0.out.below k1)
  have s1 := K1.out.size
  have cs := cS.out w1 K1.out
  clear k1
  go_wp2_with fail
  (with_reducible refine cs.mono ?_)
  rintro e w2 ⟨⟨bb, rfl, hb⟩, k2⟩
  have K2 := Go.Lib.hid (K1.out.trans (k2.mono s1))
  have O2 := Go.Lib.hid (O1.out.below k2)
  have s2 := K2.out.size
  clear cs k2
  cases bb with
  | false =>
    clear hb
    go_wp2_with fail
    (with_reducible refine (cK.out _).mono ?_)
    rintro e w3 ⟨rfl, k3⟩
    go_wp2
    go_ret
    exact ⟨by simp, K2.out.trans (k3.mono s2)⟩
  | true =>
    have HT := Go.Lib.hid (hb rfl)
    clear hb
    have y0 := O2.out.e0
    have y1 := O2.out.e1
    have y2 := O2.out.e2
    have y3 := O2.out.e3
    have hN10 : N ≤ 10 := by rw [← HN.out]; exact HT.out.1
    have cI := Go.Lib.hid (fun w' (hb : Below w.heap.size w w') => inside_any T HT.out A N c HN.out HC.out t l b r w' (HA.out.below hb))
    unfold arV at cI
    by_cases hI : Ins t l b r N (wdt (plT T))
    · obtain ⟨a, e1, e2, e3, e4⟩ : ∃ a : Ar, t = (a.t : Nat) ∧ l = (a.l : Nat) ∧ b = (a.b : Nat) ∧ r = (a.r : Nat) := by
        obtain ⟨i0, i1, i2, i3, i4, i5⟩ := hI
        exact ⟨⟨t.toNat, l.toNat, b.toNat, r.toNat⟩, by show t = (t.toNat : Nat); omega, by show l = (l.toNat : Nat); omega, by show b = (b.toNat : Nat); omega, by show r = (r.toNat : Nat); omega⟩
      have hw32 : wdt (plT T) ≤ 32 := by have := wdt_le T (plT T).length; rwa [List.take_of_length_le (Nat.le_refl _)] at this
      have HAI := Go.Lib.hid (show a.In N ∧ a.r ≤ wdt (plT T) from by unfold Ins at hI; unfold Ar.In; omega)
      have HI := Go.Lib.hid hI
      have c1 := gcover_any T HT.out A N c HN.out HC.out t l b r a ⟨e1, e2, e3, e4⟩ hI w2 (HA.out.below K2.out)
      have HE := Go.Lib.hid (⟨e1, e2, e3, e4⟩ : t = (a.t : Nat) ∧ l = (a.l : Nat) ∧ b = (a.b : Nat) ∧ r = (a.r : Nat))
      have HEQ := Go.Lib.hid (show Value.agg #[.int .i64 t, .int .i64 l, .int .i64 b, .int .i64 r] = arN a by unfold arN; rw [e1, e2, e3, e4])
      unfold arV at c1
      clear hI e1 e2 e3 e4
      go_wp2_with fail
      (with_reducible refine c1.mono ?_)
      rintro e w3 ⟨rs, gg, x, hF, rfl, hL, hCl, hIn, k3⟩
      have HLC := Go.Lib.hid (⟨hL, hCl, hIn⟩ : Ar.Least rs a x ∧ Ar.Closed rs x ∧ x.In N)
      have HF := Go.Lib.hid hF
      have K3 := Go.Lib.hid (K2.out.trans (k3.mono s2))
      have O3 := Go.Lib.hid (O2.out.below k3)
      have s3 := K3.out.size
      clear c1 hF hL hCl hIn k3 y0 y1 y2 y3
      have cL := Go.Lib.hid (fun w' (hb : Below w.heap.size w w') => lcover_any T HT.out A N c HN.out HC.out rs gg HF.out a x HAI.out.1 HLC.out.1 HLC.out.2.1 w' (HA.out.below hb))
      rw [← HEQ.out] at cL
      have hxw := least_wdt HF.out HLC.out.1 (by rw [HN.out]; exact HAI.out.1.2.1) HAI.out.2
      have cX := Go.Lib.hid (fun w' (hb : Below w.heap.size w w') => gcover_any T HT.out A N c HN.out HC.out (x.t : Nat) (x.l : Nat) (x.b : Nat) (x.r : Nat) x ⟨rfl, rfl, rfl, rfl⟩ (by have := HLC.out.2.2; unfold Ar.In at this; unfold Ins; omega) w' (HA.out.below hb))
      have HUX := Go.Lib.hid (fun (rs' : List Gd.Rc) gg' (y : Ar) (hF' : Gd.Fin (plT T) rs' gg') (h1 : Ar.Least rs' x y) => show y = x from by
        have := Gd.Fin.unique (plT_ok T) HF.out hF'
        subst this
        exact h1.self HLC.out.2.1)
      unfold arV at cX
      clear hxw hw32
      obtain ⟨xt, xl, xb, xr⟩ := x
      unfold arN at *
      dsimp only at *
      have hnew := ObjAt.new w3 #[.int .i64 (xt : Nat), .int .i64 (xl : Nat), .int .i64 (xb : Nat), .int .i64 (xr : Nat)] 48
      have KA := Go.Lib.hid (K3.out.alloc s3 (.cells #[.int .i64 (xt : Nat), .int .i64 (xl : Nat), .int .i64 (xb : Nat), .int .i64 (xr : Nat)] 48))
      have OA := Go.Lib.hid (O3.out.alloc (.cells #[.int .i64 (xt : Nat), .int .i64 (xl : Nat), .int .i64 (xb : Nat), .int .i64 (xr : Nat)] 48))
      have ON := Go.Lib.hid hnew
      have z0 := OA.out.e0
      have z1 := OA.out.e1
      have z2 := OA.out.e2
      have z3 := OA.out.e3
      have ci := cI.out _ KA.out
      clear hnew
      go_wp2_with fail
      generalize w3.alloc (.cells #[.int .i64 (xt : Nat), .int .i64 (xl : Nat), .int .i64 (xb : Nat), .int .i64 (xr : Nat)] 48) = W3 at *
      have sA := KA.out.size
      (with_reducible refine ci.mono ?_)
      rintro e w4 ⟨⟨b4, rfl, hb4⟩, k4⟩
      obtain rfl : b4 = true := hb4.2 HI.out
      have K4 := Go.Lib.hid (KA.out.trans (k4.mono sA))
      have O4 := Go.Lib.hid (OA.out.below k4)
      have N4 := Go.Lib.hid (ON.out.below k4)
      have s4 := K4.out.size
      clear ci hb4 k4 z0 z1 z2 z3
      go_wp2_with fail
      have y0F : ∀ p : Bw w4, p.w.cell? ⟨w.heap.size, 0, none⟩ = some (.int .i64 t) := fun p => (O4.out.below p.h).e0
      have y1F : ∀ p : Bw w4, p.w.cell? ⟨w.heap.size, 1, none⟩ = some (.int .i64 l) := fun p => (O4.out.below p.h).e1
      have y2F : ∀ p : Bw w4, p.w.cell? ⟨w.heap.size, 2, none⟩ = some (.int .i64 b) := fun p => (O4.out.below p.h).e2
      have y3F : ∀ p : Bw w4, p.w.cell? ⟨w.heap.size, 3, none⟩ = some (.int .i64 r) := fun p => (O4.out.below p.h).e3
      have x0F : ∀ p : Bw w4, p.w.cell? ⟨w3.heap.size, 0, none⟩ = some (.int .i64 (xt : Nat)) := fun p => (N4.out.below p.h).e0
      have x1F : ∀ p : Bw w4, p.w.cell? ⟨w3.heap.size, 1, none⟩ = some (.int .i64 (xl : Nat)) := fun p => (N4.out.below p.h).e1
      have x2F : ∀ p : Bw w4, p.w.cell? ⟨w3.heap.size, 2, none⟩ = some (.int .i64 (xb : Nat)) := fun p => (N4.out.below p.h).e2
      have x3F : ∀ p : Bw w4, p.w.cell? ⟨w3.heap.size, 3, none⟩ = some (.int .i64 (xr : Nat)) := fun p => (N4.out.below p.h).e3
      refine wp_region_bw (W := w4) (by kernel_rfl) (by kernel_rfl) (by first | exact Below.refl _ _ | exact (Below.refl _ _).drew) ?_
      repeat (quiet_step (first
        | (go_at_call 25; exact bw_of (fun p => cL.out p.w (K4.out.trans (p.h.mono s4))) _)
        | fail))
      refine wpQuiet_nil ?_
      intro w5 hw'
      have kk : Below w4.heap.size w4 w5 := by obtain ⟨p2, rfl⟩ := hw'; exact p2.h
      clear hw' y0F y1F y2F y3F x0F x1F x2F x3F
      have K5 := Go.Lib.hid (K4.out.trans (kk.mono s4))
      have N5 := Go.Lib.hid (N4.out.below kk)
      have s5 := K5.out.size
      have cx := cX.out w5 K5.out
      have z0 := N5.out.e0
      have z1 := N5.out.e1
      have z2 := N5.out.e2
      have z3 := N5.out.e3
      clear kk
      go_wp2_with fail
      (with_reducible refine cx.mono ?_)
      rintro e w6 ⟨rs', gg', y, hF', rfl, hL', _, _, k6⟩
      have hy := HUX.out rs' gg' y hF' hL'
      subst hy
      have K6 := Go.Lib.hid (K5.out.trans (k6.mono s5))
      have N6 := Go.Lib.hid (N5.out.below k6)
      have s6 := K6.out.size
      clear cx hF' hL' k6 z0 z1 z2 z3
      have q := N6.out.alloc (.cells #[.int .i64 (xt : Nat), .int .i64 (xl : Nat), .int .i64 (xb : Nat), .int .i64 (xr : Nat)] 48)
      have z0 := q.e0
      have z1 := q.e1
      have z2 := q.e2
      have z3 := q.e3
      clear q
      unfold arN
      dsimp only
      go_wp2
      go_ret
      exact ⟨by simp, K6.out.alloc s6 _⟩
    · have c1 := gcover_bad T HT.out A N c HN.out HC.out t l b r hI w2 (HA.out.below K2.out)
      have HI := Go.Lib.hid hI
      unfold arV at c1
      clear hI
      go_wp2_with fail
      (with_reducible refine c1.mono ?_)
      rintro e w3 ⟨rfl, k3⟩
      have K3 := Go.Lib.hid (K2.out.trans (k3.mono s2))
      have O3 := Go.Lib.hid (O2.out.below k3)
      have s3 := K3.out.size
      clear c1 k3 y0 y1 y2 y3
      have hnew := ObjAt.new w3 #[.int .i64 0, .int .i64 0, .int .i64 0, .int .i64 0] 48
      have KA := Go.Lib.hid (K3.out.alloc s3 (.cells #[.int .i64 0, .int .i64 0, .int .i64 0, .int .i64 0] 48))
      have OA := Go.Lib.hid (O3.out.alloc (.cells #[.int .i64 0, .int .i64 0, .int .i64 0, .int .i64 0] 48))
      have ON := Go.Lib.hid hnew
      have z0 := OA.out.e0
      have z1 := OA.out.e1
      have z2 := OA.out.e2
      have z3 := OA.out.e3
      have ci := cI.out _ KA.out
      clear hnew
      go_wp2_with fail
      generalize w3.alloc (.cells #[.int .i64 0, .int .i64 0, .int .i64 0, .int .i64 0] 48) = W3 at *
      have sA := KA.out.size
      (with_reducible refine ci.mono ?_)
      rintro e w4 ⟨⟨b4, rfl, hb4⟩, k4⟩
      obtain rfl : b4 = false := by cases b4 with | false => rfl | true => exact absurd (hb4.1 rfl) HI.out
      have K4 := Go.Lib.hid (KA.out.trans (k4.mono sA))
      have N4 := Go.Lib.hid (ON.out.below k4)
      clear ci hb4 k4 z0 z1 z2 z3
      have z0 := N4.out.e0
      have z1 := N4.out.e1
      have z2 := N4.out.e2
      have z3 := N4.out.e3
      go_wp2
      go_ret
      exact ⟨by simp, K4.out⟩
end Go.Proofs.Ytkdhffidkopmcaa
