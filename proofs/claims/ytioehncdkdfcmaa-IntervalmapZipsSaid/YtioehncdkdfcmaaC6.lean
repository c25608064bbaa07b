/- Layer 5: Set, Splice. -/
import Derived.Test.YtioehncdkdfcmaaC5
namespace Go.Proofs.Ytioehncdkdfcmaa
open Go.RowKit Go.Lib Im

theorem mpR_pre {w w1 w' : World} {b g : Nat} {R : List Rn} (hb : Below w.heap.size w w1) (h : MpR w1 b g R w') : MpR w b g R w' := by
  obtain ⟨g', h1, h2, h3⟩ := h
  refine ⟨g', h1, ⟨(hb.mono (Nat.zero_le _)).trans h2.1, fun k hk hb' hg' => (h2.2 k (Nat.lt_of_lt_of_le hk hb.size) hb' hg').trans (hb.block k hk)⟩, ?_⟩
  rcases h3 with h | h
  · exact .inl h
  · exact .inr (Nat.le_trans hb.size h)
theorem rnat_one (w : World) (f t v : Int) : RnAt (w.alloc (.cells #[.int .i64 f, .int .i64 t, .int .i64 v] 34)) (some ⟨w.heap.size, 0, none⟩) [(f, t, v)] := by
  have o := ObjAt.new w #[.int .i64 f, .int .i64 t, .int .i64 v] 34
  refine .inr ⟨w.heap.size, 0, rfl, o.lt, fun k hk => ?_⟩
  obtain rfl : k = 0 := by simp at hk; exact hk
  exact ⟨o.b0, o.b1, o.b2⟩
theorem fits_one {f t : Int} (v : Int) (h : f ≤ t) : Fits f [(f, t, v)] t := by
  by_cases he : f = t
  · exact ⟨f, .inl ⟨by show t ≤ f; omega, rfl⟩, he⟩
  · exact ⟨t, .inr ⟨rfl, by show f < t; omega, rfl⟩, rfl⟩
def setL (l : List Int) (f t v : Int) : List Int := if 0 ≤ f ∧ f ≤ t ∧ t ≤ l.length then l.take f.toNat ++ List.replicate (t - f).toNat v ++ l.drop t.toNat else l
def SetR (w : World) (b g : Nat) (l : List Int) (f t v : Int) (e : Ending) (w' : World) : Prop := e = .returned (.int .i64 (chkR l.length f t)) ∧ MpR w b g (runs (setL l f t v)) w'
set_option maxRecDepth 100000 in
set_option maxHeartbeats 4000000 in
theorem set_any (b g : Nat) (l : List Int) (f t v : Int) (w : World) (h : MpG w b g (runs l)) (hl : l.length ≤ 400000) : Calls Try.prog 27 #[.pointer (some ⟨b, 0, none⟩), .int .i64 f, .int .i64 t, .int .i64 v] w (SetR w b g l f t v) := by
  have cC := check_any b (runs l) f t w (mpG_at h)
  rw [lenR_runs] at cC
  have H := Go.Lib.hid h
  clear h
  by_cases hok : 0 ≤ f ∧ f ≤ t ∧ t ≤ l.length
  · have hc : chkR l.length f t = 0 := if_pos hok
    have HL : Hid (setL l f t v = l.take f.toNat ++ vals [(f, t, v)] ++ l.drop t.toNat) := Go.Lib.hid (by unfold setL; rw [if_pos hok, vals_one])
    have HCK := Go.Lib.hid hc
    rw [hc] at cC
    obtain ⟨k0, k1, k2⟩ := hok
    clear hc
    go_enter Try.func27, Try.ntmps27
    go_wp2_with (go_at_call 44; (with_reducible refine cC.mono ?_); rintro e w1 ⟨rfl, hb1⟩)
    have hb2 : Below w.heap.size w (w1.alloc (.cells #[.int .i64 f, .int .i64 t, .int .i64 v] 34)) := hb1.alloc hb1.size _
    have cR := replace_any b g l [(f, t, v)] f t 0 (some ⟨w1.heap.size, 0, none⟩) 1 1 (w1.alloc (.cells #[.int .i64 f, .int .i64 t, .int .i64 v] 34)) (mpG_below H.out hb2) hl k0 k1 k2 (by omega) (by omega) (rnat_one w1 f t v) rfl (by omega) (by rw [Int.add_zero]; exact fits_one v k1)
    with_reducible refine cR.mono ?_
    rintro e w3 ⟨rfl, hm⟩
    have HM := Go.Lib.hid (mpR_pre hb2 hm)
    clear hm cR hb1 hb2 k0 k1 k2
    go_wp2
    go_ret
    exact ⟨by rw [HCK.out]; rfl, by rw [HL.out]; exact HM.out⟩
  · have hc : chkR l.length f t = 2 := if_neg hok
    have HL : Hid (setL l f t v = l) := Go.Lib.hid (if_neg hok)
    have HCK := Go.Lib.hid hc
    rw [hc] at cC
    clear hc hok
    go_enter Try.func27, Try.ntmps27
    go_wp2_with (go_at_call 44; (with_reducible refine cC.mono ?_); rintro e w1 ⟨rfl, hb1⟩)
    go_ret
    exact ⟨by rw [HCK.out]; rfl, by rw [HL.out]; exact mpR_below H.out hb1⟩
def spcE (n a r i : Int) : Int := if 0 ≤ a ∧ a ≤ n then (if r < 0 ∨ i < 0 ∨ n - r < a then 2 else if 1048576 - (n - r) < i then 9 else 0) else 2
def spcL (l : List Int) (a r i v : Int) : List Int := if spcE l.length a r i = 0 then l.take a.toNat ++ List.replicate i.toNat v ++ l.drop (a + r).toNat else l
def SpcR (w : World) (b g : Nat) (l : List Int) (a r i v : Int) (e : Ending) (w' : World) : Prop := e = .returned (.int .i64 (spcE l.length a r i)) ∧ MpR w b g (runs (spcL l a r i v)) w'
set_option maxRecDepth 100000 in
set_option maxHeartbeats 4000000 in
theorem splice_any (b g : Nat) (l : List Int) (a r i v : Int) (w : World) (h : MpG w b g (runs l)) (hl : l.length ≤ 400000) (hr : -2000000 ≤ r) (hr' : r ≤ 2000000) (hi : -2000000 ≤ i) (hi' : i ≤ 2000000) :
    Calls Try.prog 30 #[.pointer (some ⟨b, 0, none⟩), .int .i64 a, .int .i64 r, .int .i64 i, .int .i64 v] w (SpcR w b g l a r i v) := by
  have cC := check_any b (runs l) a a w (mpG_at h)
  have cL := fun w' h => len_any b (runs l) w' h
  rw [lenR_runs] at cC
  rw [lenR_runs] at cL
  have H := Go.Lib.hid h
  clear h
  have HSL : Hid (spcL l a r i v = if spcE l.length a r i = 0 then l.take a.toNat ++ vals [(a, a + i, v)] ++ l.drop (a + r).toNat else l) := Go.Lib.hid (by
    unfold spcL; rw [vals_one, show (a + i - a).toNat = i.toNat by omega])
  obtain ⟨n, hn⟩ : ∃ n : Int, (l.length : Int) = n := ⟨_, rfl⟩
  have hn0 : 0 ≤ n := by omega
  have hn1 : n ≤ 400000 := by omega
  have HN := Go.Lib.hid hn
  have HLL := Go.Lib.hid hl
  unfold SpcR
  rw [hn] at HSL cC ⊢
  rw [hn] at cL
  clear hn hl
  by_cases hok : 0 ≤ a ∧ a ≤ a ∧ a ≤ n
  · have hc : chkR n a a = 0 := if_pos hok
    obtain ⟨k0, _, k2⟩ := hok
    rw [hc] at cC
    clear hc
    have hw1 : IntKind.i64.wrap (n - r) = n - r := by rw [IntKind.wrap_i64]; omega
    by_cases h1 : r < 0 ∨ i < 0 ∨ n - r < a
    · have HE : Hid (spcE n a r i = 2) := Go.Lib.hid (by unfold spcE; rw [if_pos ⟨k0, k2⟩, if_pos h1])
      rw [if_neg (by rw [HE.out]; decide)] at HSL
      by_cases q1 : r < 0
      · clear h1
        go_enter Try.func30, Try.ntmps30
        go_wp2_with (first | (go_at_call 44; (with_reducible refine cC.mono ?_); rintro e w1 ⟨rfl, hb1⟩; have cL1 := cL _ (mpG_at (mpG_below H.out hb1))) | (go_at_call 17; (with_reducible refine cL1.mono ?_); rintro e w2 ⟨rfl, hb2⟩))
        go_ret
        exact ⟨by rw [HE.out]; rfl, by rw [HSL.out]; exact mpR_below H.out (hb1.trans (hb2.mono hb1.size))⟩
      · by_cases q2 : i < 0
        · clear h1
          go_enter Try.func30, Try.ntmps30
          go_wp2_with (first | (go_at_call 44; (with_reducible refine cC.mono ?_); rintro e w1 ⟨rfl, hb1⟩; have cL1 := cL _ (mpG_at (mpG_below H.out hb1))) | (go_at_call 17; (with_reducible refine cL1.mono ?_); rintro e w2 ⟨rfl, hb2⟩))
          go_ret
          exact ⟨by rw [HE.out]; rfl, by rw [HSL.out]; exact mpR_below H.out (hb1.trans (hb2.mono hb1.size))⟩
        · have q3 : n - r < a := by rcases h1 with h | h | h <;> first | exact h | omega
          clear h1
          go_enter Try.func30, Try.ntmps30
          go_wp2_with (first | (go_at_call 44; (with_reducible refine cC.mono ?_); rintro e w1 ⟨rfl, hb1⟩; have cL1 := cL _ (mpG_at (mpG_below H.out hb1))) | (go_at_call 17; (with_reducible refine cL1.mono ?_); rintro e w2 ⟨rfl, hb2⟩))
          go_ret
          exact ⟨by rw [HE.out]; rfl, by rw [HSL.out]; exact mpR_below H.out (hb1.trans (hb2.mono hb1.size))⟩
    · have q1 : ¬ r < 0 := fun h => h1 (.inl h)
      have q2 : ¬ i < 0 := fun h => h1 (.inr (.inl h))
      have q3 : ¬ n - r < a := fun h => h1 (.inr (.inr h))
      have hw2 : IntKind.i64.wrap (1048576 - (n - r)) = 1048576 - (n - r) := by rw [IntKind.wrap_i64]; omega
      by_cases h2 : 1048576 - (n - r) < i
      · have HE : Hid (spcE n a r i = 9) := Go.Lib.hid (by unfold spcE; rw [if_pos ⟨k0, k2⟩, if_neg h1, if_pos h2])
        rw [if_neg (by rw [HE.out]; decide)] at HSL
        clear h1
        go_enter Try.func30, Try.ntmps30
        go_wp2_with (first | (go_at_call 44; (with_reducible refine cC.mono ?_); rintro e w1 ⟨rfl, hb1⟩; have cL1 := cL _ (mpG_at (mpG_below H.out hb1))) | (go_at_call 17; (with_reducible refine cL1.mono ?_); rintro e w2 ⟨rfl, hb2⟩))
        go_ret
        exact ⟨by rw [HE.out]; rfl, by rw [HSL.out]; exact mpR_below H.out (hb1.trans (hb2.mono hb1.size))⟩
      · have HE : Hid (spcE n a r i = 0) := Go.Lib.hid (by unfold spcE; rw [if_pos ⟨k0, k2⟩, if_neg h1, if_neg h2])
        rw [if_pos HE.out] at HSL
        have hw3 : IntKind.i64.wrap (a + r) = a + r := by rw [IntKind.wrap_i64]; omega
        have hw4 : IntKind.i64.wrap (i - r) = i - r := by rw [IntKind.wrap_i64]; omega
        have hw5 : IntKind.i64.wrap (a + i) = a + i := by rw [IntKind.wrap_i64]; omega
        clear h1
        go_enter Try.func30, Try.ntmps30
        go_wp2_with (first | (go_at_call 44; (with_reducible refine cC.mono ?_); rintro e w1 ⟨rfl, hb1⟩; have cL1 := cL _ (mpG_at (mpG_below H.out hb1))) | (go_at_call 17; (with_reducible refine cL1.mono ?_); rintro e w2 ⟨rfl, hb2⟩))
        have hb3 : Below w.heap.size w (w2.alloc (.cells #[.int .i64 a, .int .i64 (a + i), .int .i64 v] 34)) := (hb1.trans (hb2.mono hb1.size)).alloc (Nat.le_trans hb1.size hb2.size) _
        have cR := replace_any b g l [(a, a + i, v)] a (a + r) (i - r) (some ⟨w2.heap.size, 0, none⟩) 1 1 (w2.alloc (.cells #[.int .i64 a, .int .i64 (a + i), .int .i64 v] 34)) (mpG_below H.out hb3) HLL.out k0 (by omega) (by have := HN.out; omega) (by omega) (by omega) (rnat_one w2 a (a + i) v) rfl (by omega) (by rw [show a + r + (i - r) = a + i by omega]; exact fits_one v (by omega))
        with_reducible refine cR.mono ?_
        rintro e w3 ⟨rfl, hm⟩
        have HM := Go.Lib.hid (mpR_pre hb3 hm)
        clear hm cR hb1 hb2 hb3 cL1 cL
        go_wp2
        go_ret
        exact ⟨by rw [HE.out]; rfl, by rw [HSL.out]; exact HM.out⟩
  · have hc : chkR n a a = 2 := if_neg hok
    have HE : Hid (spcE n a r i = 2) := Go.Lib.hid (if_neg (fun h => hok ⟨h.1, Int.le_refl _, h.2⟩))
    rw [if_neg (by rw [HE.out]; decide)] at HSL
    rw [hc] at cC
    clear hc hok cL
    go_enter Try.func30, Try.ntmps30
    go_wp2_with (go_at_call 44; (with_reducible refine cC.mono ?_); rintro e w1 ⟨rfl, hb1⟩)
    go_ret
    exact ⟨by rw [HE.out]; rfl, by rw [HSL.out]; exact mpR_below H.out hb1⟩
end Go.Proofs.Ytioehncdkdfcmaa
