/- Layer 6: slices.Equal (47), begins (31), HasPrefix (29). -/
import Derived.Test.YtknbglcmjggkjaaRF
import Derived.Test.YtknbglcmjggkjaaR9
namespace Go.Proofs.Ytknbglcmjggkjaa
open Go.RowKit Go.Shelf Go.Lib Co

theorem NumsIn.take {w : World} {A : Option Addr} {m k : Nat} {P : List Nat} (h : NumsIn w A m P) (hk : k ≤ m) : NumsIn w A k (P.take k) := by
  have h1 := h.1
  refine ⟨by rw [List.length_take]; omega, ?_⟩
  rcases h.2 with h0 | ⟨g, hA, hg, hc⟩
  · exact .inl (by omega)
  · exact .inr ⟨g, hA, hg, fun j hj => by rw [List.getElem_take]; exact hc j (by rw [List.length_take] at hj; omega)⟩
theorem pre_iff {a b : List Nat} : b <+: a ↔ b.length ≤ a.length ∧ a.take b.length = b := by
  constructor
  · intro h
    exact ⟨h.length_le, (List.prefix_iff_eq_take.1 h).symm⟩
  · rintro ⟨_, h⟩
    exact List.prefix_iff_eq_take.2 h.symm
/-- Does a list begin with another one? -/
def preB (a b : List Nat) : Bool := decide (b.length ≤ a.length) && decide (a.take b.length = b)
theorem eq_at {a b : List Nat} {k : Nat} (h1 : k < a.length) (h2 : k < b.length) (hne : a[k] ≠ b[k]) : a ≠ b := fun h => hne (by subst h; rfl)
set_option maxRecDepth 100000 in
set_option maxHeartbeats 8000000 in
theorem equal_any {a b : List Nat} {A B : Option Addr} {m n d e : Nat} (w : World) (hA : NumsIn w A m a) (hB : NumsIn w B n b) (hm : m ≤ 100000) (hn : n ≤ 100000) :
    Calls Try.prog 47 #[.slice A m d, .slice B n e] w fun e w' => e = .returned (.bool (decide (a = b))) ∧ Below w.heap.size w w' := by
  have ha := hA.1
  have hb := hB.1
  by_cases hmn : m = n
  · subst hmn
    have HA := Go.Lib.hid hA
    have HB := Go.Lib.hid hB
    have HL := Go.Lib.hid (And.intro ha hb)
    clear hA hB ha hb
    go_enter Try.func47, Try.ntmps47
    go_wp2_with fail
    go_loopw [13] (fun iv wr => ∃ k : Nat, k ≤ m ∧ iv = .int .i64 (k : Nat) ∧ Hid (a.take k = b.take k) ∧ Below w.heap.size w wr) (fun iv _ => m - (RowKit.intOf iv).toNat)
    case atStart => exact ⟨0, Nat.zero_le _, rfl, Go.Lib.hid rfl, Below.refl _ _⟩
    case round =>
      obtain ⟨k, hk1, rfl, HT, hbk⟩ := hrel
      by_cases h1 : k < m
      · obtain ⟨g1, rfl, p1, q1⟩ := (HA.out.below hbk).at h1
        obtain ⟨g2, rfl, p2, q2⟩ := (HB.out.below hbk).at h1
        have i0 : (0 : Int) ≤ (k : Int) := by omega
        have i1 : (k : Int) < (m : Int) := by omega
        have HE := Go.Lib.hid (fun he => take_next HT.out p1 p2 he)
        have HN := Go.Lib.hid (fun he => eq_at p1 p2 he)
        generalize a[k] = x at *
        generalize b[k] = y at *
        have HBk := Go.Lib.hid hbk
        clear hbk
        by_cases hc : x = y
        · have HE2 := Go.Lib.hid (HE.out hc)
          subst hc
          clear HE HN
          go_wp2_with fail
          go_quiet (fail)
          go_wp2
          go_roundw
          case rel => exact ⟨k + 1, by omega, by go_num, HE2, HBk.out.trans (below_drewN _ _ _)⟩
          case measure => simp [RowKit.intOf]; omega
        · have HV := Go.Lib.hid (show decide (a = b) = false from decide_eq_false (HN.out hc))
          have hci : ¬ (x : Int) = (y : Int) := by omega
          clear HE HN hc
          go_wp2_with fail
          go_quiet (fail)
          go_wp2
          go_ret
          exact ⟨by rw [HV.out]; rfl, HBk.out.trans (below_drewN _ _ _)⟩
      · obtain rfl : k = m := by omega
        have i1 : ¬ (k : Int) < (k : Int) := by omega
        have HV := Go.Lib.hid (show decide (a = b) = true by
          have := HT.out
          rw [List.take_of_length_le (by rw [HL.out.1]; omega), List.take_of_length_le (by rw [HL.out.2]; omega)] at this
          exact decide_eq_true this)
        go_wp2
        go_ret
        exact ⟨by rw [HV.out]; rfl, hbk⟩
  · have hi : ¬ (m : Int) = (n : Int) := by omega
    have HV := Go.Lib.hid (show decide (a = b) = false from decide_eq_false (fun h => hmn (by rw [← ha, ← hb, h])))
    clear hmn ha hb hA hB
    go_enter Try.func47, Try.ntmps47
    go_wp2
    go_ret
    exact ⟨by rw [HV.out]; rfl, Below.refl _ _⟩
set_option maxRecDepth 100000 in
set_option maxHeartbeats 8000000 in
theorem begins_any {a b : List Nat} {A B : Option Addr} {m n d e : Nat} (w : World) (hA : NumsIn w A m a) (hB : NumsIn w B n b) (hm : m ≤ 100000) (hn : n ≤ 100000) (hmd : m ≤ d) (hd : d ≤ maxLen) :
    Calls Try.prog 31 #[.slice A m d, .slice B n e] w fun e w' => e = .returned (.bool (preB a b)) ∧ Below w.heap.size w w' := by
  have ha := hA.1
  have hb := hB.1
  unfold maxLen at hd
  by_cases hmn : m < n
  · have hi : (m : Int) < (n : Int) := by omega
    have HV := Go.Lib.hid (show preB a b = false by unfold preB; rw [decide_eq_false (by omega)]; rfl)
    clear hmn ha hb hA hB
    go_enter Try.func31, Try.ntmps31
    go_wp2
    go_ret
    exact ⟨by rw [HV.out]; rfl, Below.refl _ _⟩
  · have hi : ¬ (m : Int) < (n : Int) := by omega
    have hi2 : (n : Int) ≤ (m : Int) := by omega
    have hi3 : (n : Int) ≤ (d : Int) := by omega
    have hi4 : (d : Int) ≤ 9223372036854775807 := by omega
    have hi5 : (0 : Int) ≤ (n : Int) := by omega
    have cO := fun d' => order_any (d := d') (e := e) w (hA.take (k := n) (by omega)) hB (by omega) hn
    have HV := Go.Lib.hid (show preB a b = decide (ordL (a.take n) b = 0) by
      unfold preB
      rw [decide_eq_true (show b.length ≤ a.length by omega), hb]
      by_cases h : a.take n = b
      · rw [decide_eq_true h, h, decide_eq_true (ordL_self b)]; rfl
      · rw [decide_eq_false h, decide_eq_false (fun g => h (ordL_zero g))]; rfl)
    have CO := Go.Lib.hid cO
    clear cO
    rcases hA.2 with h0 | ⟨g, rfl, hg, hc⟩
    · obtain rfl : n = 0 := by omega
      subst h0
      clear hmn ha hb hA hB
      go_enter Try.func31, Try.ntmps31
      go_wp2_with fail
      refine (CO.out d).mono ?_
      rintro e w1 ⟨rfl, k1⟩
      generalize ordL (a.take 0) b = o at *
      by_cases ho : o = 0
      · have HV2 := Go.Lib.hid (HV.out.trans (decide_eq_true ho))
        subst ho
        go_wp2
        go_ret
        exact ⟨by rw [HV2.out]; rfl, k1⟩
      · have HV2 := Go.Lib.hid (HV.out.trans (decide_eq_false ho))
        have hob : (o == 0) = false := by simpa using ho
        clear ho
        go_wp2
        go_ret
        exact ⟨by rw [HV2.out]; rfl, k1⟩
    · clear hmn ha hb hA hB hc
      go_enter Try.func31, Try.ntmps31
      go_wp2_with fail
      refine (CO.out d).mono ?_
      rintro e w1 ⟨rfl, k1⟩
      generalize ordL (a.take n) b = o at *
      by_cases ho : o = 0
      · have HV2 := Go.Lib.hid (HV.out.trans (decide_eq_true ho))
        subst ho
        go_wp2
        go_ret
        exact ⟨by rw [HV2.out]; rfl, k1⟩
      · have HV2 := Go.Lib.hid (HV.out.trans (decide_eq_false ho))
        have hob : (o == 0) = false := by simpa using ho
        clear ho
        go_wp2
        go_ret
        exact ⟨by rw [HV2.out]; rfl, k1⟩
/-- What HasPrefix hands back. -/
def HpAns (er : Int) (v : Bool) (w : World) (e : Ending) (w' : World) : Prop := e = .returned (.tuple #[.bool (if er = 0 then v else false), .int .i64 er]) ∧ Below w.heap.size w w'
theorem fault_two (st : Int) (x y : Sx) : faultN st [x, y] = if faultN st [x] ≠ 0 then faultN st [x] else faultN st [y] := by
  unfold faultN
  by_cases h : st < 1 ∨ 4 < st
  · simp only [if_pos h]; rfl
  · simp only [if_neg h]
    by_cases hx : x.bad = [] <;> by_cases hy : y.bad = [] <;> simp [hx, hy]
set_option maxRecDepth 100000 in
set_option maxHeartbeats 8000000 in
theorem hasprefix_any {x y : Sx} (sx : x.s.size ≤ 4096) (sy : y.s.size ≤ 4096) (st : Int) (nu ig uf : Bool) (w : World) :
    Calls Try.prog 29 #[.string x.s, .string y.s, opV st nu ig uf] w (HpAns (faultN st [x, y]) (preB (wts nu ig uf x.P) (wts nu ig uf y.P)) w) := by
  have cX := fun w' => prims_any sx st nu ig uf w'
  have cY := fun w' => prims_any sy st nu ig uf w'
  have lx := wts_len nu ig uf x sx
  have ly := wts_len nu ig uf y sy
  rw [fault_two]
  generalize wts nu ig uf x.P = a at *
  generalize wts nu ig uf y.P = b at *
  generalize faultN st [x] = f at *
  generalize faultN st [y] = f' at *
  obtain ⟨fe, hfe⟩ : ∃ fe, fe = if f ≠ 0 then f else f' := ⟨_, rfl⟩
  rw [← hfe]
  have HFE := Go.Lib.hid hfe
  clear hfe
  have o1 := ObjAt.new w #[.int .i64 st, .bool nu, .bool ig, .bool uf] 23
  have hB : Below w.heap.size w (w.alloc (.cells #[.int .i64 st, .bool nu, .bool ig, .bool uf] 23)) := (Below.refl _ w).alloc (Nat.le_refl _) _
  unfold opV at *
  have z0 := o1.o0
  have z1 := o1.o1
  have z2 := o1.o2
  have z3 := o1.o3
  have CX := Go.Lib.hid cX
  have CY := Go.Lib.hid cY
  clear cX cY
  go_enter Try.func29, Try.ntmps29
  go_wp2_with fail
  generalize w.alloc (.cells #[.int .i64 st, .bool nu, .bool ig, .bool uf] 23) = W at *
  refine (CX.out W).mono ?_
  rintro e w1 ⟨va, rfl, hv0, hv1, k1⟩
  have hB1 := hB.trans (k1.mono hB.size)
  have q1 := o1.below k1
  clear z0 z1 z2 z3 o1 k1
  by_cases h0 : f = 0
  · subst h0
    have HFE := Go.Lib.hid (show fe = f' by rw [HFE.out, if_neg (by simp)])
    have hv := own_mono (hv1 rfl) hB.size
    clear hv0 hv1 hB
    have z0 := q1.o0
    have z1 := q1.o1
    have z2 := q1.o2
    have z3 := q1.o3
    go_wp2_with fail
    refine (CY.out w1).mono ?_
    rintro e w2 ⟨vb, rfl, hu0, hu1, k2⟩
    have hB2 := hB1.trans (k2.mono hB1.size)
    clear z0 z1 z2 z3 q1
    obtain rfl := HFE.out
    by_cases h1 : fe = 0
    · subst h1
      have hu := hu1 rfl
      obtain ⟨A, m, d, rfl, n1, hmd, hd⟩ := NumsIn.of (Cp.IntsAt.of (Cp.ownsRow_below hv k2))
      obtain ⟨B, n, e', rfl, n2, hne, he⟩ := NumsIn.of (Cp.IntsAt.of hu)
      have la := n1.1
      have lb := n2.1
      unfold maxLen at hd
      clear hu0 hu1 hv hu k2 hB1 he hne
      by_cases hnm : n ≤ m
      · have hi : (n : Int) ≤ (m : Int) := by omega
        have hi3 : (n : Int) ≤ (d : Int) := by omega
        have hi4 : (d : Int) ≤ 9223372036854775807 := by omega
        have hi5 : (0 : Int) ≤ (n : Int) := by omega
        have cE := fun d' => equal_any (d := d') (e := e') w2 (n1.take hnm) n2 (by omega) (by omega)
        have HV := Go.Lib.hid (show preB a b = decide (a.take n = b) by unfold preB; rw [decide_eq_true (show b.length ≤ a.length by omega), lb]; rfl)
        have CE := Go.Lib.hid cE
        clear cE
        rcases n1.2 with h0 | ⟨g, rfl, hg, hc⟩
        · obtain rfl : n = 0 := by omega
          subst h0
          clear n1 n2 la lb hnm lx ly
          go_wp2_with fail
          refine (CE.out d).mono ?_
          rintro e w3 ⟨rfl, k3⟩
          have HB := Go.Lib.hid (hB2.trans (k3.mono hB2.size))
          rw [← HV.out]
          clear k3 hB2
          go_wp2
          go_ret2
          exact ⟨rfl, HB.out⟩
        · clear n1 n2 la lb hnm lx ly hc
          go_wp2_with fail
          refine (CE.out d).mono ?_
          rintro e w3 ⟨rfl, k3⟩
          have HB := Go.Lib.hid (hB2.trans (k3.mono hB2.size))
          rw [← HV.out]
          clear k3 hB2
          go_wp2
          go_ret2
          exact ⟨rfl, HB.out⟩
      · have hi : ¬ (n : Int) ≤ (m : Int) := by omega
        have HV := Go.Lib.hid (show preB a b = false by unfold preB; rw [decide_eq_false (by omega)]; rfl)
        clear n1 n2 la lb hnm lx ly
        go_wp2
        go_ret2
        exact ⟨by rw [HV.out]; rfl, hB2⟩
    · obtain rfl := hu0 h1
      have H1 := Go.Lib.hid h1
      clear hu0 hu1 hv k2
      go_wp2
      go_ret2
      exact ⟨by rw [if_neg H1.out]; rfl, hB2⟩
  · obtain rfl := hv0 h0
    have H0 := Go.Lib.hid h0
    obtain rfl : fe = f := by rw [HFE.out, if_pos h0]
    clear hv0 hv1
    go_wp2
    go_ret2
    exact ⟨by rw [if_neg H0.out]; rfl, hB1⟩
end Go.Proofs.Ytknbglcmjggkjaa
