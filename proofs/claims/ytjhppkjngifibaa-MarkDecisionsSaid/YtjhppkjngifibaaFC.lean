/- Layer 23: the law of unions. -/
import Derived.Test.YtjhppkjngifibaaFB
import Derived.Test.YtjhppkjngifibaaEV
import Derived.Test.YtjhppkjngifibaaEW
import Derived.Test.YtjhppkjngifibaaFC0
namespace Go.Proofs.Ytjhppkjngifibaa
open Go.RowKit Go.Lib
set_option linter.unusedVariables false

theorem ckD_two {SA SR : List Int} (h1 : RevL SA) (h2 : RevL SR) (h : ckD SA SR ≠ 0) : ckD SA SR = 23 := by
  have e1 := (ckR_iff SA).2 h1
  have e2 := (ckR_iff SR).2 h2
  unfold ckD at *
  rw [if_neg (by simp [e1]), if_neg (by simp [e2])] at *
  split
  · rfl
  · rename_i hh; rw [if_neg hh] at h; exact absurd rfl h
theorem own_nsA {w : World} {base n c : Nat} {P : Option Addr} {l : List Int} (h : w.ownsRow base 3 1 (.slice P n c) n (l.map encZ)) (hl : l.length = n) : NsAt w P l := by
  obtain ⟨A2, c2, e2, _, _, h3⟩ := row_ns h hl
  injection e2 with q1 q2 q3
  subst q1
  exact h3
def set5 (w : World) (k : Nat) (u0 u1 u2 u3 u4 : Value) : World := ((((w.setCell ⟨k, 0, none⟩ u0).setCell ⟨k, 1, none⟩ u1).setCell ⟨k, 2, none⟩ u2).setCell ⟨k, 3, none⟩ u3).setCell ⟨k, 4, none⟩ u4
def set2 (w : World) (k : Nat) (u0 u1 : Value) : World := (w.setCell ⟨k, 0, none⟩ u0).setCell ⟨k, 1, none⟩ u1
theorem heap_set5 (w : World) (k : Nat) (u0 u1 u2 u3 u4 : Value) (j : Nat) (h : j ≠ k) : (set5 w k u0 u1 u2 u3 u4).heap[j]? = w.heap[j]? :=
  (Below.heap_setCell _ _ _ j h).trans ((Below.heap_setCell _ _ _ j h).trans ((Below.heap_setCell _ _ _ j h).trans ((Below.heap_setCell _ _ _ j h).trans (Below.heap_setCell _ _ _ j h))))
theorem heap_set2 (w : World) (k : Nat) (u0 u1 : Value) (j : Nat) (h : j ≠ k) : (set2 w k u0 u1).heap[j]? = w.heap[j]? :=
  (Below.heap_setCell _ _ _ j h).trans (Below.heap_setCell _ _ _ j h)
section
variable {w : World} {k : Nat} {cs : Array Value} {t : TypeId} {u0 u1 u2 u3 u4 : Value}
theorem row_set5 {base n sz : Nat} {e : TypeId} {v : Value} {xs : List Value} (x : w.ownsRow base e sz v n xs) (y : ObjAt w k cs t) (h : t ≠ e) : (set5 w k u0 u1 u2 u3 u4).ownsRow base e sz v n xs :=
  own_keptC x fun j c t z hj hc => (heap_set5 w k _ _ _ _ _ j (fun e => obj_far x y h (by rw [hj, e]))).trans hc
theorem row_set2 {base n sz : Nat} {e : TypeId} {v : Value} {xs : List Value} (x : w.ownsRow base e sz v n xs) (y : ObjAt w k cs t) (h : t ≠ e) : (set2 w k u0 u1).ownsRow base e sz v n xs :=
  own_keptC x fun j c t z hj hc => (heap_set2 w k _ _ j (fun e => obj_far x y h (by rw [hj, e]))).trans hc
theorem hown_set5 {base : Nat} {A B C : Option Addr} {cp cd cl : Nat} {o : Hd} (x : HOwn w base A B C cp cd cl o) (y : ObjAt w k cs t) (h1 : t ≠ 61) (h2 : t ≠ 59) (h3 : t ≠ 74) : HOwn (set5 w k u0 u1 u2 u3 u4) base A B C cp cd cl o := ⟨row_set5 x.p y h1, row_set5 x.d y h2, row_set5 x.l y h3⟩
theorem hown_set2 {base : Nat} {A B C : Option Addr} {cp cd cl : Nat} {o : Hd} (x : HOwn w base A B C cp cd cl o) (y : ObjAt w k cs t) (h1 : t ≠ 61) (h2 : t ≠ 59) (h3 : t ≠ 74) : HOwn (set2 w k u0 u1) base A B C cp cd cl o := ⟨row_set2 x.p y h1, row_set2 x.d y h2, row_set2 x.l y h3⟩
theorem obj_set5 {b : Nat} {c : Array Value} {t' : TypeId} (x : ObjAt w b c t') (h : b ≠ k) : ObjAt (set5 w k u0 u1 u2 u3 u4) b c t' := (heap_set5 w k _ _ _ _ _ b h).trans x
theorem obj_set2 {b : Nat} {c : Array Value} {t' : TypeId} (x : ObjAt w b c t') (h : b ≠ k) : ObjAt (set2 w k u0 u1) b c t' := (heap_set2 w k _ _ b h).trans x
theorem own_set5 {v0 v1 v2 v3 v4 : Value} (x : ObjAt w k #[v0, v1, v2, v3, v4] t) : ObjAt (set5 w k u0 u1 u2 u3 u4) k #[u0, u1, u2, u3, u4] t := ((((x.set 0 u0).set 1 u1).set 2 u2).set 3 u3).set 4 u4
theorem own_set2 {v0 v1 : Value} (x : ObjAt w k #[v0, v1] t) : ObjAt (set2 w k u0 u1) k #[u0, u1] t := (x.set 0 u0).set 1 u1
theorem below_set5 {n : Nat} {w0 : World} (x : Below n w0 w) (h : n ≤ k) : Below n w0 (set5 w k u0 u1 u2 u3 u4) := ((((x.setCell (p := ⟨k, 0, none⟩) h u0).setCell (p := ⟨k, 1, none⟩) h u1).setCell (p := ⟨k, 2, none⟩) h u2).setCell (p := ⟨k, 3, none⟩) h u3).setCell (p := ⟨k, 4, none⟩) h u4
theorem below_set2 {n : Nat} {w0 : World} (x : Below n w0 w) (h : n ≤ k) : Below n w0 (set2 w k u0 u1) := (x.setCell (p := ⟨k, 0, none⟩) h u0).setCell (p := ⟨k, 1, none⟩) h u1
end
abbrev zeroH : Hd := ⟨[], 0, 0, [], []⟩
def resH (a r : Int → Bool) (h : Hd) : Hd := if goneH a r h then zeroH else keptH a r h
theorem ord_zero : Ord zeroH := ⟨List.Pairwise.nil, List.Pairwise.nil, (List.Pairwise.nil : KSrt []), fun x hx => (by cases hx), fun _ => rfl⟩
/-- One decision behind another one is their union. -/
theorem two_res {aA rA aB rB aU rU : Int → Bool} (hU : ∀ n, aU n = (aA n || aB n)) (hR : ∀ n, rU n = (rA n || rB n)) (hd : ∀ n, rA n = true → aB n = false) (he : ∀ n, aA n = true → rB n = false) (hA : ∀ n, aA n = true → rA n = false) {h : Hd} (ho : Ord h) :
    (goneH aA rA h = true → goneH aU rU h = true ∧ resH aU rU h = zeroH) ∧ (goneH aA rA h = false → goneH aB rB (keptH aA rA h) = goneH aU rU h ∧ resH aB rB (keptH aA rA h) = resH aU rU h) := by
  have k := dec_union hU hR hd he hA ho
  unfold decO at k
  constructor
  · intro hg
    rw [hg] at k
    cases hu : goneH aU rU h with
    | true => exact ⟨rfl, by unfold resH; rw [if_pos hu]⟩
    | false => rw [hu] at k; simp at k
  · intro hg
    rw [hg] at k
    simp only [Bool.false_eq_true, if_false, Option.bind_some] at k
    unfold resH
    cases hu : goneH aU rU h with
    | true =>
      cases hb : goneH aB rB (keptH aA rA h) with
      | true => exact ⟨rfl, by simp⟩
      | false => rw [hu, hb] at k; simp at k
    | false =>
      cases hb : goneH aB rB (keptH aA rA h) with
      | true => rw [hu, hb] at k; simp at k
      | false => rw [hu, hb] at k; simp only [Bool.false_eq_true, if_false, Option.some.injEq] at k ⊢; exact ⟨trivial, k⟩
set_option maxRecDepth 100000 in
set_option maxHeartbeats 16000000 in
theorem law_unites (h : Hd) (A B C : Option Addr) (cp cd cl : Nat) (da dr : List Int) (DA DB : Option Addr) (qa qb : Nat) (ea er : List Int) (EA EB : Option Addr) (pa pb : Nat) (w0 : World) (hA : HIn w0 A B C cp cd cl h) (hD : DIn w0 DA DB qa qb da dr) (hE : DIn w0 EA EB pa pb ea er) :
    Calls Try.prog 4 #[hdV A B C h.props.length cp h.dels.length cd h.lays.length cl h.ins h.move, .agg #[.slice DA da.length qa, .slice DB dr.length qb], .agg #[.slice EA ea.length pa, .slice EB er.length pb]] w0 (TrueW w0) := by
  have HA := Lib.hid hA.at'
  have HDD := Lib.hid hD
  have HEE := Lib.hid hE
  clear hA hD hE
  have b0 := (((Below.refl w0.heap.size w0).alloc (Nat.le_refl _) (.cells #[.slice A h.props.length cp, .int .i64 h.ins, .int .i64 h.move, .slice B h.dels.length cd, .slice C h.lays.length cl] 28)).alloc (by simp) (.cells #[.slice DA da.length qa, .slice DB dr.length qb] 31)).alloc (by simp; omega) (.cells #[.slice EA ea.length pa, .slice EB er.length pb] 31)
  have O1 := ((ObjAt.new w0 #[.slice A h.props.length cp, .int .i64 h.ins, .int .i64 h.move, .slice B h.dels.length cd, .slice C h.lays.length cl] 28).alloc (.cells #[.slice DA da.length qa, .slice DB dr.length qb] 31)).alloc (.cells #[.slice EA ea.length pa, .slice EB er.length pb] 31)
  have O2 := (ObjAt.new (w0.alloc (.cells #[.slice A h.props.length cp, .int .i64 h.ins, .int .i64 h.move, .slice B h.dels.length cd, .slice C h.lays.length cl] 28)) #[.slice DA da.length qa, .slice DB dr.length qb] 31).alloc (.cells #[.slice EA ea.length pa, .slice EB er.length pb] 31)
  have O3 := ObjAt.new ((w0.alloc (.cells #[.slice A h.props.length cp, .int .i64 h.ins, .int .i64 h.move, .slice B h.dels.length cd, .slice C h.lays.length cl] 28)).alloc (.cells #[.slice DA da.length qa, .slice DB dr.length qb] 31)) #[.slice EA ea.length pa, .slice EB er.length pb] 31
  rw [World.size_alloc] at O2 O3
  rw [World.size_alloc] at O3
  unfold hdV
  obtain ⟨b, hbb⟩ : ∃ b, w0.heap.size = b := ⟨_, rfl⟩
  rw [hbb] at b0 O1 O2 O3
  have HBB := Lib.hid hbb
  have KB := Lib.hid b0
  have HX3 := Lib.hid O1
  have HX4 := Lib.hid O2
  have HX5 := Lib.hid (show ObjAt _ (b + 2) #[.slice EA ea.length pa, .slice EB er.length pb] 31 from O3)
  clear b0 O1 O2 O3
  go_enter Try.func4, Try.ntmps4
  go_upto_region 1 with fail
  have hbb' : w0.heap.size = b := HBB.out
  generalize ((w0.alloc (.cells #[.slice A h.props.length cp, .int .i64 h.ins, .int .i64 h.move, .slice B h.dels.length cd, .slice C h.lays.length cl] 28)).alloc (.cells #[.slice DA da.length qa, .slice DB dr.length qb] 31)).alloc (.cells #[.slice EA ea.length pa, .slice EB er.length pb] 31) = V at KB HX3 HX4 HX5 ⊢
  refine region_inv2 (fun a0 => fun (L : Nat → Bool) (a : Act) (w : World) => ∃ u15 u16 u17 u18 u19 u20 : Value, a = ((((((a0.put (some 15) u15).put (some 16) u16).put (some 17) u17).put (some 18) u18).put (some 19) u19).put (some 20) u20) ∧ (Hid (Below b w0 w)) ∧ (L 0 = true → u15 = .agg #[.slice A h.props.length cp, .int .i64 h.ins, .int .i64 h.move, .slice B h.dels.length cd, .slice C h.lays.length cl]) ∧ (L 2 = true → u17 = .agg #[.slice DA da.length qa, .slice DB dr.length qb]) ∧ (L 4 = true → u19 = .agg #[.slice EA ea.length pa, .slice EB er.length pb]) ∧ (L 1 = true → ∃ (o : Hd) (A1 B1 C1 : Option Addr) (c1 c2 c3 : Nat), u16 = .agg #[.slice A1 o.props.length c1, .int .i64 o.ins, .int .i64 o.move, .slice B1 o.dels.length c2, .slice C1 o.lays.length c3] ∧ Ord o ∧ (o.props.length ≤ 20 ∧ o.dels.length ≤ 20 ∧ o.lays.length ≤ 80) ∧ HOwn w (b + 3) A1 B1 C1 c1 c2 c3 o) ∧ (L 3 = true → ∃ (SA SR : List Int) (P : Option Addr) (c : Nat) (P' : Option Addr) (c' : Nat), u18 = .agg #[.slice P SA.length c, .slice P' SR.length c'] ∧ ckD SA SR = 0 ∧ SA.length ≤ 40 ∧ SR.length ≤ 40 ∧ w.ownsRow (b + 3) 3 1 (.slice P SA.length c) SA.length (SA.map encZ) ∧ w.ownsRow (b + 3) 3 1 (.slice P' SR.length c') SR.length (SR.map encZ)) ∧ (L 5 = true → ∃ (SA SR : List Int) (P : Option Addr) (c : Nat) (P' : Option Addr) (c' : Nat), u20 = .agg #[.slice P SA.length c, .slice P' SR.length c'] ∧ ckD SA SR = 0 ∧ SA.length ≤ 40 ∧ SR.length ≤ 40 ∧ w.ownsRow (b + 3) 3 1 (.slice P SA.length c) SA.length (SA.map encZ) ∧ w.ownsRow (b + 3) 3 1 (.slice P' SR.length c') SR.length (SR.map encZ)) ∧ (L 6 = false → ObjAt w b #[.slice A h.props.length cp, .int .i64 h.ins, .int .i64 h.move, .slice B h.dels.length cd, .slice C h.lays.length cl] 28) ∧ (L 6 = true → ∃ cs : Array Value, u16 = .agg cs ∧ ObjAt w b cs 28) ∧ (L 7 = false → ObjAt w (b + 1) #[.slice DA da.length qa, .slice DB dr.length qb] 31) ∧ (L 7 = true → ∃ cs : Array Value, u18 = .agg cs ∧ ObjAt w (b + 1) cs 31) ∧ (L 8 = false → ObjAt w (b + 2) #[.slice EA ea.length pa, .slice EB er.length pb] 31) ∧ (L 8 = true → ∃ cs : Array Value, u20 = .agg cs ∧ ObjAt w (b + 2) cs 31) ∧ (L 1 = true → L 0 = true) ∧ (L 3 = true → L 2 = true) ∧ (L 5 = true → L 4 = true) ∧ (L 6 = true → L 1 = true) ∧ (L 7 = true → L 3 = true) ∧ (L 8 = true → L 5 = true)) (by kernel_rfl) (by kernel_rfl) ?h0 ?hs ?he
  case h0 =>
    refine ⟨undef, undef, undef, undef, undef, undef, by kernel_rfl, Lib.hid KB.out.drew, (fun h0 => by cases h0), (fun h0 => by cases h0), (fun h0 => by cases h0), (fun h0 => by cases h0), (fun h0 => by cases h0), (fun h0 => by cases h0), (fun _ => HX3.out.drew), (fun h0 => by cases h0), (fun _ => HX4.out.drew), (fun h0 => by cases h0), (fun _ => HX5.out.drew), (fun h0 => by cases h0), (fun h0 => by cases h0), (fun h0 => by cases h0), (fun h0 => by cases h0), (fun h0 => by cases h0), (fun h0 => by cases h0), (fun h0 => by cases h0)⟩
  case hs =>
    repeat' (first | refine StepsI.cons ?_ ?_ | exact StepsI.nil)
    · intro L a w hI hl hd K' hK
      obtain ⟨u15, u16, u17, u18, u19, u20, HE, HB, f0, f2, f4, f1, f3, f5, x6, y6, x7, y7, x8, y8, g1, g3, g5, g6, g7, g8⟩ := hI
      have hb3 : b + 3 ≤ w.heap.size := by
        cases h8 : L 8 with
        | true => obtain ⟨cs, _, q⟩ := y8 h8; have := q.lt; omega
        | false => have := (x8 h8).lt; omega
      have hx : L 6 = false := by
        cases h : L 6 with
        | false => rfl
        | true => exact absurd (g1 (g6 h)) (by rw [hl]; decide)
      have OX := x6 hx
      clear hx
      have z0 := OX.get (k := 0) (v := .slice A h.props.length cp) rfl
      have z1 := OX.get (k := 1) (v := .int .i64 h.ins) rfl
      have z2 := OX.get (k := 2) (v := .int .i64 h.move) rfl
      have z3 := OX.get (k := 3) (v := .slice B h.dels.length cd) rfl
      have z4 := OX.get (k := 4) (v := .slice C h.lays.length cl) rfl
      clear OX
      refine step_eq HE ?_
      clear HE hd
      go_simp
      refine hK _ _ ⟨(.agg #[.slice A h.props.length cp, .int .i64 h.ins, .int .i64 h.move, .slice B h.dels.length cd, .slice C h.lays.length cl]), u16, u17, u18, u19, u20, by kernel_rfl, HB, (fun h0 => rfl), (fun h0 => (f2 ((plus_other L (show 2 ≠ 0 by decide)).symm.trans h0))), (fun h0 => (f4 ((plus_other L (show 4 ≠ 0 by decide)).symm.trans h0))), (fun h0 => (absurd (g1 ((plus_other L (by decide)).symm.trans h0)) (by rw [hl]; decide))), (fun h0 => (f3 ((plus_other L (show 3 ≠ 0 by decide)).symm.trans h0))), (fun h0 => (f5 ((plus_other L (show 5 ≠ 0 by decide)).symm.trans h0))), (fun h0 => (x6 ((plus_other L (show 6 ≠ 0 by decide)).symm.trans h0))), (fun h0 => (absurd (g1 (g6 ((plus_other L (by decide)).symm.trans h0))) (by rw [hl]; decide))), (fun h0 => (x7 ((plus_other L (show 7 ≠ 0 by decide)).symm.trans h0))), (fun h0 => (y7 ((plus_other L (show 7 ≠ 0 by decide)).symm.trans h0))), (fun h0 => (x8 ((plus_other L (show 8 ≠ 0 by decide)).symm.trans h0))), (fun h0 => (y8 ((plus_other L (show 8 ≠ 0 by decide)).symm.trans h0))), (fun h0 => (absurd (g1 ((plus_other L (by decide)).symm.trans h0)) (by rw [hl]; decide))), (fun h0 => ((plus_other L (show 2 ≠ 0 by decide)).trans (g3 ((plus_other L (show 3 ≠ 0 by decide)).symm.trans h0)))), (fun h0 => ((plus_other L (show 4 ≠ 0 by decide)).trans (g5 ((plus_other L (show 5 ≠ 0 by decide)).symm.trans h0)))), (fun h0 => (absurd (g1 (g6 ((plus_other L (by decide)).symm.trans h0))) (by rw [hl]; decide))), (fun h0 => ((plus_other L (show 3 ≠ 0 by decide)).trans (g7 ((plus_other L (show 7 ≠ 0 by decide)).symm.trans h0)))), (fun h0 => ((plus_other L (show 5 ≠ 0 by decide)).trans (g8 ((plus_other L (show 8 ≠ 0 by decide)).symm.trans h0))))⟩
    · intro L a w hI hl hd K' hK
      obtain ⟨u15, u16, u17, u18, u19, u20, HE, HB, f0, f2, f4, f1, f3, f5, x6, y6, x7, y7, x8, y8, g1, g3, g5, g6, g7, g8⟩ := hI
      have hb3 : b + 3 ≤ w.heap.size := by
        cases h8 : L 8 with
        | true => obtain ⟨cs, _, q⟩ := y8 h8; have := q.lt; omega
        | false => have := (x8 h8).lt; omega
      have Y0 := Lib.hid (hd 0 (by rfl))
      obtain rfl := f0 Y0.out
      have cc := ordered_at h A B C _ cp _ cd _ cl w (HA.out.below HB.out (by omega))
      unfold hdV at cc
      refine step_eq HE ?_
      clear HE hd
      go_wp2_with (go_at_call 13; refine cc.mono ?_; rintro e w' ⟨o, ho, h1, h2, h3, A1, B1, C1, c1, c2, c3, rfl, hown, kk⟩; unfold hdV; have hlen := And.intro h1 (And.intro h2 h3))
      (try (refine hK _ _ ?_))
      refine ⟨(.agg #[.slice A h.props.length cp, .int .i64 h.ins, .int .i64 h.move, .slice B h.dels.length cd, .slice C h.lays.length cl]), (.agg #[.slice A1 o.props.length c1, .int .i64 o.ins, .int .i64 o.move, .slice B1 o.dels.length c2, .slice C1 o.lays.length c3]), u17, u18, u19, u20, by kernel_rfl, Lib.hid (HB.out.trans (kk.mono (by have := HB.out.size; omega))), (fun h0 => rfl), (fun h0 => (f2 ((plus_other L (show 2 ≠ 1 by decide)).symm.trans h0))), (fun h0 => (f4 ((plus_other L (show 4 ≠ 1 by decide)).symm.trans h0))), (fun h0 => ⟨o, A1, B1, C1, c1, c2, c3, rfl, ho, hlen, hlow hown hb3⟩), (fun h0 => (let ⟨SA, SR, P, c, P', c', e, q1, q2, q3, q4, q5⟩ := (f3 ((plus_other L (show 3 ≠ 1 by decide)).symm.trans h0)); ⟨SA, SR, P, c, P', c', e, q1, q2, q3, row_below q4 kk, row_below q5 kk⟩)), (fun h0 => (let ⟨SA, SR, P, c, P', c', e, q1, q2, q3, q4, q5⟩ := (f5 ((plus_other L (show 5 ≠ 1 by decide)).symm.trans h0)); ⟨SA, SR, P, c, P', c', e, q1, q2, q3, row_below q4 kk, row_below q5 kk⟩)), (fun h0 => (ObjAt.below (x6 ((plus_other L (show 6 ≠ 1 by decide)).symm.trans h0)) kk)), (fun h0 => (absurd (g6 ((plus_other L (by decide)).symm.trans h0)) (by rw [hl]; decide))), (fun h0 => (ObjAt.below (x7 ((plus_other L (show 7 ≠ 1 by decide)).symm.trans h0)) kk)), (fun h0 => (let ⟨cs, e, q⟩ := (y7 ((plus_other L (show 7 ≠ 1 by decide)).symm.trans h0)); ⟨cs, e, q.below kk⟩)), (fun h0 => (ObjAt.below (x8 ((plus_other L (show 8 ≠ 1 by decide)).symm.trans h0)) kk)), (fun h0 => (let ⟨cs, e, q⟩ := (y8 ((plus_other L (show 8 ≠ 1 by decide)).symm.trans h0)); ⟨cs, e, q.below kk⟩)), (fun h0 => ((plus_other L (show 0 ≠ 1 by decide)).trans Y0.out)), (fun h0 => ((plus_other L (show 2 ≠ 1 by decide)).trans (g3 ((plus_other L (show 3 ≠ 1 by decide)).symm.trans h0)))), (fun h0 => ((plus_other L (show 4 ≠ 1 by decide)).trans (g5 ((plus_other L (show 5 ≠ 1 by decide)).symm.trans h0)))), (fun h0 => (absurd (g6 ((plus_other L (by decide)).symm.trans h0)) (by rw [hl]; decide))), (fun h0 => ((plus_other L (show 3 ≠ 1 by decide)).trans (g7 ((plus_other L (show 7 ≠ 1 by decide)).symm.trans h0)))), (fun h0 => ((plus_other L (show 5 ≠ 1 by decide)).trans (g8 ((plus_other L (show 8 ≠ 1 by decide)).symm.trans h0))))⟩
    · intro L a w hI hl hd K' hK
      obtain ⟨u15, u16, u17, u18, u19, u20, HE, HB, f0, f2, f4, f1, f3, f5, x6, y6, x7, y7, x8, y8, g1, g3, g5, g6, g7, g8⟩ := hI
      have hb3 : b + 3 ≤ w.heap.size := by
        cases h8 : L 8 with
        | true => obtain ⟨cs, _, q⟩ := y8 h8; have := q.lt; omega
        | false => have := (x8 h8).lt; omega
      have hx : L 7 = false := by
        cases h : L 7 with
        | false => rfl
        | true => exact absurd (g3 (g7 h)) (by rw [hl]; decide)
      have OX := x7 hx
      clear hx
      have z0 := OX.get (k := 0) (v := .slice DA da.length qa) rfl
      have z1 := OX.get (k := 1) (v := .slice DB dr.length qb) rfl
      clear OX
      refine step_eq HE ?_
      clear HE hd
      go_simp
      refine hK _ _ ⟨u15, u16, (.agg #[.slice DA da.length qa, .slice DB dr.length qb]), u18, u19, u20, by kernel_rfl, HB, (fun h0 => (f0 ((plus_other L (show 0 ≠ 2 by decide)).symm.trans h0))), (fun h0 => rfl), (fun h0 => (f4 ((plus_other L (show 4 ≠ 2 by decide)).symm.trans h0))), (fun h0 => (f1 ((plus_other L (show 1 ≠ 2 by decide)).symm.trans h0))), (fun h0 => (absurd (g3 ((plus_other L (by decide)).symm.trans h0)) (by rw [hl]; decide))), (fun h0 => (f5 ((plus_other L (show 5 ≠ 2 by decide)).symm.trans h0))), (fun h0 => (x6 ((plus_other L (show 6 ≠ 2 by decide)).symm.trans h0))), (fun h0 => (y6 ((plus_other L (show 6 ≠ 2 by decide)).symm.trans h0))), (fun h0 => (x7 ((plus_other L (show 7 ≠ 2 by decide)).symm.trans h0))), (fun h0 => (absurd (g3 (g7 ((plus_other L (by decide)).symm.trans h0))) (by rw [hl]; decide))), (fun h0 => (x8 ((plus_other L (show 8 ≠ 2 by decide)).symm.trans h0))), (fun h0 => (y8 ((plus_other L (show 8 ≠ 2 by decide)).symm.trans h0))), (fun h0 => ((plus_other L (show 0 ≠ 2 by decide)).trans (g1 ((plus_other L (show 1 ≠ 2 by decide)).symm.trans h0)))), (fun h0 => (absurd (g3 ((plus_other L (by decide)).symm.trans h0)) (by rw [hl]; decide))), (fun h0 => ((plus_other L (show 4 ≠ 2 by decide)).trans (g5 ((plus_other L (show 5 ≠ 2 by decide)).symm.trans h0)))), (fun h0 => ((plus_other L (show 1 ≠ 2 by decide)).trans (g6 ((plus_other L (show 6 ≠ 2 by decide)).symm.trans h0)))), (fun h0 => (absurd (g3 (g7 ((plus_other L (by decide)).symm.trans h0))) (by rw [hl]; decide))), (fun h0 => ((plus_other L (show 5 ≠ 2 by decide)).trans (g8 ((plus_other L (show 8 ≠ 2 by decide)).symm.trans h0))))⟩
    · intro L a w hI hl hd K' hK
      obtain ⟨u15, u16, u17, u18, u19, u20, HE, HB, f0, f2, f4, f1, f3, f5, x6, y6, x7, y7, x8, y8, g1, g3, g5, g6, g7, g8⟩ := hI
      have hb3 : b + 3 ≤ w.heap.size := by
        cases h8 : L 8 with
        | true => obtain ⟨cs, _, q⟩ := y8 h8; have := q.lt; omega
        | false => have := (x8 h8).lt; omega
      have Y2 := Lib.hid (hd 2 (by rfl))
      obtain rfl := f2 Y2.out
      have cc := valid_any da dr DA DB _ _ qa qb w (HDD.out.a.below HB.out (by omega)) (HDD.out.r.below HB.out (by omega)) rfl rfl HDD.out.ca HDD.out.cr
      refine step_eq HE ?_
      clear HE hd
      go_wp2_with (go_at_call 14; (with_reducible refine cc.mono ?_); rintro e w' ⟨SA, SR, P, c, P', c', hck, hsa, hsr, rfl, ra, rr, kk⟩)
      (try (refine hK _ _ ?_))
      refine ⟨u15, u16, (.agg #[.slice DA da.length qa, .slice DB dr.length qb]), (.agg #[.slice P SA.length c, .slice P' SR.length c']), u19, u20, by kernel_rfl, Lib.hid (HB.out.trans (kk.mono (by have := HB.out.size; omega))), (fun h0 => (f0 ((plus_other L (show 0 ≠ 3 by decide)).symm.trans h0))), (fun h0 => rfl), (fun h0 => (f4 ((plus_other L (show 4 ≠ 3 by decide)).symm.trans h0))), (fun h0 => (let ⟨o, A1, B1, C1, c1, c2, c3, e, q1, q2, q3⟩ := (f1 ((plus_other L (show 1 ≠ 3 by decide)).symm.trans h0)); ⟨o, A1, B1, C1, c1, c2, c3, e, q1, q2, q3.below kk⟩)), (fun h0 => ⟨SA, SR, P, c, P', c', rfl, hck, hsa, hsr, own_lower ra hb3, own_lower rr hb3⟩), (fun h0 => (let ⟨SA, SR, P, c, P', c', e, q1, q2, q3, q4, q5⟩ := (f5 ((plus_other L (show 5 ≠ 3 by decide)).symm.trans h0)); ⟨SA, SR, P, c, P', c', e, q1, q2, q3, row_below q4 kk, row_below q5 kk⟩)), (fun h0 => (ObjAt.below (x6 ((plus_other L (show 6 ≠ 3 by decide)).symm.trans h0)) kk)), (fun h0 => (let ⟨cs, e, q⟩ := (y6 ((plus_other L (show 6 ≠ 3 by decide)).symm.trans h0)); ⟨cs, e, q.below kk⟩)), (fun h0 => (ObjAt.below (x7 ((plus_other L (show 7 ≠ 3 by decide)).symm.trans h0)) kk)), (fun h0 => (absurd (g7 ((plus_other L (by decide)).symm.trans h0)) (by rw [hl]; decide))), (fun h0 => (ObjAt.below (x8 ((plus_other L (show 8 ≠ 3 by decide)).symm.trans h0)) kk)), (fun h0 => (let ⟨cs, e, q⟩ := (y8 ((plus_other L (show 8 ≠ 3 by decide)).symm.trans h0)); ⟨cs, e, q.below kk⟩)), (fun h0 => ((plus_other L (show 0 ≠ 3 by decide)).trans (g1 ((plus_other L (show 1 ≠ 3 by decide)).symm.trans h0)))), (fun h0 => ((plus_other L (show 2 ≠ 3 by decide)).trans Y2.out)), (fun h0 => ((plus_other L (show 4 ≠ 3 by decide)).trans (g5 ((plus_other L (show 5 ≠ 3 by decide)).symm.trans h0)))), (fun h0 => ((plus_other L (show 1 ≠ 3 by decide)).trans (g6 ((plus_other L (show 6 ≠ 3 by decide)).symm.trans h0)))), (fun h0 => (absurd (g7 ((plus_other L (by decide)).symm.trans h0)) (by rw [hl]; decide))), (fun h0 => ((plus_other L (show 5 ≠ 3 by decide)).trans (g8 ((plus_other L (show 8 ≠ 3 by decide)).symm.trans h0))))⟩
    · intro L a w hI hl hd K' hK
      obtain ⟨u15, u16, u17, u18, u19, u20, HE, HB, f0, f2, f4, f1, f3, f5, x6, y6, x7, y7, x8, y8, g1, g3, g5, g6, g7, g8⟩ := hI
      have hb3 : b + 3 ≤ w.heap.size := by
        cases h8 : L 8 with
        | true => obtain ⟨cs, _, q⟩ := y8 h8; have := q.lt; omega
        | false => have := (x8 h8).lt; omega
      have hx : L 8 = false := by
        cases h : L 8 with
        | false => rfl
        | true => exact absurd (g5 (g8 h)) (by rw [hl]; decide)
      have OX := x8 hx
      clear hx
      have z0 := OX.get (k := 0) (v := .slice EA ea.length pa) rfl
      have z1 := OX.get (k := 1) (v := .slice EB er.length pb) rfl
      clear OX
      refine step_eq HE ?_
      clear HE hd
      go_simp
      refine hK _ _ ⟨u15, u16, u17, u18, (.agg #[.slice EA ea.length pa, .slice EB er.length pb]), u20, by kernel_rfl, HB, (fun h0 => (f0 ((plus_other L (show 0 ≠ 4 by decide)).symm.trans h0))), (fun h0 => (f2 ((plus_other L (show 2 ≠ 4 by decide)).symm.trans h0))), (fun h0 => rfl), (fun h0 => (f1 ((plus_other L (show 1 ≠ 4 by decide)).symm.trans h0))), (fun h0 => (f3 ((plus_other L (show 3 ≠ 4 by decide)).symm.trans h0))), (fun h0 => (absurd (g5 ((plus_other L (by decide)).symm.trans h0)) (by rw [hl]; decide))), (fun h0 => (x6 ((plus_other L (show 6 ≠ 4 by decide)).symm.trans h0))), (fun h0 => (y6 ((plus_other L (show 6 ≠ 4 by decide)).symm.trans h0))), (fun h0 => (x7 ((plus_other L (show 7 ≠ 4 by decide)).symm.trans h0))), (fun h0 => (y7 ((plus_other L (show 7 ≠ 4 by decide)).symm.trans h0))), (fun h0 => (x8 ((plus_other L (show 8 ≠ 4 by decide)).symm.trans h0))), (fun h0 => (absurd (g5 (g8 ((plus_other L (by decide)).symm.trans h0))) (by rw [hl]; decide))), (fun h0 => ((plus_other L (show 0 ≠ 4 by decide)).trans (g1 ((plus_other L (show 1 ≠ 4 by decide)).symm.trans h0)))), (fun h0 => ((plus_other L (show 2 ≠ 4 by decide)).trans (g3 ((plus_other L (show 3 ≠ 4 by decide)).symm.trans h0)))), (fun h0 => (absurd (g5 ((plus_other L (by decide)).symm.trans h0)) (by rw [hl]; decide))), (fun h0 => ((plus_other L (show 1 ≠ 4 by decide)).trans (g6 ((plus_other L (show 6 ≠ 4 by decide)).symm.trans h0)))), (fun h0 => ((plus_other L (show 3 ≠ 4 by decide)).trans (g7 ((plus_other L (show 7 ≠ 4 by decide)).symm.trans h0)))), (fun h0 => (absurd (g5 (g8 ((plus_other L (by decide)).symm.trans h0))) (by rw [hl]; decide)))⟩
    · intro L a w hI hl hd K' hK
      obtain ⟨u15, u16, u17, u18, u19, u20, HE, HB, f0, f2, f4, f1, f3, f5, x6, y6, x7, y7, x8, y8, g1, g3, g5, g6, g7, g8⟩ := hI
      have hb3 : b + 3 ≤ w.heap.size := by
        cases h8 : L 8 with
        | true => obtain ⟨cs, _, q⟩ := y8 h8; have := q.lt; omega
        | false => have := (x8 h8).lt; omega
      have Y4 := Lib.hid (hd 4 (by rfl))
      obtain rfl := f4 Y4.out
      have cc := valid_any ea er EA EB _ _ pa pb w (HEE.out.a.below HB.out (by omega)) (HEE.out.r.below HB.out (by omega)) rfl rfl HEE.out.ca HEE.out.cr
      refine step_eq HE ?_
      clear HE hd
      go_wp2_with (go_at_call 14; (with_reducible refine cc.mono ?_); rintro e w' ⟨SA, SR, P, c, P', c', hck, hsa, hsr, rfl, ra, rr, kk⟩)
      (try (refine hK _ _ ?_))
      refine ⟨u15, u16, u17, u18, (.agg #[.slice EA ea.length pa, .slice EB er.length pb]), (.agg #[.slice P SA.length c, .slice P' SR.length c']), by kernel_rfl, Lib.hid (HB.out.trans (kk.mono (by have := HB.out.size; omega))), (fun h0 => (f0 ((plus_other L (show 0 ≠ 5 by decide)).symm.trans h0))), (fun h0 => (f2 ((plus_other L (show 2 ≠ 5 by decide)).symm.trans h0))), (fun h0 => rfl), (fun h0 => (let ⟨o, A1, B1, C1, c1, c2, c3, e, q1, q2, q3⟩ := (f1 ((plus_other L (show 1 ≠ 5 by decide)).symm.trans h0)); ⟨o, A1, B1, C1, c1, c2, c3, e, q1, q2, q3.below kk⟩)), (fun h0 => (let ⟨SA, SR, P, c, P', c', e, q1, q2, q3, q4, q5⟩ := (f3 ((plus_other L (show 3 ≠ 5 by decide)).symm.trans h0)); ⟨SA, SR, P, c, P', c', e, q1, q2, q3, row_below q4 kk, row_below q5 kk⟩)), (fun h0 => ⟨SA, SR, P, c, P', c', rfl, hck, hsa, hsr, own_lower ra hb3, own_lower rr hb3⟩), (fun h0 => (ObjAt.below (x6 ((plus_other L (show 6 ≠ 5 by decide)).symm.trans h0)) kk)), (fun h0 => (let ⟨cs, e, q⟩ := (y6 ((plus_other L (show 6 ≠ 5 by decide)).symm.trans h0)); ⟨cs, e, q.below kk⟩)), (fun h0 => (ObjAt.below (x7 ((plus_other L (show 7 ≠ 5 by decide)).symm.trans h0)) kk)), (fun h0 => (let ⟨cs, e, q⟩ := (y7 ((plus_other L (show 7 ≠ 5 by decide)).symm.trans h0)); ⟨cs, e, q.below kk⟩)), (fun h0 => (ObjAt.below (x8 ((plus_other L (show 8 ≠ 5 by decide)).symm.trans h0)) kk)), (fun h0 => (absurd (g8 ((plus_other L (by decide)).symm.trans h0)) (by rw [hl]; decide))), (fun h0 => ((plus_other L (show 0 ≠ 5 by decide)).trans (g1 ((plus_other L (show 1 ≠ 5 by decide)).symm.trans h0)))), (fun h0 => ((plus_other L (show 2 ≠ 5 by decide)).trans (g3 ((plus_other L (show 3 ≠ 5 by decide)).symm.trans h0)))), (fun h0 => ((plus_other L (show 4 ≠ 5 by decide)).trans Y4.out)), (fun h0 => ((plus_other L (show 1 ≠ 5 by decide)).trans (g6 ((plus_other L (show 6 ≠ 5 by decide)).symm.trans h0)))), (fun h0 => ((plus_other L (show 3 ≠ 5 by decide)).trans (g7 ((plus_other L (show 7 ≠ 5 by decide)).symm.trans h0)))), (fun h0 => (absurd (g8 ((plus_other L (by decide)).symm.trans h0)) (by rw [hl]; decide)))⟩
    · intro L a w hI hl hd K' hK
      obtain ⟨u15, u16, u17, u18, u19, u20, HE, HB, f0, f2, f4, f1, f3, f5, x6, y6, x7, y7, x8, y8, g1, g3, g5, g6, g7, g8⟩ := hI
      have hb3 : b + 3 ≤ w.heap.size := by
        cases h8 : L 8 with
        | true => obtain ⟨cs, _, q⟩ := y8 h8; have := q.lt; omega
        | false => have := (x8 h8).lt; omega
      have Y1 := Lib.hid (hd 1 (by rfl))
      obtain ⟨o, A1, B1, C1, c1, c2, c3, rfl, q1, q2, q3⟩ := f1 Y1.out
      have OY := x6 hl
      have z0 := OY.get (k := 0) (v := .slice A h.props.length cp) rfl
      have e0 := OY.frozen 0
      have z1 := OY.get (k := 1) (v := .int .i64 h.ins) rfl
      have e1 := OY.frozen 1
      have z2 := OY.get (k := 2) (v := .int .i64 h.move) rfl
      have e2 := OY.frozen 2
      have z3 := OY.get (k := 3) (v := .slice B h.dels.length cd) rfl
      have e3 := OY.frozen 3
      have z4 := OY.get (k := 4) (v := .slice C h.lays.length cl) rfl
      have e4 := OY.frozen 4
      have OX := own_set5 (u0 := .slice A1 o.props.length c1) (u1 := .int .i64 o.ins) (u2 := .int .i64 o.move) (u3 := .slice B1 o.dels.length c2) (u4 := .slice C1 o.lays.length c3) OY
      have OXH := Lib.hid OY
      refine step_eq HE ?_
      clear HE hd
      go_simp
      refine hK _ _ ⟨u15, (.agg #[.slice A1 o.props.length c1, .int .i64 o.ins, .int .i64 o.move, .slice B1 o.dels.length c2, .slice C1 o.lays.length c3]), u17, u18, u19, u20, by kernel_rfl, Lib.hid (below_set5 HB.out (by omega)), (fun h0 => (f0 ((plus_other L (show 0 ≠ 6 by decide)).symm.trans h0))), (fun h0 => (f2 ((plus_other L (show 2 ≠ 6 by decide)).symm.trans h0))), (fun h0 => (f4 ((plus_other L (show 4 ≠ 6 by decide)).symm.trans h0))), (fun h0 => (let ⟨o, A1, B1, C1, c1, c2, c3, e, q1, q2, q3⟩ := (f1 ((plus_other L (show 1 ≠ 6 by decide)).symm.trans h0)); ⟨o, A1, B1, C1, c1, c2, c3, e, q1, q2, hown_set5 q3 OY (by decide) (by decide) (by decide)⟩)), (fun h0 => (let ⟨SA, SR, P, c, P', c', e, q1, q2, q3, q4, q5⟩ := (f3 ((plus_other L (show 3 ≠ 6 by decide)).symm.trans h0)); ⟨SA, SR, P, c, P', c', e, q1, q2, q3, row_set5 q4 OY (by decide), row_set5 q5 OY (by decide)⟩)), (fun h0 => (let ⟨SA, SR, P, c, P', c', e, q1, q2, q3, q4, q5⟩ := (f5 ((plus_other L (show 5 ≠ 6 by decide)).symm.trans h0)); ⟨SA, SR, P, c, P', c', e, q1, q2, q3, row_set5 q4 OY (by decide), row_set5 q5 OY (by decide)⟩)), (fun h0 => absurd h0 (by rw [plus_same]; exact fun h => by cases h)), (fun h0 => ⟨_, rfl, OX⟩), (fun h0 => (obj_set5 (x7 ((plus_other L (show 7 ≠ 6 by decide)).symm.trans h0)) (by omega))), (fun h0 => (let ⟨cs, e, q⟩ := (y7 ((plus_other L (show 7 ≠ 6 by decide)).symm.trans h0)); ⟨cs, e, obj_set5 q (by omega)⟩)), (fun h0 => (obj_set5 (x8 ((plus_other L (show 8 ≠ 6 by decide)).symm.trans h0)) (by omega))), (fun h0 => (let ⟨cs, e, q⟩ := (y8 ((plus_other L (show 8 ≠ 6 by decide)).symm.trans h0)); ⟨cs, e, obj_set5 q (by omega)⟩)), (fun h0 => ((plus_other L (show 0 ≠ 6 by decide)).trans (g1 ((plus_other L (show 1 ≠ 6 by decide)).symm.trans h0)))), (fun h0 => ((plus_other L (show 2 ≠ 6 by decide)).trans (g3 ((plus_other L (show 3 ≠ 6 by decide)).symm.trans h0)))), (fun h0 => ((plus_other L (show 4 ≠ 6 by decide)).trans (g5 ((plus_other L (show 5 ≠ 6 by decide)).symm.trans h0)))), (fun h0 => ((plus_other L (show 1 ≠ 6 by decide)).trans Y1.out)), (fun h0 => ((plus_other L (show 3 ≠ 6 by decide)).trans (g7 ((plus_other L (show 7 ≠ 6 by decide)).symm.trans h0)))), (fun h0 => ((plus_other L (show 5 ≠ 6 by decide)).trans (g8 ((plus_other L (show 8 ≠ 6 by decide)).symm.trans h0))))⟩
    · intro L a w hI hl hd K' hK
      obtain ⟨u15, u16, u17, u18, u19, u20, HE, HB, f0, f2, f4, f1, f3, f5, x6, y6, x7, y7, x8, y8, g1, g3, g5, g6, g7, g8⟩ := hI
      have hb3 : b + 3 ≤ w.heap.size := by
        cases h8 : L 8 with
        | true => obtain ⟨cs, _, q⟩ := y8 h8; have := q.lt; omega
        | false => have := (x8 h8).lt; omega
      have Y3 := Lib.hid (hd 3 (by rfl))
      obtain ⟨SA, SR, P, c, P', c', rfl, q1, q2, q3, q4, q5⟩ := f3 Y3.out
      have OY := x7 hl
      have z0 := OY.get (k := 0) (v := .slice DA da.length qa) rfl
      have e0 := OY.frozen 0
      have z1 := OY.get (k := 1) (v := .slice DB dr.length qb) rfl
      have e1 := OY.frozen 1
      have OX := own_set2 (u0 := .slice P SA.length c) (u1 := .slice P' SR.length c') OY
      have OXH := Lib.hid OY
      refine step_eq HE ?_
      clear HE hd
      go_simp
      refine hK _ _ ⟨u15, u16, u17, (.agg #[.slice P SA.length c, .slice P' SR.length c']), u19, u20, by kernel_rfl, Lib.hid (below_set2 HB.out (by omega)), (fun h0 => (f0 ((plus_other L (show 0 ≠ 7 by decide)).symm.trans h0))), (fun h0 => (f2 ((plus_other L (show 2 ≠ 7 by decide)).symm.trans h0))), (fun h0 => (f4 ((plus_other L (show 4 ≠ 7 by decide)).symm.trans h0))), (fun h0 => (let ⟨o, A1, B1, C1, c1, c2, c3, e, q1, q2, q3⟩ := (f1 ((plus_other L (show 1 ≠ 7 by decide)).symm.trans h0)); ⟨o, A1, B1, C1, c1, c2, c3, e, q1, q2, hown_set2 q3 OY (by decide) (by decide) (by decide)⟩)), (fun h0 => (let ⟨SA, SR, P, c, P', c', e, q1, q2, q3, q4, q5⟩ := (f3 ((plus_other L (show 3 ≠ 7 by decide)).symm.trans h0)); ⟨SA, SR, P, c, P', c', e, q1, q2, q3, row_set2 q4 OY (by decide), row_set2 q5 OY (by decide)⟩)), (fun h0 => (let ⟨SA, SR, P, c, P', c', e, q1, q2, q3, q4, q5⟩ := (f5 ((plus_other L (show 5 ≠ 7 by decide)).symm.trans h0)); ⟨SA, SR, P, c, P', c', e, q1, q2, q3, row_set2 q4 OY (by decide), row_set2 q5 OY (by decide)⟩)), (fun h0 => (obj_set2 (x6 ((plus_other L (show 6 ≠ 7 by decide)).symm.trans h0)) (by omega))), (fun h0 => (let ⟨cs, e, q⟩ := (y6 ((plus_other L (show 6 ≠ 7 by decide)).symm.trans h0)); ⟨cs, e, obj_set2 q (by omega)⟩)), (fun h0 => absurd h0 (by rw [plus_same]; exact fun h => by cases h)), (fun h0 => ⟨_, rfl, OX⟩), (fun h0 => (obj_set2 (x8 ((plus_other L (show 8 ≠ 7 by decide)).symm.trans h0)) (by omega))), (fun h0 => (let ⟨cs, e, q⟩ := (y8 ((plus_other L (show 8 ≠ 7 by decide)).symm.trans h0)); ⟨cs, e, obj_set2 q (by omega)⟩)), (fun h0 => ((plus_other L (show 0 ≠ 7 by decide)).trans (g1 ((plus_other L (show 1 ≠ 7 by decide)).symm.trans h0)))), (fun h0 => ((plus_other L (show 2 ≠ 7 by decide)).trans (g3 ((plus_other L (show 3 ≠ 7 by decide)).symm.trans h0)))), (fun h0 => ((plus_other L (show 4 ≠ 7 by decide)).trans (g5 ((plus_other L (show 5 ≠ 7 by decide)).symm.trans h0)))), (fun h0 => ((plus_other L (show 1 ≠ 7 by decide)).trans (g6 ((plus_other L (show 6 ≠ 7 by decide)).symm.trans h0)))), (fun h0 => ((plus_other L (show 3 ≠ 7 by decide)).trans Y3.out)), (fun h0 => ((plus_other L (show 5 ≠ 7 by decide)).trans (g8 ((plus_other L (show 8 ≠ 7 by decide)).symm.trans h0))))⟩
    · intro L a w hI hl hd K' hK
      obtain ⟨u15, u16, u17, u18, u19, u20, HE, HB, f0, f2, f4, f1, f3, f5, x6, y6, x7, y7, x8, y8, g1, g3, g5, g6, g7, g8⟩ := hI
      have hb3 : b + 3 ≤ w.heap.size := by
        cases h8 : L 8 with
        | true => obtain ⟨cs, _, q⟩ := y8 h8; have := q.lt; omega
        | false => have := (x8 h8).lt; omega
      have Y5 := Lib.hid (hd 5 (by rfl))
      obtain ⟨SA, SR, P, c, P', c', rfl, q1, q2, q3, q4, q5⟩ := f5 Y5.out
      have OY := x8 hl
      have z0 := OY.get (k := 0) (v := .slice EA ea.length pa) rfl
      have e0 := OY.frozen 0
      have z1 := OY.get (k := 1) (v := .slice EB er.length pb) rfl
      have e1 := OY.frozen 1
      have OX := own_set2 (u0 := .slice P SA.length c) (u1 := .slice P' SR.length c') OY
      have OXH := Lib.hid OY
      refine step_eq HE ?_
      clear HE hd
      go_simp
      refine hK _ _ ⟨u15, u16, u17, u18, u19, (.agg #[.slice P SA.length c, .slice P' SR.length c']), by kernel_rfl, Lib.hid (below_set2 HB.out (by omega)), (fun h0 => (f0 ((plus_other L (show 0 ≠ 8 by decide)).symm.trans h0))), (fun h0 => (f2 ((plus_other L (show 2 ≠ 8 by decide)).symm.trans h0))), (fun h0 => (f4 ((plus_other L (show 4 ≠ 8 by decide)).symm.trans h0))), (fun h0 => (let ⟨o, A1, B1, C1, c1, c2, c3, e, q1, q2, q3⟩ := (f1 ((plus_other L (show 1 ≠ 8 by decide)).symm.trans h0)); ⟨o, A1, B1, C1, c1, c2, c3, e, q1, q2, hown_set2 q3 OY (by decide) (by decide) (by decide)⟩)), (fun h0 => (let ⟨SA, SR, P, c, P', c', e, q1, q2, q3, q4, q5⟩ := (f3 ((plus_other L (show 3 ≠ 8 by decide)).symm.trans h0)); ⟨SA, SR, P, c, P', c', e, q1, q2, q3, row_set2 q4 OY (by decide), row_set2 q5 OY (by decide)⟩)), (fun h0 => (let ⟨SA, SR, P, c, P', c', e, q1, q2, q3, q4, q5⟩ := (f5 ((plus_other L (show 5 ≠ 8 by decide)).symm.trans h0)); ⟨SA, SR, P, c, P', c', e, q1, q2, q3, row_set2 q4 OY (by decide), row_set2 q5 OY (by decide)⟩)), (fun h0 => (obj_set2 (x6 ((plus_other L (show 6 ≠ 8 by decide)).symm.trans h0)) (by omega))), (fun h0 => (let ⟨cs, e, q⟩ := (y6 ((plus_other L (show 6 ≠ 8 by decide)).symm.trans h0)); ⟨cs, e, obj_set2 q (by omega)⟩)), (fun h0 => (obj_set2 (x7 ((plus_other L (show 7 ≠ 8 by decide)).symm.trans h0)) (by omega))), (fun h0 => (let ⟨cs, e, q⟩ := (y7 ((plus_other L (show 7 ≠ 8 by decide)).symm.trans h0)); ⟨cs, e, obj_set2 q (by omega)⟩)), (fun h0 => absurd h0 (by rw [plus_same]; exact fun h => by cases h)), (fun h0 => ⟨_, rfl, OX⟩), (fun h0 => ((plus_other L (show 0 ≠ 8 by decide)).trans (g1 ((plus_other L (show 1 ≠ 8 by decide)).symm.trans h0)))), (fun h0 => ((plus_other L (show 2 ≠ 8 by decide)).trans (g3 ((plus_other L (show 3 ≠ 8 by decide)).symm.trans h0)))), (fun h0 => ((plus_other L (show 4 ≠ 8 by decide)).trans (g5 ((plus_other L (show 5 ≠ 8 by decide)).symm.trans h0)))), (fun h0 => ((plus_other L (show 1 ≠ 8 by decide)).trans (g6 ((plus_other L (show 6 ≠ 8 by decide)).symm.trans h0)))), (fun h0 => ((plus_other L (show 3 ≠ 8 by decide)).trans (g7 ((plus_other L (show 7 ≠ 8 by decide)).symm.trans h0)))), (fun h0 => ((plus_other L (show 5 ≠ 8 by decide)).trans Y5.out))⟩
  case he =>
    intro L a wz hI hall
    obtain ⟨u15, u16, u17, u18, u19, u20, HE, HB, f0, f2, f4, f1, f3, f5, x6, y6, x7, y7, x8, y8, g1, g3, g5, g6, g7, g8⟩ := hI
    have hl : ∀ i, Nat.ble (i + 1) 9 = true → L i = true := fun i h => hall i (Nat.le_of_ble_eq_true h)
    obtain ⟨o, A1, B1, C1, c1, c2, c3, rfl, ho, hlen, hown⟩ := f1 (hl 1 rfl)
    obtain ⟨SA, SR, P, c, P', c', rfl, k1, s1, s2, r1, r2⟩ := f3 (hl 3 rfl)
    obtain ⟨TA, TR, Q, d, Q', d', rfl, k2, t1, t2, r3, r4⟩ := f5 (hl 5 rfl)
    obtain ⟨cs, e, X3⟩ := y6 (hl 6 rfl)
    injection e with e; subst e
    obtain ⟨cs, e, X4⟩ := y7 (hl 7 rfl)
    injection e with e; subst e
    obtain ⟨cs, e, X5⟩ := y8 (hl 8 rfl)
    injection e with e; subst e
    obtain rfl := f0 (hl 0 rfl)
    obtain rfl := f2 (hl 2 rfl)
    obtain rfl := f4 (hl 4 rfl)
    refine end_eq HE ?_
    replace KB := HB
    replace HX3 := Lib.hid X3
    replace HX4 := Lib.hid X4
    replace HX5 := Lib.hid X5
    have HO := Lib.hid hown
    have RA := Lib.hid r1
    have RR := Lib.hid r2
    have TA' := Lib.hid r3
    have TR' := Lib.hid r4
    have HM := Lib.hid (mod_of hlen.1 hlen.2.1 hlen.2.2)
    have HP9 := Lib.hid (show o.props.length + o.lays.length ≤ 900 by omega)
    have HOO := Lib.hid ho
    have HL0 := Lib.hid hlen
    have HK1 := Lib.hid ((ckD_iff SA SR).1 k1)
    have HK2 := Lib.hid ((ckD_iff TA TR).1 k2)
    clear HE HB f0 f1 f2 f3 f4 f5 x6 x7 x8 y6 y7 y8 g1 g3 g5 g6 g7 g8 hall hl r1 r2 r3 r4 X3 X4 X5 hown ho hlen HA HDD HEE
    have y0 := HX4.out.get (k := 0) (v := .slice P SA.length c) rfl
    have y1 := HX4.out.get (k := 1) (v := .slice P' SR.length c') rfl
    have z0 := HX5.out.get (k := 0) (v := .slice Q TA.length d) rfl
    have z1 := HX5.out.get (k := 1) (v := .slice Q' TR.length d') rfl
    have cc := union_ok SA SR TA TR SA.length SR.length TA.length TR.length c c' d d' P P' Q Q' wz rfl rfl rfl rfl (own_nsA RA.out rfl) (own_nsA RR.out rfl) (own_nsA TA'.out rfl) (own_nsA TR'.out rfl) k1 k2 (by omega) (by omega)
    have HUA := Lib.hid (revl_srt (l := SA ++ TA) fun v hv => (List.mem_append.1 hv).elim (HK1.out.1.1 v) (HK2.out.1.1 v))
    have HUR := Lib.hid (revl_srt (l := SR ++ TR) fun v hv => (List.mem_append.1 hv).elim (HK1.out.2.1.1 v) (HK2.out.2.1.1 v))
    have HMA := Lib.hid (fun n => (srtU_mem (SA ++ TA) n))
    have HMR := Lib.hid (fun n => (srtU_mem (SR ++ TR) n))
    have hla : (srtU (SA ++ TA)).length ≤ 80 := Nat.le_trans (srtU_len _) (by rw [List.length_append]; omega)
    have hlr : (srtU (SR ++ TR)).length ≤ 80 := Nat.le_trans (srtU_len _) (by rw [List.length_append]; omega)
    generalize srtU (SA ++ TA) = UA at cc HUA HMA hla
    generalize srtU (SR ++ TR) = UR at cc HUR HMR hlr
    clear k1 k2
    go_wp2_with fail
    refine cc.mono ?_
    rintro e w1 ⟨kk, hu⟩
    replace KB := Lib.hid (KB.out.trans (kk.mono (by have := KB.out.size; have := HBB.out; omega)))
    replace HX3 := Lib.hid (HX3.out.below kk)
    replace HX4 := Lib.hid (HX4.out.below kk)
    replace HX5 := Lib.hid (HX5.out.below kk)
    replace HO := Lib.hid (HO.out.below kk)
    replace RA := Lib.hid (row_below RA.out kk)
    replace RR := Lib.hid (row_below RR.out kk)
    replace TA' := Lib.hid (row_below TA'.out kk)
    replace TR' := Lib.hid (row_below TR'.out kk)
    clear cc kk y0 z0 y1 z1
    rcases hu with ⟨hz, PU, cU, PV, cV, rfl, ru, rv⟩ | ⟨hz, rfl⟩
    · have UA0 := Lib.hid ru
      have UR0 := Lib.hid rv
      clear ru rv
      have HCU := Lib.hid ((ckD_iff UA UR).1 hz)
      clear hz
      have lbb7 : b < w1.heap.size := HX3.out.lt
      have lbp1b7 : b + 1 < w1.heap.size := HX4.out.lt
      have lbp2b7 : b + 2 < w1.heap.size := HX5.out.lt
      have ba := (Below.refl w1.heap.size w1).alloc (Nat.le_refl _) (.cells #[.slice PU UA.length cU, .slice PV UR.length cV] 31)
      replace KB := Lib.hid (KB.out.trans (ba.mono (by have := KB.out.size; have := HBB.out; omega)))
      replace HX3 := Lib.hid (HX3.out.below ba)
      replace HX4 := Lib.hid (HX4.out.below ba)
      replace HX5 := Lib.hid (HX5.out.below ba)
      replace HO := Lib.hid (HO.out.below ba)
      replace RA := Lib.hid (row_below RA.out ba)
      replace RR := Lib.hid (row_below RR.out ba)
      replace TA' := Lib.hid (row_below TA'.out ba)
      replace TR' := Lib.hid (row_below TR'.out ba)
      replace UA0 := Lib.hid (row_below UA0.out ba)
      replace UR0 := Lib.hid (row_below UR0.out ba)
      have HX7 := Lib.hid (ObjAt.new w1 #[.slice PU UA.length cU, .slice PV UR.length cV] 31)
      clear ba
      go_upto_region 3 with fail
      obtain ⟨b7, hb7⟩ : ∃ x, w1.heap.size = x := ⟨_, rfl⟩
      rw [hb7] at HX7 lbb7 lbp1b7 lbp2b7 ⊢
      have gb7 : w1.heap.size = b7 := hb7
      generalize w1.alloc (.cells #[.slice PU UA.length cU, .slice PV UR.length cV] 31) = w2 at HX7 KB HX3 HX4 HX5 HO RA RR TA' TR' UA0 UR0 ⊢
      clear hb7
      have cc := known_any w2
      go_wp2_with fail
      (with_reducible refine cc.mono ?_)
      rintro e w3 ⟨rfl, kk⟩
      replace KB := Lib.hid (KB.out.trans (kk.mono (by have := KB.out.size; have := HBB.out; omega)))
      replace HX3 := Lib.hid (HX3.out.below kk)
      replace HX4 := Lib.hid (HX4.out.below kk)
      replace HX5 := Lib.hid (HX5.out.below kk)
      replace HO := Lib.hid (HO.out.below kk)
      replace RA := Lib.hid (row_below RA.out kk)
      replace RR := Lib.hid (row_below RR.out kk)
      replace TA' := Lib.hid (row_below TA'.out kk)
      replace TR' := Lib.hid (row_below TR'.out kk)
      replace UA0 := Lib.hid (row_below UA0.out kk)
      replace UR0 := Lib.hid (row_below UR0.out kk)
      replace HX7 := Lib.hid (HX7.out.below kk)
      clear cc
      have y0 := HX3.out.get (k := 0) (v := .slice A1 o.props.length c1) rfl
      have y1 := HX3.out.get (k := 1) (v := .int .i64 o.ins) rfl
      have y2 := HX3.out.get (k := 2) (v := .int .i64 o.move) rfl
      have y3 := HX3.out.get (k := 3) (v := .slice B1 o.dels.length c2) rfl
      have y4 := HX3.out.get (k := 4) (v := .slice C1 o.lays.length c3) rfl
      have z0 := HX7.out.get (k := 0) (v := .slice PU UA.length cU) rfl
      have z1 := HX7.out.get (k := 1) (v := .slice PV UR.length cV) rfl
      have cc := Decide_any o HOO.out HM.out HP9.out A1 B1 C1 _ c1 _ c2 _ c3 UA UR _ _ cU cV rfl rfl HUA.out.2 HUR.out.2 (by omega) (by omega) PU PV w3 HO.out.at (own_nsA UA0.out rfl) (own_nsA UR0.out rfl)
      unfold DRet hdV at cc
      go_wp2_with fail
      refine cc.mono ?_
      rintro e w4 ⟨ru, Aru, Bru, Cru, qru1, qru2, qru3, eru, rfl, hru, kk⟩
      replace KB := Lib.hid (KB.out.trans (kk.mono (by have := KB.out.size; have := HBB.out; omega)))
      replace HX3 := Lib.hid (HX3.out.below kk)
      replace HX4 := Lib.hid (HX4.out.below kk)
      replace HX5 := Lib.hid (HX5.out.below kk)
      replace HO := Lib.hid (HO.out.below kk)
      replace RA := Lib.hid (row_below RA.out kk)
      replace RR := Lib.hid (row_below RR.out kk)
      replace TA' := Lib.hid (row_below TA'.out kk)
      replace TR' := Lib.hid (row_below TR'.out kk)
      replace UA0 := Lib.hid (row_below UA0.out kk)
      replace UR0 := Lib.hid (row_below UR0.out kk)
      replace HX7 := Lib.hid (HX7.out.below kk)
      have Hru := Lib.hid hru
      have Eru := Lib.hid (show ru = resH (fun x => decide (x ∈ UA)) (fun x => decide (x ∈ UR)) o from eru)
      clear cc kk hru eru y0 y1 y2 y3 y4 z0 z1
      obtain ⟨gU, hgU⟩ : ∃ g, goneH (fun x => decide (x ∈ UA)) (fun x => decide (x ∈ UR)) o = g := ⟨_, rfl⟩
      rw [hgU]
      have GU := Lib.hid hgU
      clear hgU
      have lbb9 : b < w4.heap.size := HX3.out.lt
      have lbp1b9 : b + 1 < w4.heap.size := HX4.out.lt
      have lbp2b9 : b + 2 < w4.heap.size := HX5.out.lt
      have lb7b9 : b7 < w4.heap.size := HX7.out.lt
      have ba := (Below.refl w4.heap.size w4).alloc (Nat.le_refl _) (.cells #[.slice Aru ru.props.length qru1, .int .i64 ru.ins, .int .i64 ru.move, .slice Bru ru.dels.length qru2, .slice Cru ru.lays.length qru3] 28)
      replace KB := Lib.hid (KB.out.trans (ba.mono (by have := KB.out.size; have := HBB.out; omega)))
      replace HX3 := Lib.hid (HX3.out.below ba)
      replace HX4 := Lib.hid (HX4.out.below ba)
      replace HX5 := Lib.hid (HX5.out.below ba)
      replace HO := Lib.hid (HO.out.below ba)
      replace RA := Lib.hid (row_below RA.out ba)
      replace RR := Lib.hid (row_below RR.out ba)
      replace TA' := Lib.hid (row_below TA'.out ba)
      replace TR' := Lib.hid (row_below TR'.out ba)
      replace UA0 := Lib.hid (row_below UA0.out ba)
      replace UR0 := Lib.hid (row_below UR0.out ba)
      replace HX7 := Lib.hid (HX7.out.below ba)
      replace Hru := Lib.hid (Hru.out.below ba)
      have HX9 := Lib.hid (ObjAt.new w4 #[.slice Aru ru.props.length qru1, .int .i64 ru.ins, .int .i64 ru.move, .slice Bru ru.dels.length qru2, .slice Cru ru.lays.length qru3] 28)
      clear ba
      go_upto_region 6 with fail
      obtain ⟨b9, hb9⟩ : ∃ x, w4.heap.size = x := ⟨_, rfl⟩
      rw [hb9] at HX9 lbb9 lbp1b9 lbp2b9 lb7b9 ⊢
      have gb9 : w4.heap.size = b9 := hb9
      generalize w4.alloc (.cells #[.slice Aru ru.props.length qru1, .int .i64 ru.ins, .int .i64 ru.move, .slice Bru ru.dels.length qru2, .slice Cru ru.lays.length qru3] 28) = w5 at HX9 KB HX3 HX4 HX5 HO RA RR TA' TR' UA0 UR0 HX7 Hru ⊢
      clear hb9
      have y0 := HX3.out.get (k := 0) (v := .slice A1 o.props.length c1) rfl
      have y1 := HX3.out.get (k := 1) (v := .int .i64 o.ins) rfl
      have y2 := HX3.out.get (k := 2) (v := .int .i64 o.move) rfl
      have y3 := HX3.out.get (k := 3) (v := .slice B1 o.dels.length c2) rfl
      have y4 := HX3.out.get (k := 4) (v := .slice C1 o.lays.length c3) rfl
      have z0 := HX4.out.get (k := 0) (v := .slice P SA.length c) rfl
      have z1 := HX4.out.get (k := 1) (v := .slice P' SR.length c') rfl
      have cc := Decide_any o HOO.out HM.out HP9.out A1 B1 C1 _ c1 _ c2 _ c3 SA SR _ _ c c' rfl rfl HK1.out.1.2 HK1.out.2.1.2 (by omega) (by omega) P P' w5 HO.out.at (own_nsA RA.out rfl) (own_nsA RR.out rfl)
      unfold DRet hdV at cc
      go_wp2_with fail
      refine cc.mono ?_
      rintro e w6 ⟨rs, Ars, Brs, Crs, qrs1, qrs2, qrs3, ers, rfl, hrs, kk⟩
      replace KB := Lib.hid (KB.out.trans (kk.mono (by have := KB.out.size; have := HBB.out; omega)))
      replace HX3 := Lib.hid (HX3.out.below kk)
      replace HX4 := Lib.hid (HX4.out.below kk)
      replace HX5 := Lib.hid (HX5.out.below kk)
      replace HO := Lib.hid (HO.out.below kk)
      replace RA := Lib.hid (row_below RA.out kk)
      replace RR := Lib.hid (row_below RR.out kk)
      replace TA' := Lib.hid (row_below TA'.out kk)
      replace TR' := Lib.hid (row_below TR'.out kk)
      replace UA0 := Lib.hid (row_below UA0.out kk)
      replace UR0 := Lib.hid (row_below UR0.out kk)
      replace HX7 := Lib.hid (HX7.out.below kk)
      replace Hru := Lib.hid (Hru.out.below kk)
      replace HX9 := Lib.hid (HX9.out.below kk)
      have Hrs := Lib.hid hrs
      have Ers := Lib.hid (show rs = resH (fun x => decide (x ∈ SA)) (fun x => decide (x ∈ SR)) o from ers)
      clear cc kk hrs ers y0 y1 y2 y3 y4 z0 z1
      obtain ⟨gS, hgS⟩ : ∃ g, goneH (fun x => decide (x ∈ SA)) (fun x => decide (x ∈ SR)) o = g := ⟨_, rfl⟩
      rw [hgS]
      have GS := Lib.hid hgS
      clear hgS
      have EU1 : ∀ n, decide (n ∈ UA) = (decide (n ∈ SA) || decide (n ∈ TA)) := fun n => by rw [Bool.eq_iff_iff]; simp [HMA.out n]
      have EU2 : ∀ n, decide (n ∈ UR) = (decide (n ∈ SR) || decide (n ∈ TR)) := fun n => by rw [Bool.eq_iff_iff]; simp [HMR.out n]
      have ED1 : ∀ n, decide (n ∈ SR) = true → decide (n ∈ TA) = false := fun n h => by
        simp only [decide_eq_true_eq, decide_eq_false_iff_not] at h ⊢
        exact fun h2 => HCU.out.2.2 n ((HMA.out n).2 (by simp [h2])) ((HMR.out n).2 (by simp [h]))
      have ED2 : ∀ n, decide (n ∈ SA) = true → decide (n ∈ TR) = false := fun n h => by
        simp only [decide_eq_true_eq, decide_eq_false_iff_not] at h ⊢
        exact fun h2 => HCU.out.2.2 n ((HMA.out n).2 (by simp [h])) ((HMR.out n).2 (by simp [h2]))
      have ED3 : ∀ n, decide (n ∈ TR) = true → decide (n ∈ SA) = false := fun n h => by
        simp only [decide_eq_true_eq, decide_eq_false_iff_not] at h ⊢
        exact fun h2 => HCU.out.2.2 n ((HMA.out n).2 (by simp [h2])) ((HMR.out n).2 (by simp [h]))
      have ED4 : ∀ n, decide (n ∈ TA) = true → decide (n ∈ SR) = false := fun n h => by
        simp only [decide_eq_true_eq, decide_eq_false_iff_not] at h ⊢
        exact fun h2 => HCU.out.2.2 n ((HMA.out n).2 (by simp [h])) ((HMR.out n).2 (by simp [h2]))
      have ES1 : ∀ n, decide (n ∈ SA) = true → decide (n ∈ SR) = false := fun n h => by
        simp only [decide_eq_true_eq, decide_eq_false_iff_not] at h ⊢
        exact HK1.out.2.2 n h
      have ET1 : ∀ n, decide (n ∈ TA) = true → decide (n ∈ TR) = false := fun n h => by
        simp only [decide_eq_true_eq, decide_eq_false_iff_not] at h ⊢
        exact HK2.out.2.2 n h
      have TW1 := Lib.hid (two_res EU1 EU2 ED1 ED2 ES1 HOO.out)
      have TW2 := Lib.hid (two_res (fun n => (EU1 n).trans (Bool.or_comm _ _)) (fun n => (EU2 n).trans (Bool.or_comm _ _)) ED3 ED4 ET1 HOO.out)
      have HMU := Lib.hid (show Mod ru by
        rw [Eru.out]; unfold resH; split
        · exact ⟨by simp, by simp, by simp⟩
        · have k := kept_lens (a := fun x => decide (x ∈ UA)) (r := fun x => decide (x ∈ UR)) HOO.out; have l0 := HL0.out; exact ⟨by omega, by omega, by omega⟩)
      clear EU1 EU2 ED1 ED2 ED3 ED4 ES1 ET1
      have lbb11 : b < w6.heap.size := HX3.out.lt
      have lbp1b11 : b + 1 < w6.heap.size := HX4.out.lt
      have lbp2b11 : b + 2 < w6.heap.size := HX5.out.lt
      have lb7b11 : b7 < w6.heap.size := HX7.out.lt
      have lb9b11 : b9 < w6.heap.size := HX9.out.lt
      have ba := (Below.refl w6.heap.size w6).alloc (Nat.le_refl _) (.cells #[.slice Ars rs.props.length qrs1, .int .i64 rs.ins, .int .i64 rs.move, .slice Brs rs.dels.length qrs2, .slice Crs rs.lays.length qrs3] 28)
      replace KB := Lib.hid (KB.out.trans (ba.mono (by have := KB.out.size; have := HBB.out; omega)))
      replace HX3 := Lib.hid (HX3.out.below ba)
      replace HX4 := Lib.hid (HX4.out.below ba)
      replace HX5 := Lib.hid (HX5.out.below ba)
      replace HO := Lib.hid (HO.out.below ba)
      replace RA := Lib.hid (row_below RA.out ba)
      replace RR := Lib.hid (row_below RR.out ba)
      replace TA' := Lib.hid (row_below TA'.out ba)
      replace TR' := Lib.hid (row_below TR'.out ba)
      replace UA0 := Lib.hid (row_below UA0.out ba)
      replace UR0 := Lib.hid (row_below UR0.out ba)
      replace HX7 := Lib.hid (HX7.out.below ba)
      replace Hru := Lib.hid (Hru.out.below ba)
      replace HX9 := Lib.hid (HX9.out.below ba)
      replace Hrs := Lib.hid (Hrs.out.below ba)
      have HX11 := Lib.hid (ObjAt.new w6 #[.slice Ars rs.props.length qrs1, .int .i64 rs.ins, .int .i64 rs.move, .slice Brs rs.dels.length qrs2, .slice Crs rs.lays.length qrs3] 28)
      clear ba
      go_upto_region 7 with fail
      obtain ⟨b11, hb11⟩ : ∃ x, w6.heap.size = x := ⟨_, rfl⟩
      rw [hb11] at HX11 lbb11 lbp1b11 lbp2b11 lb7b11 lb9b11 ⊢
      have gb11 : w6.heap.size = b11 := hb11
      generalize w6.alloc (.cells #[.slice Ars rs.props.length qrs1, .int .i64 rs.ins, .int .i64 rs.move, .slice Brs rs.dels.length qrs2, .slice Crs rs.lays.length qrs3] 28) = w7 at HX11 KB HX3 HX4 HX5 HO RA RR TA' TR' UA0 UR0 HX7 Hru HX9 Hrs ⊢
      clear hb11
      cases gS
      case false =>
        have hz := TW1.out.2 GS.out
        have hk := Ers.out.trans (if_neg (by rw [GS.out]; decide))
        have HOk := Lib.hid (show Ord rs by rw [hk]; exact (kept_dec HOO.out).ord)
        have HLk := Lib.hid (show rs.props.length ≤ 100 ∧ rs.dels.length ≤ 20 ∧ rs.lays.length ≤ 80 by
          have k := kept_lens (a := fun x => decide (x ∈ SA)) (r := fun x => decide (x ∈ SR)) HOO.out
          have l0 := HL0.out
          rw [hk]; refine ⟨?_, ?_, ?_⟩ <;> omega)
        have HZ := Lib.hid hz
        have HKK := Lib.hid hk
        clear hz hk
        go_upto_region 8 with fail
        have y0 := HX11.out.get (k := 0) (v := .slice Ars rs.props.length qrs1) rfl
        have y1 := HX11.out.get (k := 1) (v := .int .i64 rs.ins) rfl
        have y2 := HX11.out.get (k := 2) (v := .int .i64 rs.move) rfl
        have y3 := HX11.out.get (k := 3) (v := .slice Brs rs.dels.length qrs2) rfl
        have y4 := HX11.out.get (k := 4) (v := .slice Crs rs.lays.length qrs3) rfl
        have z0 := HX5.out.get (k := 0) (v := .slice Q TA.length d) rfl
        have z1 := HX5.out.get (k := 1) (v := .slice Q' TR.length d') rfl
        have cc := Decide_any rs HOk.out (show Mod rs from ⟨by have := HLk.out; omega, by have := HLk.out; omega, by have := HLk.out; omega⟩) (by have := HLk.out; omega) Ars Brs Crs _ qrs1 _ qrs2 _ qrs3 TA TR _ _ d d' rfl rfl HK2.out.1.2 HK2.out.2.1.2 (by omega) (by omega) Q Q' w7 Hrs.out.at (own_nsA TA'.out rfl) (own_nsA TR'.out rfl)
        unfold DRet hdV at cc
        go_wp2_with fail
        refine cc.mono ?_
        rintro e w7x ⟨rsx, Arsx, Brsx, Crsx, qrsx1, qrsx2, qrsx3, ersx, rfl, hrsx, kk⟩
        replace KB := Lib.hid (KB.out.trans (kk.mono (by have := KB.out.size; have := HBB.out; omega)))
        replace HX3 := Lib.hid (HX3.out.below kk)
        replace HX4 := Lib.hid (HX4.out.below kk)
        replace HX5 := Lib.hid (HX5.out.below kk)
        replace HO := Lib.hid (HO.out.below kk)
        replace RA := Lib.hid (row_below RA.out kk)
        replace RR := Lib.hid (row_below RR.out kk)
        replace TA' := Lib.hid (row_below TA'.out kk)
        replace TR' := Lib.hid (row_below TR'.out kk)
        replace UA0 := Lib.hid (row_below UA0.out kk)
        replace UR0 := Lib.hid (row_below UR0.out kk)
        replace HX7 := Lib.hid (HX7.out.below kk)
        replace Hru := Lib.hid (Hru.out.below kk)
        replace HX9 := Lib.hid (HX9.out.below kk)
        replace Hrs := Lib.hid (Hrs.out.below kk)
        replace HX11 := Lib.hid (HX11.out.below kk)
        have Hrsx := Lib.hid hrsx
        have Ersx := Lib.hid (show rsx = resH (fun x => decide (x ∈ TA)) (fun x => decide (x ∈ TR)) rs from ersx)
        clear cc kk hrsx ersx y0 y1 y2 y3 y4 z0 z1
        have hg : goneH (fun x => decide (x ∈ TA)) (fun x => decide (x ∈ TR)) rs = gU := by rw [HKK.out]; exact HZ.out.1.trans GU.out
        rw [hg]
        have EQx := Lib.hid (show rsx = ru from Ersx.out.trans (by rw [HKK.out]; exact HZ.out.2.trans Eru.out.symm))
        clear hg
        have x0 := HX11.out.get (k := 0) (v := .slice Ars rs.props.length qrs1) rfl
        have x1 := HX11.out.get (k := 1) (v := .int .i64 rs.ins) rfl
        have x2 := HX11.out.get (k := 2) (v := .int .i64 rs.move) rfl
        have x3 := HX11.out.get (k := 3) (v := .slice Brs rs.dels.length qrs2) rfl
        have x4 := HX11.out.get (k := 4) (v := .slice Crs rs.lays.length qrs3) rfl
        have xf0 := HX11.out.frozen 0
        have xf1 := HX11.out.frozen 1
        have xf2 := HX11.out.frozen 2
        have xf3 := HX11.out.frozen 3
        have xf4 := HX11.out.frozen 4
        go_upto_region 9 with fail
        replace KB := Lib.hid (below_set5 (k := b11) (u0 := .slice Arsx rsx.props.length qrsx1) (u1 := .int .i64 rsx.ins) (u2 := .int .i64 rsx.move) (u3 := .slice Brsx rsx.dels.length qrsx2) (u4 := .slice Crsx rsx.lays.length qrsx3) KB.out (by omega))
        replace HX3 := Lib.hid (obj_set5 (k := b11) (u0 := .slice Arsx rsx.props.length qrsx1) (u1 := .int .i64 rsx.ins) (u2 := .int .i64 rsx.move) (u3 := .slice Brsx rsx.dels.length qrsx2) (u4 := .slice Crsx rsx.lays.length qrsx3) HX3.out (by omega))
        replace HX4 := Lib.hid (obj_set5 (k := b11) (u0 := .slice Arsx rsx.props.length qrsx1) (u1 := .int .i64 rsx.ins) (u2 := .int .i64 rsx.move) (u3 := .slice Brsx rsx.dels.length qrsx2) (u4 := .slice Crsx rsx.lays.length qrsx3) HX4.out (by omega))
        replace HX5 := Lib.hid (obj_set5 (k := b11) (u0 := .slice Arsx rsx.props.length qrsx1) (u1 := .int .i64 rsx.ins) (u2 := .int .i64 rsx.move) (u3 := .slice Brsx rsx.dels.length qrsx2) (u4 := .slice Crsx rsx.lays.length qrsx3) HX5.out (by omega))
        replace HO := Lib.hid (hown_set5 (k := b11) (u0 := .slice Arsx rsx.props.length qrsx1) (u1 := .int .i64 rsx.ins) (u2 := .int .i64 rsx.move) (u3 := .slice Brsx rsx.dels.length qrsx2) (u4 := .slice Crsx rsx.lays.length qrsx3) HO.out HX11.out (by decide) (by decide) (by decide))
        replace RA := Lib.hid (row_set5 (k := b11) (u0 := .slice Arsx rsx.props.length qrsx1) (u1 := .int .i64 rsx.ins) (u2 := .int .i64 rsx.move) (u3 := .slice Brsx rsx.dels.length qrsx2) (u4 := .slice Crsx rsx.lays.length qrsx3) RA.out HX11.out (by decide))
        replace RR := Lib.hid (row_set5 (k := b11) (u0 := .slice Arsx rsx.props.length qrsx1) (u1 := .int .i64 rsx.ins) (u2 := .int .i64 rsx.move) (u3 := .slice Brsx rsx.dels.length qrsx2) (u4 := .slice Crsx rsx.lays.length qrsx3) RR.out HX11.out (by decide))
        replace TA' := Lib.hid (row_set5 (k := b11) (u0 := .slice Arsx rsx.props.length qrsx1) (u1 := .int .i64 rsx.ins) (u2 := .int .i64 rsx.move) (u3 := .slice Brsx rsx.dels.length qrsx2) (u4 := .slice Crsx rsx.lays.length qrsx3) TA'.out HX11.out (by decide))
        replace TR' := Lib.hid (row_set5 (k := b11) (u0 := .slice Arsx rsx.props.length qrsx1) (u1 := .int .i64 rsx.ins) (u2 := .int .i64 rsx.move) (u3 := .slice Brsx rsx.dels.length qrsx2) (u4 := .slice Crsx rsx.lays.length qrsx3) TR'.out HX11.out (by decide))
        replace UA0 := Lib.hid (row_set5 (k := b11) (u0 := .slice Arsx rsx.props.length qrsx1) (u1 := .int .i64 rsx.ins) (u2 := .int .i64 rsx.move) (u3 := .slice Brsx rsx.dels.length qrsx2) (u4 := .slice Crsx rsx.lays.length qrsx3) UA0.out HX11.out (by decide))
        replace UR0 := Lib.hid (row_set5 (k := b11) (u0 := .slice Arsx rsx.props.length qrsx1) (u1 := .int .i64 rsx.ins) (u2 := .int .i64 rsx.move) (u3 := .slice Brsx rsx.dels.length qrsx2) (u4 := .slice Crsx rsx.lays.length qrsx3) UR0.out HX11.out (by decide))
        replace HX7 := Lib.hid (obj_set5 (k := b11) (u0 := .slice Arsx rsx.props.length qrsx1) (u1 := .int .i64 rsx.ins) (u2 := .int .i64 rsx.move) (u3 := .slice Brsx rsx.dels.length qrsx2) (u4 := .slice Crsx rsx.lays.length qrsx3) HX7.out (by omega))
        replace Hru := Lib.hid (hown_set5 (k := b11) (u0 := .slice Arsx rsx.props.length qrsx1) (u1 := .int .i64 rsx.ins) (u2 := .int .i64 rsx.move) (u3 := .slice Brsx rsx.dels.length qrsx2) (u4 := .slice Crsx rsx.lays.length qrsx3) Hru.out HX11.out (by decide) (by decide) (by decide))
        replace HX9 := Lib.hid (obj_set5 (k := b11) (u0 := .slice Arsx rsx.props.length qrsx1) (u1 := .int .i64 rsx.ins) (u2 := .int .i64 rsx.move) (u3 := .slice Brsx rsx.dels.length qrsx2) (u4 := .slice Crsx rsx.lays.length qrsx3) HX9.out (by omega))
        replace Hrs := Lib.hid (hown_set5 (k := b11) (u0 := .slice Arsx rsx.props.length qrsx1) (u1 := .int .i64 rsx.ins) (u2 := .int .i64 rsx.move) (u3 := .slice Brsx rsx.dels.length qrsx2) (u4 := .slice Crsx rsx.lays.length qrsx3) Hrs.out HX11.out (by decide) (by decide) (by decide))
        replace Hrsx := Lib.hid (hown_set5 (k := b11) (u0 := .slice Arsx rsx.props.length qrsx1) (u1 := .int .i64 rsx.ins) (u2 := .int .i64 rsx.move) (u3 := .slice Brsx rsx.dels.length qrsx2) (u4 := .slice Crsx rsx.lays.length qrsx3) Hrsx.out HX11.out (by decide) (by decide) (by decide))
        replace HX11 := Lib.hid (own_set5 (u0 := .slice Arsx rsx.props.length qrsx1) (u1 := .int .i64 rsx.ins) (u2 := .int .i64 rsx.move) (u3 := .slice Brsx rsx.dels.length qrsx2) (u4 := .slice Crsx rsx.lays.length qrsx3) HX11.out)
        obtain ⟨w7y, hw7y⟩ : ∃ W, set5 w7x b11 (.slice Arsx rsx.props.length qrsx1) (.int .i64 rsx.ins) (.int .i64 rsx.move) (.slice Brsx rsx.dels.length qrsx2) (.slice Crsx rsx.lays.length qrsx3) = W := ⟨_, rfl⟩
        rw [hw7y] at KB HX3 HX4 HX5 HO RA RR TA' TR' UA0 UR0 HX7 Hru HX9 Hrs HX11 Hrsx
        unfold set5 at hw7y
        rw [hw7y]
        clear hw7y x0 xf0 x1 xf1 x2 xf2 x3 xf3 x4 xf4
        have y0 := HX3.out.get (k := 0) (v := .slice A1 o.props.length c1) rfl
        have y1 := HX3.out.get (k := 1) (v := .int .i64 o.ins) rfl
        have y2 := HX3.out.get (k := 2) (v := .int .i64 o.move) rfl
        have y3 := HX3.out.get (k := 3) (v := .slice B1 o.dels.length c2) rfl
        have y4 := HX3.out.get (k := 4) (v := .slice C1 o.lays.length c3) rfl
        have z0 := HX5.out.get (k := 0) (v := .slice Q TA.length d) rfl
        have z1 := HX5.out.get (k := 1) (v := .slice Q' TR.length d') rfl
        have cc := Decide_any o HOO.out HM.out HP9.out A1 B1 C1 _ c1 _ c2 _ c3 TA TR _ _ d d' rfl rfl HK2.out.1.2 HK2.out.2.1.2 (by omega) (by omega) Q Q' w7y HO.out.at (own_nsA TA'.out rfl) (own_nsA TR'.out rfl)
        unfold DRet hdV at cc
        go_wp2_with fail
        refine cc.mono ?_
        rintro e w7yt ⟨rt, Art, Brt, Crt, qrt1, qrt2, qrt3, ert, rfl, hrt, kk⟩
        replace KB := Lib.hid (KB.out.trans (kk.mono (by have := KB.out.size; have := HBB.out; omega)))
        replace HX3 := Lib.hid (HX3.out.below kk)
        replace HX4 := Lib.hid (HX4.out.below kk)
        replace HX5 := Lib.hid (HX5.out.below kk)
        replace HO := Lib.hid (HO.out.below kk)
        replace RA := Lib.hid (row_below RA.out kk)
        replace RR := Lib.hid (row_below RR.out kk)
        replace TA' := Lib.hid (row_below TA'.out kk)
        replace TR' := Lib.hid (row_below TR'.out kk)
        replace UA0 := Lib.hid (row_below UA0.out kk)
        replace UR0 := Lib.hid (row_below UR0.out kk)
        replace HX7 := Lib.hid (HX7.out.below kk)
        replace Hru := Lib.hid (Hru.out.below kk)
        replace HX9 := Lib.hid (HX9.out.below kk)
        replace Hrs := Lib.hid (Hrs.out.below kk)
        replace HX11 := Lib.hid (HX11.out.below kk)
        replace Hrsx := Lib.hid (Hrsx.out.below kk)
        have Hrt := Lib.hid hrt
        have Ert := Lib.hid (show rt = resH (fun x => decide (x ∈ TA)) (fun x => decide (x ∈ TR)) o from ert)
        clear cc kk hrt ert y0 y1 y2 y3 y4 z0 z1
        obtain ⟨gT, hgT⟩ : ∃ g, goneH (fun x => decide (x ∈ TA)) (fun x => decide (x ∈ TR)) o = g := ⟨_, rfl⟩
        rw [hgT]
        have GT := Lib.hid hgT
        clear hgT
        have lbb13 : b < w7yt.heap.size := HX3.out.lt
        have lbp1b13 : b + 1 < w7yt.heap.size := HX4.out.lt
        have lbp2b13 : b + 2 < w7yt.heap.size := HX5.out.lt
        have lb7b13 : b7 < w7yt.heap.size := HX7.out.lt
        have lb9b13 : b9 < w7yt.heap.size := HX9.out.lt
        have lb11b13 : b11 < w7yt.heap.size := HX11.out.lt
        have ba := (Below.refl w7yt.heap.size w7yt).alloc (Nat.le_refl _) (.cells #[.slice Art rt.props.length qrt1, .int .i64 rt.ins, .int .i64 rt.move, .slice Brt rt.dels.length qrt2, .slice Crt rt.lays.length qrt3] 28)
        replace KB := Lib.hid (KB.out.trans (ba.mono (by have := KB.out.size; have := HBB.out; omega)))
        replace HX3 := Lib.hid (HX3.out.below ba)
        replace HX4 := Lib.hid (HX4.out.below ba)
        replace HX5 := Lib.hid (HX5.out.below ba)
        replace HO := Lib.hid (HO.out.below ba)
        replace RA := Lib.hid (row_below RA.out ba)
        replace RR := Lib.hid (row_below RR.out ba)
        replace TA' := Lib.hid (row_below TA'.out ba)
        replace TR' := Lib.hid (row_below TR'.out ba)
        replace UA0 := Lib.hid (row_below UA0.out ba)
        replace UR0 := Lib.hid (row_below UR0.out ba)
        replace HX7 := Lib.hid (HX7.out.below ba)
        replace Hru := Lib.hid (Hru.out.below ba)
        replace HX9 := Lib.hid (HX9.out.below ba)
        replace Hrs := Lib.hid (Hrs.out.below ba)
        replace HX11 := Lib.hid (HX11.out.below ba)
        replace Hrsx := Lib.hid (Hrsx.out.below ba)
        replace Hrt := Lib.hid (Hrt.out.below ba)
        have HX13 := Lib.hid (ObjAt.new w7yt #[.slice Art rt.props.length qrt1, .int .i64 rt.ins, .int .i64 rt.move, .slice Brt rt.dels.length qrt2, .slice Crt rt.lays.length qrt3] 28)
        clear ba
        go_upto_region 10 with fail
        obtain ⟨b13, hb13⟩ : ∃ x, w7yt.heap.size = x := ⟨_, rfl⟩
        rw [hb13] at HX13 lbb13 lbp1b13 lbp2b13 lb7b13 lb9b13 lb11b13 ⊢
        have gb13 : w7yt.heap.size = b13 := hb13
        generalize w7yt.alloc (.cells #[.slice Art rt.props.length qrt1, .int .i64 rt.ins, .int .i64 rt.move, .slice Brt rt.dels.length qrt2, .slice Crt rt.lays.length qrt3] 28) = w7yu at HX13 KB HX3 HX4 HX5 HO RA RR TA' TR' UA0 UR0 HX7 Hru HX9 Hrs HX11 Hrsx Hrt ⊢
        clear hb13
        cases gT
        case false =>
          have hz := TW2.out.2 GT.out
          have hk := Ert.out.trans (if_neg (by rw [GT.out]; decide))
          have HOk := Lib.hid (show Ord rt by rw [hk]; exact (kept_dec HOO.out).ord)
          have HLk := Lib.hid (show rt.props.length ≤ 100 ∧ rt.dels.length ≤ 20 ∧ rt.lays.length ≤ 80 by
            have k := kept_lens (a := fun x => decide (x ∈ TA)) (r := fun x => decide (x ∈ TR)) HOO.out
            have l0 := HL0.out
            rw [hk]; refine ⟨?_, ?_, ?_⟩ <;> omega)
          have HZ := Lib.hid hz
          have HKK := Lib.hid hk
          clear hz hk
          go_upto_region 11 with fail
          have y0 := HX13.out.get (k := 0) (v := .slice Art rt.props.length qrt1) rfl
          have y1 := HX13.out.get (k := 1) (v := .int .i64 rt.ins) rfl
          have y2 := HX13.out.get (k := 2) (v := .int .i64 rt.move) rfl
          have y3 := HX13.out.get (k := 3) (v := .slice Brt rt.dels.length qrt2) rfl
          have y4 := HX13.out.get (k := 4) (v := .slice Crt rt.lays.length qrt3) rfl
          have z0 := HX4.out.get (k := 0) (v := .slice P SA.length c) rfl
          have z1 := HX4.out.get (k := 1) (v := .slice P' SR.length c') rfl
          have cc := Decide_any rt HOk.out (show Mod rt from ⟨by have := HLk.out; omega, by have := HLk.out; omega, by have := HLk.out; omega⟩) (by have := HLk.out; omega) Art Brt Crt _ qrt1 _ qrt2 _ qrt3 SA SR _ _ c c' rfl rfl HK1.out.1.2 HK1.out.2.1.2 (by omega) (by omega) P P' w7yu Hrt.out.at (own_nsA RA.out rfl) (own_nsA RR.out rfl)
          unfold DRet hdV at cc
          go_wp2_with fail
          refine cc.mono ?_
          rintro e w7yux ⟨rtx, Artx, Brtx, Crtx, qrtx1, qrtx2, qrtx3, ertx, rfl, hrtx, kk⟩
          replace KB := Lib.hid (KB.out.trans (kk.mono (by have := KB.out.size; have := HBB.out; omega)))
          replace HX3 := Lib.hid (HX3.out.below kk)
          replace HX4 := Lib.hid (HX4.out.below kk)
          replace HX5 := Lib.hid (HX5.out.below kk)
          replace HO := Lib.hid (HO.out.below kk)
          replace RA := Lib.hid (row_below RA.out kk)
          replace RR := Lib.hid (row_below RR.out kk)
          replace TA' := Lib.hid (row_below TA'.out kk)
          replace TR' := Lib.hid (row_below TR'.out kk)
          replace UA0 := Lib.hid (row_below UA0.out kk)
          replace UR0 := Lib.hid (row_below UR0.out kk)
          replace HX7 := Lib.hid (HX7.out.below kk)
          replace Hru := Lib.hid (Hru.out.below kk)
          replace HX9 := Lib.hid (HX9.out.below kk)
          replace Hrs := Lib.hid (Hrs.out.below kk)
          replace HX11 := Lib.hid (HX11.out.below kk)
          replace Hrsx := Lib.hid (Hrsx.out.below kk)
          replace Hrt := Lib.hid (Hrt.out.below kk)
          replace HX13 := Lib.hid (HX13.out.below kk)
          have Hrtx := Lib.hid hrtx
          have Ertx := Lib.hid (show rtx = resH (fun x => decide (x ∈ SA)) (fun x => decide (x ∈ SR)) rt from ertx)
          clear cc kk hrtx ertx y0 y1 y2 y3 y4 z0 z1
          have hg : goneH (fun x => decide (x ∈ SA)) (fun x => decide (x ∈ SR)) rt = gU := by rw [HKK.out]; exact HZ.out.1.trans GU.out
          rw [hg]
          have EQy := Lib.hid (show rtx = ru from Ertx.out.trans (by rw [HKK.out]; exact HZ.out.2.trans Eru.out.symm))
          clear hg
          have x0 := HX13.out.get (k := 0) (v := .slice Art rt.props.length qrt1) rfl
          have x1 := HX13.out.get (k := 1) (v := .int .i64 rt.ins) rfl
          have x2 := HX13.out.get (k := 2) (v := .int .i64 rt.move) rfl
          have x3 := HX13.out.get (k := 3) (v := .slice Brt rt.dels.length qrt2) rfl
          have x4 := HX13.out.get (k := 4) (v := .slice Crt rt.lays.length qrt3) rfl
          have xf0 := HX13.out.frozen 0
          have xf1 := HX13.out.frozen 1
          have xf2 := HX13.out.frozen 2
          have xf3 := HX13.out.frozen 3
          have xf4 := HX13.out.frozen 4
          go_upto_region 12 with fail
          replace KB := Lib.hid (below_set5 (k := b13) (u0 := .slice Artx rtx.props.length qrtx1) (u1 := .int .i64 rtx.ins) (u2 := .int .i64 rtx.move) (u3 := .slice Brtx rtx.dels.length qrtx2) (u4 := .slice Crtx rtx.lays.length qrtx3) KB.out (by omega))
          replace HX3 := Lib.hid (obj_set5 (k := b13) (u0 := .slice Artx rtx.props.length qrtx1) (u1 := .int .i64 rtx.ins) (u2 := .int .i64 rtx.move) (u3 := .slice Brtx rtx.dels.length qrtx2) (u4 := .slice Crtx rtx.lays.length qrtx3) HX3.out (by omega))
          replace HX4 := Lib.hid (obj_set5 (k := b13) (u0 := .slice Artx rtx.props.length qrtx1) (u1 := .int .i64 rtx.ins) (u2 := .int .i64 rtx.move) (u3 := .slice Brtx rtx.dels.length qrtx2) (u4 := .slice Crtx rtx.lays.length qrtx3) HX4.out (by omega))
          replace HX5 := Lib.hid (obj_set5 (k := b13) (u0 := .slice Artx rtx.props.length qrtx1) (u1 := .int .i64 rtx.ins) (u2 := .int .i64 rtx.move) (u3 := .slice Brtx rtx.dels.length qrtx2) (u4 := .slice Crtx rtx.lays.length qrtx3) HX5.out (by omega))
          replace HO := Lib.hid (hown_set5 (k := b13) (u0 := .slice Artx rtx.props.length qrtx1) (u1 := .int .i64 rtx.ins) (u2 := .int .i64 rtx.move) (u3 := .slice Brtx rtx.dels.length qrtx2) (u4 := .slice Crtx rtx.lays.length qrtx3) HO.out HX13.out (by decide) (by decide) (by decide))
          replace RA := Lib.hid (row_set5 (k := b13) (u0 := .slice Artx rtx.props.length qrtx1) (u1 := .int .i64 rtx.ins) (u2 := .int .i64 rtx.move) (u3 := .slice Brtx rtx.dels.length qrtx2) (u4 := .slice Crtx rtx.lays.length qrtx3) RA.out HX13.out (by decide))
          replace RR := Lib.hid (row_set5 (k := b13) (u0 := .slice Artx rtx.props.length qrtx1) (u1 := .int .i64 rtx.ins) (u2 := .int .i64 rtx.move) (u3 := .slice Brtx rtx.dels.length qrtx2) (u4 := .slice Crtx rtx.lays.length qrtx3) RR.out HX13.out (by decide))
          replace TA' := Lib.hid (row_set5 (k := b13) (u0 := .slice Artx rtx.props.length qrtx1) (u1 := .int .i64 rtx.ins) (u2 := .int .i64 rtx.move) (u3 := .slice Brtx rtx.dels.length qrtx2) (u4 := .slice Crtx rtx.lays.length qrtx3) TA'.out HX13.out (by decide))
          replace TR' := Lib.hid (row_set5 (k := b13) (u0 := .slice Artx rtx.props.length qrtx1) (u1 := .int .i64 rtx.ins) (u2 := .int .i64 rtx.move) (u3 := .slice Brtx rtx.dels.length qrtx2) (u4 := .slice Crtx rtx.lays.length qrtx3) TR'.out HX13.out (by decide))
          replace UA0 := Lib.hid (row_set5 (k := b13) (u0 := .slice Artx rtx.props.length qrtx1) (u1 := .int .i64 rtx.ins) (u2 := .int .i64 rtx.move) (u3 := .slice Brtx rtx.dels.length qrtx2) (u4 := .slice Crtx rtx.lays.length qrtx3) UA0.out HX13.out (by decide))
          replace UR0 := Lib.hid (row_set5 (k := b13) (u0 := .slice Artx rtx.props.length qrtx1) (u1 := .int .i64 rtx.ins) (u2 := .int .i64 rtx.move) (u3 := .slice Brtx rtx.dels.length qrtx2) (u4 := .slice Crtx rtx.lays.length qrtx3) UR0.out HX13.out (by decide))
          replace HX7 := Lib.hid (obj_set5 (k := b13) (u0 := .slice Artx rtx.props.length qrtx1) (u1 := .int .i64 rtx.ins) (u2 := .int .i64 rtx.move) (u3 := .slice Brtx rtx.dels.length qrtx2) (u4 := .slice Crtx rtx.lays.length qrtx3) HX7.out (by omega))
          replace Hru := Lib.hid (hown_set5 (k := b13) (u0 := .slice Artx rtx.props.length qrtx1) (u1 := .int .i64 rtx.ins) (u2 := .int .i64 rtx.move) (u3 := .slice Brtx rtx.dels.length qrtx2) (u4 := .slice Crtx rtx.lays.length qrtx3) Hru.out HX13.out (by decide) (by decide) (by decide))
          replace HX9 := Lib.hid (obj_set5 (k := b13) (u0 := .slice Artx rtx.props.length qrtx1) (u1 := .int .i64 rtx.ins) (u2 := .int .i64 rtx.move) (u3 := .slice Brtx rtx.dels.length qrtx2) (u4 := .slice Crtx rtx.lays.length qrtx3) HX9.out (by omega))
          replace Hrs := Lib.hid (hown_set5 (k := b13) (u0 := .slice Artx rtx.props.length qrtx1) (u1 := .int .i64 rtx.ins) (u2 := .int .i64 rtx.move) (u3 := .slice Brtx rtx.dels.length qrtx2) (u4 := .slice Crtx rtx.lays.length qrtx3) Hrs.out HX13.out (by decide) (by decide) (by decide))
          replace HX11 := Lib.hid (obj_set5 (k := b13) (u0 := .slice Artx rtx.props.length qrtx1) (u1 := .int .i64 rtx.ins) (u2 := .int .i64 rtx.move) (u3 := .slice Brtx rtx.dels.length qrtx2) (u4 := .slice Crtx rtx.lays.length qrtx3) HX11.out (by omega))
          replace Hrsx := Lib.hid (hown_set5 (k := b13) (u0 := .slice Artx rtx.props.length qrtx1) (u1 := .int .i64 rtx.ins) (u2 := .int .i64 rtx.move) (u3 := .slice Brtx rtx.dels.length qrtx2) (u4 := .slice Crtx rtx.lays.length qrtx3) Hrsx.out HX13.out (by decide) (by decide) (by decide))
          replace Hrt := Lib.hid (hown_set5 (k := b13) (u0 := .slice Artx rtx.props.length qrtx1) (u1 := .int .i64 rtx.ins) (u2 := .int .i64 rtx.move) (u3 := .slice Brtx rtx.dels.length qrtx2) (u4 := .slice Crtx rtx.lays.length qrtx3) Hrt.out HX13.out (by decide) (by decide) (by decide))
          replace Hrtx := Lib.hid (hown_set5 (k := b13) (u0 := .slice Artx rtx.props.length qrtx1) (u1 := .int .i64 rtx.ins) (u2 := .int .i64 rtx.move) (u3 := .slice Brtx rtx.dels.length qrtx2) (u4 := .slice Crtx rtx.lays.length qrtx3) Hrtx.out HX13.out (by decide) (by decide) (by decide))
          replace HX13 := Lib.hid (own_set5 (u0 := .slice Artx rtx.props.length qrtx1) (u1 := .int .i64 rtx.ins) (u2 := .int .i64 rtx.move) (u3 := .slice Brtx rtx.dels.length qrtx2) (u4 := .slice Crtx rtx.lays.length qrtx3) HX13.out)
          obtain ⟨w7yuy, hw7yuy⟩ : ∃ W, set5 w7yux b13 (.slice Artx rtx.props.length qrtx1) (.int .i64 rtx.ins) (.int .i64 rtx.move) (.slice Brtx rtx.dels.length qrtx2) (.slice Crtx rtx.lays.length qrtx3) = W := ⟨_, rfl⟩
          rw [hw7yuy] at KB HX3 HX4 HX5 HO RA RR TA' TR' UA0 UR0 HX7 Hru HX9 Hrs HX11 Hrsx Hrt HX13 Hrtx
          unfold set5 at hw7yuy
          rw [hw7yuy]
          clear hw7yuy x0 xf0 x1 xf1 x2 xf2 x3 xf3 x4 xf4
          cases gU
          case false =>
            have x0 := HX11.out.get (k := 0) (v := .slice Arsx rsx.props.length qrsx1) rfl
            have x1 := HX11.out.get (k := 1) (v := .int .i64 rsx.ins) rfl
            have x2 := HX11.out.get (k := 2) (v := .int .i64 rsx.move) rfl
            have x3 := HX11.out.get (k := 3) (v := .slice Brsx rsx.dels.length qrsx2) rfl
            have x4 := HX11.out.get (k := 4) (v := .slice Crsx rsx.lays.length qrsx3) rfl
            have y0 := HX9.out.get (k := 0) (v := .slice Aru ru.props.length qru1) rfl
            have y1 := HX9.out.get (k := 1) (v := .int .i64 ru.ins) rfl
            have y2 := HX9.out.get (k := 2) (v := .int .i64 ru.move) rfl
            have y3 := HX9.out.get (k := 3) (v := .slice Bru ru.dels.length qru2) rfl
            have y4 := HX9.out.get (k := 4) (v := .slice Cru ru.lays.length qru3) rfl
            have z0 := HX13.out.get (k := 0) (v := .slice Artx rtx.props.length qrtx1) rfl
            have z1 := HX13.out.get (k := 1) (v := .int .i64 rtx.ins) rfl
            have z2 := HX13.out.get (k := 2) (v := .int .i64 rtx.move) rfl
            have z3 := HX13.out.get (k := 3) (v := .slice Brtx rtx.dels.length qrtx2) rfl
            have z4 := HX13.out.get (k := 4) (v := .slice Crtx rtx.lays.length qrtx3) rfl
            have c1 := eqhead_any rsx ru (by rw [EQx.out]; exact HMU.out) HMU.out _ _ w7yuy ⟨Arsx, Brsx, Crsx, _, qrsx1, _, qrsx2, _, qrsx3, rfl, Hrsx.out.at⟩ ⟨Aru, Bru, Cru, _, qru1, _, qru2, _, qru3, rfl, Hru.out.at⟩
            rw [decide_eq_true EQx.out] at c1
            unfold hdV at c1
            go_wp2_with fail
            (with_reducible refine c1.mono ?_)
            rintro e we ⟨rfl, kk⟩
            replace KB := Lib.hid (KB.out.trans (kk.mono (by have := KB.out.size; have := HBB.out; omega)))
            replace HX3 := Lib.hid (HX3.out.below kk)
            replace HX4 := Lib.hid (HX4.out.below kk)
            replace HX5 := Lib.hid (HX5.out.below kk)
            replace HO := Lib.hid (HO.out.below kk)
            replace RA := Lib.hid (row_below RA.out kk)
            replace RR := Lib.hid (row_below RR.out kk)
            replace TA' := Lib.hid (row_below TA'.out kk)
            replace TR' := Lib.hid (row_below TR'.out kk)
            replace UA0 := Lib.hid (row_below UA0.out kk)
            replace UR0 := Lib.hid (row_below UR0.out kk)
            replace HX7 := Lib.hid (HX7.out.below kk)
            replace Hru := Lib.hid (Hru.out.below kk)
            replace HX9 := Lib.hid (HX9.out.below kk)
            replace Hrs := Lib.hid (Hrs.out.below kk)
            replace HX11 := Lib.hid (HX11.out.below kk)
            replace Hrsx := Lib.hid (Hrsx.out.below kk)
            replace Hrt := Lib.hid (Hrt.out.below kk)
            replace HX13 := Lib.hid (HX13.out.below kk)
            replace Hrtx := Lib.hid (Hrtx.out.below kk)
            clear c1 kk x0 y0 z0 x1 y1 z1 x2 y2 z2 x3 y3 z3 x4 y4 z4
            have y0 := HX9.out.get (k := 0) (v := .slice Aru ru.props.length qru1) rfl
            have y1 := HX9.out.get (k := 1) (v := .int .i64 ru.ins) rfl
            have y2 := HX9.out.get (k := 2) (v := .int .i64 ru.move) rfl
            have y3 := HX9.out.get (k := 3) (v := .slice Bru ru.dels.length qru2) rfl
            have y4 := HX9.out.get (k := 4) (v := .slice Cru ru.lays.length qru3) rfl
            have z0 := HX13.out.get (k := 0) (v := .slice Artx rtx.props.length qrtx1) rfl
            have z1 := HX13.out.get (k := 1) (v := .int .i64 rtx.ins) rfl
            have z2 := HX13.out.get (k := 2) (v := .int .i64 rtx.move) rfl
            have z3 := HX13.out.get (k := 3) (v := .slice Brtx rtx.dels.length qrtx2) rfl
            have z4 := HX13.out.get (k := 4) (v := .slice Crtx rtx.lays.length qrtx3) rfl
            have c1 := eqhead_any rtx ru (by rw [EQy.out]; exact HMU.out) HMU.out _ _ we ⟨Artx, Brtx, Crtx, _, qrtx1, _, qrtx2, _, qrtx3, rfl, Hrtx.out.at⟩ ⟨Aru, Bru, Cru, _, qru1, _, qru2, _, qru3, rfl, Hru.out.at⟩
            rw [decide_eq_true EQy.out] at c1
            unfold hdV at c1
            go_wp2_with fail
            (with_reducible refine c1.mono ?_)
            rintro e wf ⟨rfl, kk⟩
            replace KB := Lib.hid (KB.out.trans (kk.mono (by have := KB.out.size; have := HBB.out; omega)))
            replace HX3 := Lib.hid (HX3.out.below kk)
            replace HX4 := Lib.hid (HX4.out.below kk)
            replace HX5 := Lib.hid (HX5.out.below kk)
            replace HO := Lib.hid (HO.out.below kk)
            replace RA := Lib.hid (row_below RA.out kk)
            replace RR := Lib.hid (row_below RR.out kk)
            replace TA' := Lib.hid (row_below TA'.out kk)
            replace TR' := Lib.hid (row_below TR'.out kk)
            replace UA0 := Lib.hid (row_below UA0.out kk)
            replace UR0 := Lib.hid (row_below UR0.out kk)
            replace HX7 := Lib.hid (HX7.out.below kk)
            replace Hru := Lib.hid (Hru.out.below kk)
            replace HX9 := Lib.hid (HX9.out.below kk)
            replace Hrs := Lib.hid (Hrs.out.below kk)
            replace HX11 := Lib.hid (HX11.out.below kk)
            replace Hrsx := Lib.hid (Hrsx.out.below kk)
            replace Hrt := Lib.hid (Hrt.out.below kk)
            replace HX13 := Lib.hid (HX13.out.below kk)
            replace Hrtx := Lib.hid (Hrtx.out.below kk)
            clear c1 kk y0 z0 y1 z1 y2 z2 y3 z3 y4 z4
            go_wp2
            go_ret
            exact ⟨by simp, by rw [HBB.out]; exact KB.out⟩
          case true =>
            have x0 := HX11.out.get (k := 0) (v := .slice Arsx rsx.props.length qrsx1) rfl
            have x1 := HX11.out.get (k := 1) (v := .int .i64 rsx.ins) rfl
            have x2 := HX11.out.get (k := 2) (v := .int .i64 rsx.move) rfl
            have x3 := HX11.out.get (k := 3) (v := .slice Brsx rsx.dels.length qrsx2) rfl
            have x4 := HX11.out.get (k := 4) (v := .slice Crsx rsx.lays.length qrsx3) rfl
            have y0 := HX9.out.get (k := 0) (v := .slice Aru ru.props.length qru1) rfl
            have y1 := HX9.out.get (k := 1) (v := .int .i64 ru.ins) rfl
            have y2 := HX9.out.get (k := 2) (v := .int .i64 ru.move) rfl
            have y3 := HX9.out.get (k := 3) (v := .slice Bru ru.dels.length qru2) rfl
            have y4 := HX9.out.get (k := 4) (v := .slice Cru ru.lays.length qru3) rfl
            have z0 := HX13.out.get (k := 0) (v := .slice Artx rtx.props.length qrtx1) rfl
            have z1 := HX13.out.get (k := 1) (v := .int .i64 rtx.ins) rfl
            have z2 := HX13.out.get (k := 2) (v := .int .i64 rtx.move) rfl
            have z3 := HX13.out.get (k := 3) (v := .slice Brtx rtx.dels.length qrtx2) rfl
            have z4 := HX13.out.get (k := 4) (v := .slice Crtx rtx.lays.length qrtx3) rfl
            have c1 := eqhead_any rsx ru (by rw [EQx.out]; exact HMU.out) HMU.out _ _ w7yuy ⟨Arsx, Brsx, Crsx, _, qrsx1, _, qrsx2, _, qrsx3, rfl, Hrsx.out.at⟩ ⟨Aru, Bru, Cru, _, qru1, _, qru2, _, qru3, rfl, Hru.out.at⟩
            rw [decide_eq_true EQx.out] at c1
            unfold hdV at c1
            go_wp2_with fail
            (with_reducible refine c1.mono ?_)
            rintro e we ⟨rfl, kk⟩
            replace KB := Lib.hid (KB.out.trans (kk.mono (by have := KB.out.size; have := HBB.out; omega)))
            replace HX3 := Lib.hid (HX3.out.below kk)
            replace HX4 := Lib.hid (HX4.out.below kk)
            replace HX5 := Lib.hid (HX5.out.below kk)
            replace HO := Lib.hid (HO.out.below kk)
            replace RA := Lib.hid (row_below RA.out kk)
            replace RR := Lib.hid (row_below RR.out kk)
            replace TA' := Lib.hid (row_below TA'.out kk)
            replace TR' := Lib.hid (row_below TR'.out kk)
            replace UA0 := Lib.hid (row_below UA0.out kk)
            replace UR0 := Lib.hid (row_below UR0.out kk)
            replace HX7 := Lib.hid (HX7.out.below kk)
            replace Hru := Lib.hid (Hru.out.below kk)
            replace HX9 := Lib.hid (HX9.out.below kk)
            replace Hrs := Lib.hid (Hrs.out.below kk)
            replace HX11 := Lib.hid (HX11.out.below kk)
            replace Hrsx := Lib.hid (Hrsx.out.below kk)
            replace Hrt := Lib.hid (Hrt.out.below kk)
            replace HX13 := Lib.hid (HX13.out.below kk)
            replace Hrtx := Lib.hid (Hrtx.out.below kk)
            clear c1 kk x0 y0 z0 x1 y1 z1 x2 y2 z2 x3 y3 z3 x4 y4 z4
            have y0 := HX9.out.get (k := 0) (v := .slice Aru ru.props.length qru1) rfl
            have y1 := HX9.out.get (k := 1) (v := .int .i64 ru.ins) rfl
            have y2 := HX9.out.get (k := 2) (v := .int .i64 ru.move) rfl
            have y3 := HX9.out.get (k := 3) (v := .slice Bru ru.dels.length qru2) rfl
            have y4 := HX9.out.get (k := 4) (v := .slice Cru ru.lays.length qru3) rfl
            have z0 := HX13.out.get (k := 0) (v := .slice Artx rtx.props.length qrtx1) rfl
            have z1 := HX13.out.get (k := 1) (v := .int .i64 rtx.ins) rfl
            have z2 := HX13.out.get (k := 2) (v := .int .i64 rtx.move) rfl
            have z3 := HX13.out.get (k := 3) (v := .slice Brtx rtx.dels.length qrtx2) rfl
            have z4 := HX13.out.get (k := 4) (v := .slice Crtx rtx.lays.length qrtx3) rfl
            have c1 := eqhead_any rtx ru (by rw [EQy.out]; exact HMU.out) HMU.out _ _ we ⟨Artx, Brtx, Crtx, _, qrtx1, _, qrtx2, _, qrtx3, rfl, Hrtx.out.at⟩ ⟨Aru, Bru, Cru, _, qru1, _, qru2, _, qru3, rfl, Hru.out.at⟩
            rw [decide_eq_true EQy.out] at c1
            unfold hdV at c1
            go_wp2_with fail
            (with_reducible refine c1.mono ?_)
            rintro e wf ⟨rfl, kk⟩
            replace KB := Lib.hid (KB.out.trans (kk.mono (by have := KB.out.size; have := HBB.out; omega)))
            replace HX3 := Lib.hid (HX3.out.below kk)
            replace HX4 := Lib.hid (HX4.out.below kk)
            replace HX5 := Lib.hid (HX5.out.below kk)
            replace HO := Lib.hid (HO.out.below kk)
            replace RA := Lib.hid (row_below RA.out kk)
            replace RR := Lib.hid (row_below RR.out kk)
            replace TA' := Lib.hid (row_below TA'.out kk)
            replace TR' := Lib.hid (row_below TR'.out kk)
            replace UA0 := Lib.hid (row_below UA0.out kk)
            replace UR0 := Lib.hid (row_below UR0.out kk)
            replace HX7 := Lib.hid (HX7.out.below kk)
            replace Hru := Lib.hid (Hru.out.below kk)
            replace HX9 := Lib.hid (HX9.out.below kk)
            replace Hrs := Lib.hid (Hrs.out.below kk)
            replace HX11 := Lib.hid (HX11.out.below kk)
            replace Hrsx := Lib.hid (Hrsx.out.below kk)
            replace Hrt := Lib.hid (Hrt.out.below kk)
            replace HX13 := Lib.hid (HX13.out.below kk)
            replace Hrtx := Lib.hid (Hrtx.out.below kk)
            clear c1 kk y0 z0 y1 z1 y2 z2 y3 z3 y4 z4
            go_wp2
            go_ret
            exact ⟨by simp, by rw [HBB.out]; exact KB.out⟩
        case true =>
          have hz := TW2.out.1 GT.out
          have HGUy := Lib.hid (show gU = true from GU.out.symm.trans hz.1)
          have EQy := Lib.hid (show rt = ru from Ert.out.trans ((if_pos GT.out).trans (hz.2.symm.trans Eru.out.symm)))
          clear hz
          go_upto_region 12 with fail
          cases gU
          case false =>
            exact absurd HGUy.out (by decide)
          case true =>
            have x0 := HX11.out.get (k := 0) (v := .slice Arsx rsx.props.length qrsx1) rfl
            have x1 := HX11.out.get (k := 1) (v := .int .i64 rsx.ins) rfl
            have x2 := HX11.out.get (k := 2) (v := .int .i64 rsx.move) rfl
            have x3 := HX11.out.get (k := 3) (v := .slice Brsx rsx.dels.length qrsx2) rfl
            have x4 := HX11.out.get (k := 4) (v := .slice Crsx rsx.lays.length qrsx3) rfl
            have y0 := HX9.out.get (k := 0) (v := .slice Aru ru.props.length qru1) rfl
            have y1 := HX9.out.get (k := 1) (v := .int .i64 ru.ins) rfl
            have y2 := HX9.out.get (k := 2) (v := .int .i64 ru.move) rfl
            have y3 := HX9.out.get (k := 3) (v := .slice Bru ru.dels.length qru2) rfl
            have y4 := HX9.out.get (k := 4) (v := .slice Cru ru.lays.length qru3) rfl
            have z0 := HX13.out.get (k := 0) (v := .slice Art rt.props.length qrt1) rfl
            have z1 := HX13.out.get (k := 1) (v := .int .i64 rt.ins) rfl
            have z2 := HX13.out.get (k := 2) (v := .int .i64 rt.move) rfl
            have z3 := HX13.out.get (k := 3) (v := .slice Brt rt.dels.length qrt2) rfl
            have z4 := HX13.out.get (k := 4) (v := .slice Crt rt.lays.length qrt3) rfl
            have c1 := eqhead_any rsx ru (by rw [EQx.out]; exact HMU.out) HMU.out _ _ w7yu ⟨Arsx, Brsx, Crsx, _, qrsx1, _, qrsx2, _, qrsx3, rfl, Hrsx.out.at⟩ ⟨Aru, Bru, Cru, _, qru1, _, qru2, _, qru3, rfl, Hru.out.at⟩
            rw [decide_eq_true EQx.out] at c1
            unfold hdV at c1
            go_wp2_with fail
            (with_reducible refine c1.mono ?_)
            rintro e we ⟨rfl, kk⟩
            replace KB := Lib.hid (KB.out.trans (kk.mono (by have := KB.out.size; have := HBB.out; omega)))
            replace HX3 := Lib.hid (HX3.out.below kk)
            replace HX4 := Lib.hid (HX4.out.below kk)
            replace HX5 := Lib.hid (HX5.out.below kk)
            replace HO := Lib.hid (HO.out.below kk)
            replace RA := Lib.hid (row_below RA.out kk)
            replace RR := Lib.hid (row_below RR.out kk)
            replace TA' := Lib.hid (row_below TA'.out kk)
            replace TR' := Lib.hid (row_below TR'.out kk)
            replace UA0 := Lib.hid (row_below UA0.out kk)
            replace UR0 := Lib.hid (row_below UR0.out kk)
            replace HX7 := Lib.hid (HX7.out.below kk)
            replace Hru := Lib.hid (Hru.out.below kk)
            replace HX9 := Lib.hid (HX9.out.below kk)
            replace Hrs := Lib.hid (Hrs.out.below kk)
            replace HX11 := Lib.hid (HX11.out.below kk)
            replace Hrsx := Lib.hid (Hrsx.out.below kk)
            replace Hrt := Lib.hid (Hrt.out.below kk)
            replace HX13 := Lib.hid (HX13.out.below kk)
            clear c1 kk x0 y0 z0 x1 y1 z1 x2 y2 z2 x3 y3 z3 x4 y4 z4
            have y0 := HX9.out.get (k := 0) (v := .slice Aru ru.props.length qru1) rfl
            have y1 := HX9.out.get (k := 1) (v := .int .i64 ru.ins) rfl
            have y2 := HX9.out.get (k := 2) (v := .int .i64 ru.move) rfl
            have y3 := HX9.out.get (k := 3) (v := .slice Bru ru.dels.length qru2) rfl
            have y4 := HX9.out.get (k := 4) (v := .slice Cru ru.lays.length qru3) rfl
            have z0 := HX13.out.get (k := 0) (v := .slice Art rt.props.length qrt1) rfl
            have z1 := HX13.out.get (k := 1) (v := .int .i64 rt.ins) rfl
            have z2 := HX13.out.get (k := 2) (v := .int .i64 rt.move) rfl
            have z3 := HX13.out.get (k := 3) (v := .slice Brt rt.dels.length qrt2) rfl
            have z4 := HX13.out.get (k := 4) (v := .slice Crt rt.lays.length qrt3) rfl
            have c1 := eqhead_any rt ru (by rw [EQy.out]; exact HMU.out) HMU.out _ _ we ⟨Art, Brt, Crt, _, qrt1, _, qrt2, _, qrt3, rfl, Hrt.out.at⟩ ⟨Aru, Bru, Cru, _, qru1, _, qru2, _, qru3, rfl, Hru.out.at⟩
            rw [decide_eq_true EQy.out] at c1
            unfold hdV at c1
            go_wp2_with fail
            (with_reducible refine c1.mono ?_)
            rintro e wf ⟨rfl, kk⟩
            replace KB := Lib.hid (KB.out.trans (kk.mono (by have := KB.out.size; have := HBB.out; omega)))
            replace HX3 := Lib.hid (HX3.out.below kk)
            replace HX4 := Lib.hid (HX4.out.below kk)
            replace HX5 := Lib.hid (HX5.out.below kk)
            replace HO := Lib.hid (HO.out.below kk)
            replace RA := Lib.hid (row_below RA.out kk)
            replace RR := Lib.hid (row_below RR.out kk)
            replace TA' := Lib.hid (row_below TA'.out kk)
            replace TR' := Lib.hid (row_below TR'.out kk)
            replace UA0 := Lib.hid (row_below UA0.out kk)
            replace UR0 := Lib.hid (row_below UR0.out kk)
            replace HX7 := Lib.hid (HX7.out.below kk)
            replace Hru := Lib.hid (Hru.out.below kk)
            replace HX9 := Lib.hid (HX9.out.below kk)
            replace Hrs := Lib.hid (Hrs.out.below kk)
            replace HX11 := Lib.hid (HX11.out.below kk)
            replace Hrsx := Lib.hid (Hrsx.out.below kk)
            replace Hrt := Lib.hid (Hrt.out.below kk)
            replace HX13 := Lib.hid (HX13.out.below kk)
            clear c1 kk y0 z0 y1 z1 y2 z2 y3 z3 y4 z4
            go_wp2
            go_ret
            exact ⟨by simp, by rw [HBB.out]; exact KB.out⟩
      case true =>
        have hz := TW1.out.1 GS.out
        have HGUx := Lib.hid (show gU = true from GU.out.symm.trans hz.1)
        have EQx := Lib.hid (show rs = ru from Ers.out.trans ((if_pos GS.out).trans (hz.2.symm.trans Eru.out.symm)))
        clear hz
        go_upto_region 9 with fail
        have y0 := HX3.out.get (k := 0) (v := .slice A1 o.props.length c1) rfl
        have y1 := HX3.out.get (k := 1) (v := .int .i64 o.ins) rfl
        have y2 := HX3.out.get (k := 2) (v := .int .i64 o.move) rfl
        have y3 := HX3.out.get (k := 3) (v := .slice B1 o.dels.length c2) rfl
        have y4 := HX3.out.get (k := 4) (v := .slice C1 o.lays.length c3) rfl
        have z0 := HX5.out.get (k := 0) (v := .slice Q TA.length d) rfl
        have z1 := HX5.out.get (k := 1) (v := .slice Q' TR.length d') rfl
        have cc := Decide_any o HOO.out HM.out HP9.out A1 B1 C1 _ c1 _ c2 _ c3 TA TR _ _ d d' rfl rfl HK2.out.1.2 HK2.out.2.1.2 (by omega) (by omega) Q Q' w7 HO.out.at (own_nsA TA'.out rfl) (own_nsA TR'.out rfl)
        unfold DRet hdV at cc
        go_wp2_with fail
        refine cc.mono ?_
        rintro e w7t ⟨rt, Art, Brt, Crt, qrt1, qrt2, qrt3, ert, rfl, hrt, kk⟩
        replace KB := Lib.hid (KB.out.trans (kk.mono (by have := KB.out.size; have := HBB.out; omega)))
        replace HX3 := Lib.hid (HX3.out.below kk)
        replace HX4 := Lib.hid (HX4.out.below kk)
        replace HX5 := Lib.hid (HX5.out.below kk)
        replace HO := Lib.hid (HO.out.below kk)
        replace RA := Lib.hid (row_below RA.out kk)
        replace RR := Lib.hid (row_below RR.out kk)
        replace TA' := Lib.hid (row_below TA'.out kk)
        replace TR' := Lib.hid (row_below TR'.out kk)
        replace UA0 := Lib.hid (row_below UA0.out kk)
        replace UR0 := Lib.hid (row_below UR0.out kk)
        replace HX7 := Lib.hid (HX7.out.below kk)
        replace Hru := Lib.hid (Hru.out.below kk)
        replace HX9 := Lib.hid (HX9.out.below kk)
        replace Hrs := Lib.hid (Hrs.out.below kk)
        replace HX11 := Lib.hid (HX11.out.below kk)
        have Hrt := Lib.hid hrt
        have Ert := Lib.hid (show rt = resH (fun x => decide (x ∈ TA)) (fun x => decide (x ∈ TR)) o from ert)
        clear cc kk hrt ert y0 y1 y2 y3 y4 z0 z1
        obtain ⟨gT, hgT⟩ : ∃ g, goneH (fun x => decide (x ∈ TA)) (fun x => decide (x ∈ TR)) o = g := ⟨_, rfl⟩
        rw [hgT]
        have GT := Lib.hid hgT
        clear hgT
        have lbb13 : b < w7t.heap.size := HX3.out.lt
        have lbp1b13 : b + 1 < w7t.heap.size := HX4.out.lt
        have lbp2b13 : b + 2 < w7t.heap.size := HX5.out.lt
        have lb7b13 : b7 < w7t.heap.size := HX7.out.lt
        have lb9b13 : b9 < w7t.heap.size := HX9.out.lt
        have lb11b13 : b11 < w7t.heap.size := HX11.out.lt
        have ba := (Below.refl w7t.heap.size w7t).alloc (Nat.le_refl _) (.cells #[.slice Art rt.props.length qrt1, .int .i64 rt.ins, .int .i64 rt.move, .slice Brt rt.dels.length qrt2, .slice Crt rt.lays.length qrt3] 28)
        replace KB := Lib.hid (KB.out.trans (ba.mono (by have := KB.out.size; have := HBB.out; omega)))
        replace HX3 := Lib.hid (HX3.out.below ba)
        replace HX4 := Lib.hid (HX4.out.below ba)
        replace HX5 := Lib.hid (HX5.out.below ba)
        replace HO := Lib.hid (HO.out.below ba)
        replace RA := Lib.hid (row_below RA.out ba)
        replace RR := Lib.hid (row_below RR.out ba)
        replace TA' := Lib.hid (row_below TA'.out ba)
        replace TR' := Lib.hid (row_below TR'.out ba)
        replace UA0 := Lib.hid (row_below UA0.out ba)
        replace UR0 := Lib.hid (row_below UR0.out ba)
        replace HX7 := Lib.hid (HX7.out.below ba)
        replace Hru := Lib.hid (Hru.out.below ba)
        replace HX9 := Lib.hid (HX9.out.below ba)
        replace Hrs := Lib.hid (Hrs.out.below ba)
        replace HX11 := Lib.hid (HX11.out.below ba)
        replace Hrt := Lib.hid (Hrt.out.below ba)
        have HX13 := Lib.hid (ObjAt.new w7t #[.slice Art rt.props.length qrt1, .int .i64 rt.ins, .int .i64 rt.move, .slice Brt rt.dels.length qrt2, .slice Crt rt.lays.length qrt3] 28)
        clear ba
        go_upto_region 10 with fail
        obtain ⟨b13, hb13⟩ : ∃ x, w7t.heap.size = x := ⟨_, rfl⟩
        rw [hb13] at HX13 lbb13 lbp1b13 lbp2b13 lb7b13 lb9b13 lb11b13 ⊢
        have gb13 : w7t.heap.size = b13 := hb13
        generalize w7t.alloc (.cells #[.slice Art rt.props.length qrt1, .int .i64 rt.ins, .int .i64 rt.move, .slice Brt rt.dels.length qrt2, .slice Crt rt.lays.length qrt3] 28) = w7u at HX13 KB HX3 HX4 HX5 HO RA RR TA' TR' UA0 UR0 HX7 Hru HX9 Hrs HX11 Hrt ⊢
        clear hb13
        cases gT
        case false =>
          have hz := TW2.out.2 GT.out
          have hk := Ert.out.trans (if_neg (by rw [GT.out]; decide))
          have HOk := Lib.hid (show Ord rt by rw [hk]; exact (kept_dec HOO.out).ord)
          have HLk := Lib.hid (show rt.props.length ≤ 100 ∧ rt.dels.length ≤ 20 ∧ rt.lays.length ≤ 80 by
            have k := kept_lens (a := fun x => decide (x ∈ TA)) (r := fun x => decide (x ∈ TR)) HOO.out
            have l0 := HL0.out
            rw [hk]; refine ⟨?_, ?_, ?_⟩ <;> omega)
          have HZ := Lib.hid hz
          have HKK := Lib.hid hk
          clear hz hk
          go_upto_region 11 with fail
          have y0 := HX13.out.get (k := 0) (v := .slice Art rt.props.length qrt1) rfl
          have y1 := HX13.out.get (k := 1) (v := .int .i64 rt.ins) rfl
          have y2 := HX13.out.get (k := 2) (v := .int .i64 rt.move) rfl
          have y3 := HX13.out.get (k := 3) (v := .slice Brt rt.dels.length qrt2) rfl
          have y4 := HX13.out.get (k := 4) (v := .slice Crt rt.lays.length qrt3) rfl
          have z0 := HX4.out.get (k := 0) (v := .slice P SA.length c) rfl
          have z1 := HX4.out.get (k := 1) (v := .slice P' SR.length c') rfl
          have cc := Decide_any rt HOk.out (show Mod rt from ⟨by have := HLk.out; omega, by have := HLk.out; omega, by have := HLk.out; omega⟩) (by have := HLk.out; omega) Art Brt Crt _ qrt1 _ qrt2 _ qrt3 SA SR _ _ c c' rfl rfl HK1.out.1.2 HK1.out.2.1.2 (by omega) (by omega) P P' w7u Hrt.out.at (own_nsA RA.out rfl) (own_nsA RR.out rfl)
          unfold DRet hdV at cc
          go_wp2_with fail
          refine cc.mono ?_
          rintro e w7ux ⟨rtx, Artx, Brtx, Crtx, qrtx1, qrtx2, qrtx3, ertx, rfl, hrtx, kk⟩
          replace KB := Lib.hid (KB.out.trans (kk.mono (by have := KB.out.size; have := HBB.out; omega)))
          replace HX3 := Lib.hid (HX3.out.below kk)
          replace HX4 := Lib.hid (HX4.out.below kk)
          replace HX5 := Lib.hid (HX5.out.below kk)
          replace HO := Lib.hid (HO.out.below kk)
          replace RA := Lib.hid (row_below RA.out kk)
          replace RR := Lib.hid (row_below RR.out kk)
          replace TA' := Lib.hid (row_below TA'.out kk)
          replace TR' := Lib.hid (row_below TR'.out kk)
          replace UA0 := Lib.hid (row_below UA0.out kk)
          replace UR0 := Lib.hid (row_below UR0.out kk)
          replace HX7 := Lib.hid (HX7.out.below kk)
          replace Hru := Lib.hid (Hru.out.below kk)
          replace HX9 := Lib.hid (HX9.out.below kk)
          replace Hrs := Lib.hid (Hrs.out.below kk)
          replace HX11 := Lib.hid (HX11.out.below kk)
          replace Hrt := Lib.hid (Hrt.out.below kk)
          replace HX13 := Lib.hid (HX13.out.below kk)
          have Hrtx := Lib.hid hrtx
          have Ertx := Lib.hid (show rtx = resH (fun x => decide (x ∈ SA)) (fun x => decide (x ∈ SR)) rt from ertx)
          clear cc kk hrtx ertx y0 y1 y2 y3 y4 z0 z1
          have hg : goneH (fun x => decide (x ∈ SA)) (fun x => decide (x ∈ SR)) rt = gU := by rw [HKK.out]; exact HZ.out.1.trans GU.out
          rw [hg]
          have EQy := Lib.hid (show rtx = ru from Ertx.out.trans (by rw [HKK.out]; exact HZ.out.2.trans Eru.out.symm))
          clear hg
          have x0 := HX13.out.get (k := 0) (v := .slice Art rt.props.length qrt1) rfl
          have x1 := HX13.out.get (k := 1) (v := .int .i64 rt.ins) rfl
          have x2 := HX13.out.get (k := 2) (v := .int .i64 rt.move) rfl
          have x3 := HX13.out.get (k := 3) (v := .slice Brt rt.dels.length qrt2) rfl
          have x4 := HX13.out.get (k := 4) (v := .slice Crt rt.lays.length qrt3) rfl
          have xf0 := HX13.out.frozen 0
          have xf1 := HX13.out.frozen 1
          have xf2 := HX13.out.frozen 2
          have xf3 := HX13.out.frozen 3
          have xf4 := HX13.out.frozen 4
          go_upto_region 12 with fail
          replace KB := Lib.hid (below_set5 (k := b13) (u0 := .slice Artx rtx.props.length qrtx1) (u1 := .int .i64 rtx.ins) (u2 := .int .i64 rtx.move) (u3 := .slice Brtx rtx.dels.length qrtx2) (u4 := .slice Crtx rtx.lays.length qrtx3) KB.out (by omega))
          replace HX3 := Lib.hid (obj_set5 (k := b13) (u0 := .slice Artx rtx.props.length qrtx1) (u1 := .int .i64 rtx.ins) (u2 := .int .i64 rtx.move) (u3 := .slice Brtx rtx.dels.length qrtx2) (u4 := .slice Crtx rtx.lays.length qrtx3) HX3.out (by omega))
          replace HX4 := Lib.hid (obj_set5 (k := b13) (u0 := .slice Artx rtx.props.length qrtx1) (u1 := .int .i64 rtx.ins) (u2 := .int .i64 rtx.move) (u3 := .slice Brtx rtx.dels.length qrtx2) (u4 := .slice Crtx rtx.lays.length qrtx3) HX4.out (by omega))
          replace HX5 := Lib.hid (obj_set5 (k := b13) (u0 := .slice Artx rtx.props.length qrtx1) (u1 := .int .i64 rtx.ins) (u2 := .int .i64 rtx.move) (u3 := .slice Brtx rtx.dels.length qrtx2) (u4 := .slice Crtx rtx.lays.length qrtx3) HX5.out (by omega))
          replace HO := Lib.hid (hown_set5 (k := b13) (u0 := .slice Artx rtx.props.length qrtx1) (u1 := .int .i64 rtx.ins) (u2 := .int .i64 rtx.move) (u3 := .slice Brtx rtx.dels.length qrtx2) (u4 := .slice Crtx rtx.lays.length qrtx3) HO.out HX13.out (by decide) (by decide) (by decide))
          replace RA := Lib.hid (row_set5 (k := b13) (u0 := .slice Artx rtx.props.length qrtx1) (u1 := .int .i64 rtx.ins) (u2 := .int .i64 rtx.move) (u3 := .slice Brtx rtx.dels.length qrtx2) (u4 := .slice Crtx rtx.lays.length qrtx3) RA.out HX13.out (by decide))
          replace RR := Lib.hid (row_set5 (k := b13) (u0 := .slice Artx rtx.props.length qrtx1) (u1 := .int .i64 rtx.ins) (u2 := .int .i64 rtx.move) (u3 := .slice Brtx rtx.dels.length qrtx2) (u4 := .slice Crtx rtx.lays.length qrtx3) RR.out HX13.out (by decide))
          replace TA' := Lib.hid (row_set5 (k := b13) (u0 := .slice Artx rtx.props.length qrtx1) (u1 := .int .i64 rtx.ins) (u2 := .int .i64 rtx.move) (u3 := .slice Brtx rtx.dels.length qrtx2) (u4 := .slice Crtx rtx.lays.length qrtx3) TA'.out HX13.out (by decide))
          replace TR' := Lib.hid (row_set5 (k := b13) (u0 := .slice Artx rtx.props.length qrtx1) (u1 := .int .i64 rtx.ins) (u2 := .int .i64 rtx.move) (u3 := .slice Brtx rtx.dels.length qrtx2) (u4 := .slice Crtx rtx.lays.length qrtx3) TR'.out HX13.out (by decide))
          replace UA0 := Lib.hid (row_set5 (k := b13) (u0 := .slice Artx rtx.props.length qrtx1) (u1 := .int .i64 rtx.ins) (u2 := .int .i64 rtx.move) (u3 := .slice Brtx rtx.dels.length qrtx2) (u4 := .slice Crtx rtx.lays.length qrtx3) UA0.out HX13.out (by decide))
          replace UR0 := Lib.hid (row_set5 (k := b13) (u0 := .slice Artx rtx.props.length qrtx1) (u1 := .int .i64 rtx.ins) (u2 := .int .i64 rtx.move) (u3 := .slice Brtx rtx.dels.length qrtx2) (u4 := .slice Crtx rtx.lays.length qrtx3) UR0.out HX13.out (by decide))
          replace HX7 := Lib.hid (obj_set5 (k := b13) (u0 := .slice Artx rtx.props.length qrtx1) (u1 := .int .i64 rtx.ins) (u2 := .int .i64 rtx.move) (u3 := .slice Brtx rtx.dels.length qrtx2) (u4 := .slice Crtx rtx.lays.length qrtx3) HX7.out (by omega))
          replace Hru := Lib.hid (hown_set5 (k := b13) (u0 := .slice Artx rtx.props.length qrtx1) (u1 := .int .i64 rtx.ins) (u2 := .int .i64 rtx.move) (u3 := .slice Brtx rtx.dels.length qrtx2) (u4 := .slice Crtx rtx.lays.length qrtx3) Hru.out HX13.out (by decide) (by decide) (by decide))
          replace HX9 := Lib.hid (obj_set5 (k := b13) (u0 := .slice Artx rtx.props.length qrtx1) (u1 := .int .i64 rtx.ins) (u2 := .int .i64 rtx.move) (u3 := .slice Brtx rtx.dels.length qrtx2) (u4 := .slice Crtx rtx.lays.length qrtx3) HX9.out (by omega))
          replace Hrs := Lib.hid (hown_set5 (k := b13) (u0 := .slice Artx rtx.props.length qrtx1) (u1 := .int .i64 rtx.ins) (u2 := .int .i64 rtx.move) (u3 := .slice Brtx rtx.dels.length qrtx2) (u4 := .slice Crtx rtx.lays.length qrtx3) Hrs.out HX13.out (by decide) (by decide) (by decide))
          replace HX11 := Lib.hid (obj_set5 (k := b13) (u0 := .slice Artx rtx.props.length qrtx1) (u1 := .int .i64 rtx.ins) (u2 := .int .i64 rtx.move) (u3 := .slice Brtx rtx.dels.length qrtx2) (u4 := .slice Crtx rtx.lays.length qrtx3) HX11.out (by omega))
          replace Hrt := Lib.hid (hown_set5 (k := b13) (u0 := .slice Artx rtx.props.length qrtx1) (u1 := .int .i64 rtx.ins) (u2 := .int .i64 rtx.move) (u3 := .slice Brtx rtx.dels.length qrtx2) (u4 := .slice Crtx rtx.lays.length qrtx3) Hrt.out HX13.out (by decide) (by decide) (by decide))
          replace Hrtx := Lib.hid (hown_set5 (k := b13) (u0 := .slice Artx rtx.props.length qrtx1) (u1 := .int .i64 rtx.ins) (u2 := .int .i64 rtx.move) (u3 := .slice Brtx rtx.dels.length qrtx2) (u4 := .slice Crtx rtx.lays.length qrtx3) Hrtx.out HX13.out (by decide) (by decide) (by decide))
          replace HX13 := Lib.hid (own_set5 (u0 := .slice Artx rtx.props.length qrtx1) (u1 := .int .i64 rtx.ins) (u2 := .int .i64 rtx.move) (u3 := .slice Brtx rtx.dels.length qrtx2) (u4 := .slice Crtx rtx.lays.length qrtx3) HX13.out)
          obtain ⟨w7uy, hw7uy⟩ : ∃ W, set5 w7ux b13 (.slice Artx rtx.props.length qrtx1) (.int .i64 rtx.ins) (.int .i64 rtx.move) (.slice Brtx rtx.dels.length qrtx2) (.slice Crtx rtx.lays.length qrtx3) = W := ⟨_, rfl⟩
          rw [hw7uy] at KB HX3 HX4 HX5 HO RA RR TA' TR' UA0 UR0 HX7 Hru HX9 Hrs HX11 Hrt HX13 Hrtx
          unfold set5 at hw7uy
          rw [hw7uy]
          clear hw7uy x0 xf0 x1 xf1 x2 xf2 x3 xf3 x4 xf4
          cases gU
          case false =>
            exact absurd HGUx.out (by decide)
          case true =>
            have x0 := HX11.out.get (k := 0) (v := .slice Ars rs.props.length qrs1) rfl
            have x1 := HX11.out.get (k := 1) (v := .int .i64 rs.ins) rfl
            have x2 := HX11.out.get (k := 2) (v := .int .i64 rs.move) rfl
            have x3 := HX11.out.get (k := 3) (v := .slice Brs rs.dels.length qrs2) rfl
            have x4 := HX11.out.get (k := 4) (v := .slice Crs rs.lays.length qrs3) rfl
            have y0 := HX9.out.get (k := 0) (v := .slice Aru ru.props.length qru1) rfl
            have y1 := HX9.out.get (k := 1) (v := .int .i64 ru.ins) rfl
            have y2 := HX9.out.get (k := 2) (v := .int .i64 ru.move) rfl
            have y3 := HX9.out.get (k := 3) (v := .slice Bru ru.dels.length qru2) rfl
            have y4 := HX9.out.get (k := 4) (v := .slice Cru ru.lays.length qru3) rfl
            have z0 := HX13.out.get (k := 0) (v := .slice Artx rtx.props.length qrtx1) rfl
            have z1 := HX13.out.get (k := 1) (v := .int .i64 rtx.ins) rfl
            have z2 := HX13.out.get (k := 2) (v := .int .i64 rtx.move) rfl
            have z3 := HX13.out.get (k := 3) (v := .slice Brtx rtx.dels.length qrtx2) rfl
            have z4 := HX13.out.get (k := 4) (v := .slice Crtx rtx.lays.length qrtx3) rfl
            have c1 := eqhead_any rs ru (by rw [EQx.out]; exact HMU.out) HMU.out _ _ w7uy ⟨Ars, Brs, Crs, _, qrs1, _, qrs2, _, qrs3, rfl, Hrs.out.at⟩ ⟨Aru, Bru, Cru, _, qru1, _, qru2, _, qru3, rfl, Hru.out.at⟩
            rw [decide_eq_true EQx.out] at c1
            unfold hdV at c1
            go_wp2_with fail
            (with_reducible refine c1.mono ?_)
            rintro e we ⟨rfl, kk⟩
            replace KB := Lib.hid (KB.out.trans (kk.mono (by have := KB.out.size; have := HBB.out; omega)))
            replace HX3 := Lib.hid (HX3.out.below kk)
            replace HX4 := Lib.hid (HX4.out.below kk)
            replace HX5 := Lib.hid (HX5.out.below kk)
            replace HO := Lib.hid (HO.out.below kk)
            replace RA := Lib.hid (row_below RA.out kk)
            replace RR := Lib.hid (row_below RR.out kk)
            replace TA' := Lib.hid (row_below TA'.out kk)
            replace TR' := Lib.hid (row_below TR'.out kk)
            replace UA0 := Lib.hid (row_below UA0.out kk)
            replace UR0 := Lib.hid (row_below UR0.out kk)
            replace HX7 := Lib.hid (HX7.out.below kk)
            replace Hru := Lib.hid (Hru.out.below kk)
            replace HX9 := Lib.hid (HX9.out.below kk)
            replace Hrs := Lib.hid (Hrs.out.below kk)
            replace HX11 := Lib.hid (HX11.out.below kk)
            replace Hrt := Lib.hid (Hrt.out.below kk)
            replace HX13 := Lib.hid (HX13.out.below kk)
            replace Hrtx := Lib.hid (Hrtx.out.below kk)
            clear c1 kk x0 y0 z0 x1 y1 z1 x2 y2 z2 x3 y3 z3 x4 y4 z4
            have y0 := HX9.out.get (k := 0) (v := .slice Aru ru.props.length qru1) rfl
            have y1 := HX9.out.get (k := 1) (v := .int .i64 ru.ins) rfl
            have y2 := HX9.out.get (k := 2) (v := .int .i64 ru.move) rfl
            have y3 := HX9.out.get (k := 3) (v := .slice Bru ru.dels.length qru2) rfl
            have y4 := HX9.out.get (k := 4) (v := .slice Cru ru.lays.length qru3) rfl
            have z0 := HX13.out.get (k := 0) (v := .slice Artx rtx.props.length qrtx1) rfl
            have z1 := HX13.out.get (k := 1) (v := .int .i64 rtx.ins) rfl
            have z2 := HX13.out.get (k := 2) (v := .int .i64 rtx.move) rfl
            have z3 := HX13.out.get (k := 3) (v := .slice Brtx rtx.dels.length qrtx2) rfl
            have z4 := HX13.out.get (k := 4) (v := .slice Crtx rtx.lays.length qrtx3) rfl
            have c1 := eqhead_any rtx ru (by rw [EQy.out]; exact HMU.out) HMU.out _ _ we ⟨Artx, Brtx, Crtx, _, qrtx1, _, qrtx2, _, qrtx3, rfl, Hrtx.out.at⟩ ⟨Aru, Bru, Cru, _, qru1, _, qru2, _, qru3, rfl, Hru.out.at⟩
            rw [decide_eq_true EQy.out] at c1
            unfold hdV at c1
            go_wp2_with fail
            (with_reducible refine c1.mono ?_)
            rintro e wf ⟨rfl, kk⟩
            replace KB := Lib.hid (KB.out.trans (kk.mono (by have := KB.out.size; have := HBB.out; omega)))
            replace HX3 := Lib.hid (HX3.out.below kk)
            replace HX4 := Lib.hid (HX4.out.below kk)
            replace HX5 := Lib.hid (HX5.out.below kk)
            replace HO := Lib.hid (HO.out.below kk)
            replace RA := Lib.hid (row_below RA.out kk)
            replace RR := Lib.hid (row_below RR.out kk)
            replace TA' := Lib.hid (row_below TA'.out kk)
            replace TR' := Lib.hid (row_below TR'.out kk)
            replace UA0 := Lib.hid (row_below UA0.out kk)
            replace UR0 := Lib.hid (row_below UR0.out kk)
            replace HX7 := Lib.hid (HX7.out.below kk)
            replace Hru := Lib.hid (Hru.out.below kk)
            replace HX9 := Lib.hid (HX9.out.below kk)
            replace Hrs := Lib.hid (Hrs.out.below kk)
            replace HX11 := Lib.hid (HX11.out.below kk)
            replace Hrt := Lib.hid (Hrt.out.below kk)
            replace HX13 := Lib.hid (HX13.out.below kk)
            replace Hrtx := Lib.hid (Hrtx.out.below kk)
            clear c1 kk y0 z0 y1 z1 y2 z2 y3 z3 y4 z4
            go_wp2
            go_ret
            exact ⟨by simp, by rw [HBB.out]; exact KB.out⟩
        case true =>
          have hz := TW2.out.1 GT.out
          have HGUy := Lib.hid (show gU = true from GU.out.symm.trans hz.1)
          have EQy := Lib.hid (show rt = ru from Ert.out.trans ((if_pos GT.out).trans (hz.2.symm.trans Eru.out.symm)))
          clear hz
          go_upto_region 12 with fail
          cases gU
          case false =>
            exact absurd HGUy.out (by decide)
          case true =>
            have x0 := HX11.out.get (k := 0) (v := .slice Ars rs.props.length qrs1) rfl
            have x1 := HX11.out.get (k := 1) (v := .int .i64 rs.ins) rfl
            have x2 := HX11.out.get (k := 2) (v := .int .i64 rs.move) rfl
            have x3 := HX11.out.get (k := 3) (v := .slice Brs rs.dels.length qrs2) rfl
            have x4 := HX11.out.get (k := 4) (v := .slice Crs rs.lays.length qrs3) rfl
            have y0 := HX9.out.get (k := 0) (v := .slice Aru ru.props.length qru1) rfl
            have y1 := HX9.out.get (k := 1) (v := .int .i64 ru.ins) rfl
            have y2 := HX9.out.get (k := 2) (v := .int .i64 ru.move) rfl
            have y3 := HX9.out.get (k := 3) (v := .slice Bru ru.dels.length qru2) rfl
            have y4 := HX9.out.get (k := 4) (v := .slice Cru ru.lays.length qru3) rfl
            have z0 := HX13.out.get (k := 0) (v := .slice Art rt.props.length qrt1) rfl
            have z1 := HX13.out.get (k := 1) (v := .int .i64 rt.ins) rfl
            have z2 := HX13.out.get (k := 2) (v := .int .i64 rt.move) rfl
            have z3 := HX13.out.get (k := 3) (v := .slice Brt rt.dels.length qrt2) rfl
            have z4 := HX13.out.get (k := 4) (v := .slice Crt rt.lays.length qrt3) rfl
            have c1 := eqhead_any rs ru (by rw [EQx.out]; exact HMU.out) HMU.out _ _ w7u ⟨Ars, Brs, Crs, _, qrs1, _, qrs2, _, qrs3, rfl, Hrs.out.at⟩ ⟨Aru, Bru, Cru, _, qru1, _, qru2, _, qru3, rfl, Hru.out.at⟩
            rw [decide_eq_true EQx.out] at c1
            unfold hdV at c1
            go_wp2_with fail
            (with_reducible refine c1.mono ?_)
            rintro e we ⟨rfl, kk⟩
            replace KB := Lib.hid (KB.out.trans (kk.mono (by have := KB.out.size; have := HBB.out; omega)))
            replace HX3 := Lib.hid (HX3.out.below kk)
            replace HX4 := Lib.hid (HX4.out.below kk)
            replace HX5 := Lib.hid (HX5.out.below kk)
            replace HO := Lib.hid (HO.out.below kk)
            replace RA := Lib.hid (row_below RA.out kk)
            replace RR := Lib.hid (row_below RR.out kk)
            replace TA' := Lib.hid (row_below TA'.out kk)
            replace TR' := Lib.hid (row_below TR'.out kk)
            replace UA0 := Lib.hid (row_below UA0.out kk)
            replace UR0 := Lib.hid (row_below UR0.out kk)
            replace HX7 := Lib.hid (HX7.out.below kk)
            replace Hru := Lib.hid (Hru.out.below kk)
            replace HX9 := Lib.hid (HX9.out.below kk)
            replace Hrs := Lib.hid (Hrs.out.below kk)
            replace HX11 := Lib.hid (HX11.out.below kk)
            replace Hrt := Lib.hid (Hrt.out.below kk)
            replace HX13 := Lib.hid (HX13.out.below kk)
            clear c1 kk x0 y0 z0 x1 y1 z1 x2 y2 z2 x3 y3 z3 x4 y4 z4
            have y0 := HX9.out.get (k := 0) (v := .slice Aru ru.props.length qru1) rfl
            have y1 := HX9.out.get (k := 1) (v := .int .i64 ru.ins) rfl
            have y2 := HX9.out.get (k := 2) (v := .int .i64 ru.move) rfl
            have y3 := HX9.out.get (k := 3) (v := .slice Bru ru.dels.length qru2) rfl
            have y4 := HX9.out.get (k := 4) (v := .slice Cru ru.lays.length qru3) rfl
            have z0 := HX13.out.get (k := 0) (v := .slice Art rt.props.length qrt1) rfl
            have z1 := HX13.out.get (k := 1) (v := .int .i64 rt.ins) rfl
            have z2 := HX13.out.get (k := 2) (v := .int .i64 rt.move) rfl
            have z3 := HX13.out.get (k := 3) (v := .slice Brt rt.dels.length qrt2) rfl
            have z4 := HX13.out.get (k := 4) (v := .slice Crt rt.lays.length qrt3) rfl
            have c1 := eqhead_any rt ru (by rw [EQy.out]; exact HMU.out) HMU.out _ _ we ⟨Art, Brt, Crt, _, qrt1, _, qrt2, _, qrt3, rfl, Hrt.out.at⟩ ⟨Aru, Bru, Cru, _, qru1, _, qru2, _, qru3, rfl, Hru.out.at⟩
            rw [decide_eq_true EQy.out] at c1
            unfold hdV at c1
            go_wp2_with fail
            (with_reducible refine c1.mono ?_)
            rintro e wf ⟨rfl, kk⟩
            replace KB := Lib.hid (KB.out.trans (kk.mono (by have := KB.out.size; have := HBB.out; omega)))
            replace HX3 := Lib.hid (HX3.out.below kk)
            replace HX4 := Lib.hid (HX4.out.below kk)
            replace HX5 := Lib.hid (HX5.out.below kk)
            replace HO := Lib.hid (HO.out.below kk)
            replace RA := Lib.hid (row_below RA.out kk)
            replace RR := Lib.hid (row_below RR.out kk)
            replace TA' := Lib.hid (row_below TA'.out kk)
            replace TR' := Lib.hid (row_below TR'.out kk)
            replace UA0 := Lib.hid (row_below UA0.out kk)
            replace UR0 := Lib.hid (row_below UR0.out kk)
            replace HX7 := Lib.hid (HX7.out.below kk)
            replace Hru := Lib.hid (Hru.out.below kk)
            replace HX9 := Lib.hid (HX9.out.below kk)
            replace Hrs := Lib.hid (Hrs.out.below kk)
            replace HX11 := Lib.hid (HX11.out.below kk)
            replace Hrt := Lib.hid (Hrt.out.below kk)
            replace HX13 := Lib.hid (HX13.out.below kk)
            clear c1 kk y0 z0 y1 z1 y2 z2 y3 z3 y4 z4
            go_wp2
            go_ret
            exact ⟨by simp, by rw [HBB.out]; exact KB.out⟩
    · rw [ckD_two HUA.out HUR.out hz]
      clear hz
      have lbb7 : b < w1.heap.size := HX3.out.lt
      have lbp1b7 : b + 1 < w1.heap.size := HX4.out.lt
      have lbp2b7 : b + 2 < w1.heap.size := HX5.out.lt
      have ba := (Below.refl w1.heap.size w1).alloc (Nat.le_refl _) (.cells #[.slice none 0 0, .slice none 0 0] 31)
      replace KB := Lib.hid (KB.out.trans (ba.mono (by have := KB.out.size; have := HBB.out; omega)))
      replace HX3 := Lib.hid (HX3.out.below ba)
      replace HX4 := Lib.hid (HX4.out.below ba)
      replace HX5 := Lib.hid (HX5.out.below ba)
      replace HO := Lib.hid (HO.out.below ba)
      replace RA := Lib.hid (row_below RA.out ba)
      replace RR := Lib.hid (row_below RR.out ba)
      replace TA' := Lib.hid (row_below TA'.out ba)
      replace TR' := Lib.hid (row_below TR'.out ba)
      have HX7 := Lib.hid (ObjAt.new w1 #[.slice none 0 0, .slice none 0 0] 31)
      clear ba
      go_upto_region 3 with fail
      obtain ⟨b7, hb7⟩ : ∃ x, w1.heap.size = x := ⟨_, rfl⟩
      rw [hb7] at HX7 lbb7 lbp1b7 lbp2b7 ⊢
      have gb7 : w1.heap.size = b7 := hb7
      generalize w1.alloc (.cells #[.slice none 0 0, .slice none 0 0] 31) = w2 at HX7 KB HX3 HX4 HX5 HO RA RR TA' TR' ⊢
      clear hb7
      have cc := known_any w2
      go_wp2_with fail
      (with_reducible refine cc.mono ?_)
      rintro e w3 ⟨rfl, kk⟩
      replace KB := Lib.hid (KB.out.trans (kk.mono (by have := KB.out.size; have := HBB.out; omega)))
      replace HX3 := Lib.hid (HX3.out.below kk)
      replace HX4 := Lib.hid (HX4.out.below kk)
      replace HX5 := Lib.hid (HX5.out.below kk)
      replace HO := Lib.hid (HO.out.below kk)
      replace RA := Lib.hid (row_below RA.out kk)
      replace RR := Lib.hid (row_below RR.out kk)
      replace TA' := Lib.hid (row_below TA'.out kk)
      replace TR' := Lib.hid (row_below TR'.out kk)
      replace HX7 := Lib.hid (HX7.out.below kk)
      clear cc
      have cc := known_any w3
      go_wp2_with fail
      (with_reducible refine cc.mono ?_)
      rintro e w4 ⟨rfl, kk⟩
      replace KB := Lib.hid (KB.out.trans (kk.mono (by have := KB.out.size; have := HBB.out; omega)))
      replace HX3 := Lib.hid (HX3.out.below kk)
      replace HX4 := Lib.hid (HX4.out.below kk)
      replace HX5 := Lib.hid (HX5.out.below kk)
      replace HO := Lib.hid (HO.out.below kk)
      replace RA := Lib.hid (row_below RA.out kk)
      replace RR := Lib.hid (row_below RR.out kk)
      replace TA' := Lib.hid (row_below TA'.out kk)
      replace TR' := Lib.hid (row_below TR'.out kk)
      replace HX7 := Lib.hid (HX7.out.below kk)
      clear cc
      go_wp2
      go_ret
      exact ⟨by simp, by rw [HBB.out]; exact KB.out⟩
end Go.Proofs.Ytjhppkjngifibaa
