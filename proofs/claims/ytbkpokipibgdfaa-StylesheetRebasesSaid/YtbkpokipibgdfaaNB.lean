/- Layer 8: the texts H1. -/
import Derived.Test.YtbkpokipibgdfaaNA

/- Layer 7: the pairs of two lists, plainly; the program's iterator over them. -/
namespace Go.Proofs.Ytbkpokipibgdfaa
open Go.RowKit Go.Lib

attribute [local go_sem] Oper.semAt_some

abbrev Pr := Int × Int
abbrev Ch := Int × Int × Int × Bool × Bool
def pairs : List Pr → List Pr → List Ch
  | [], [] => []
  | x :: a, [] => (x.1, x.2, 0, true, false) :: pairs a []
  | [], y :: b => (y.1, 0, y.2, false, true) :: pairs [] b
  | x :: a, y :: b => if x.1 ≤ y.1 then (if y.1 = x.1 then (x.1, x.2, y.2, true, true) :: pairs a b else (x.1, x.2, 0, true, false) :: pairs a (y :: b)) else (y.1, 0, y.2, false, true) :: pairs (x :: a) b
termination_by a b => a.length + b.length
theorem pairs_nil : pairs [] [] = [] := by rw [pairs]
theorem pairs_left (x : Pr) (a : List Pr) : pairs (x :: a) [] = (x.1, x.2, 0, true, false) :: pairs a [] := by rw [pairs]
theorem pairs_right (y : Pr) (b : List Pr) : pairs [] (y :: b) = (y.1, 0, y.2, false, true) :: pairs [] b := by rw [pairs]
theorem pairs_both (x y : Pr) (a b : List Pr) (h : y.1 = x.1) : pairs (x :: a) (y :: b) = (x.1, x.2, y.2, true, true) :: pairs a b := by rw [pairs, if_pos (by omega), if_pos h]
theorem pairs_lt (x y : Pr) (a b : List Pr) (h : x.1 < y.1) : pairs (x :: a) (y :: b) = (x.1, x.2, 0, true, false) :: pairs a (y :: b) := by rw [pairs, if_pos (by omega), if_neg (by omega)]
theorem pairs_gt (x y : Pr) (a b : List Pr) (h : y.1 < x.1) : pairs (x :: a) (y :: b) = (y.1, 0, y.2, false, true) :: pairs (x :: a) b := by rw [pairs, if_neg (by omega)]

/-- Properties in memory. -/
def PrAt (w : World) (A : Option Addr) (l : List Pr) : Prop := l = [] ∨ ∃ g o, A = some ⟨g, o, none⟩ ∧ g < w.heap.size ∧
  ∀ k (h : k < l.length), w.cell? ⟨g, o + k * 2, none⟩ = some (.int .i64 l[k].1) ∧ w.cell? ⟨g, o + k * 2 + 1, none⟩ = some (.int .i64 l[k].2)
theorem PrAt.below {w w' : World} {A : Option Addr} {l : List Pr} (h : PrAt w A l) {n : Nat} (hb : Below n w w') (hn : w.heap.size ≤ n) : PrAt w' A l := by
  rcases h with h | ⟨g, o, h1, h2, h3⟩
  · exact .inl h
  · have hg := Nat.lt_of_lt_of_le h2 hn
    exact .inr ⟨g, o, h1, Nat.lt_of_lt_of_le h2 hb.size, fun k hk => ⟨(hb.cell (p := ⟨g, o + k * 2, none⟩) hg).trans (h3 k hk).1, (hb.cell (p := ⟨g, o + k * 2 + 1, none⟩) hg).trans (h3 k hk).2⟩⟩
theorem PrAt.head {w : World} {A : Option Addr} {x : Pr} {l : List Pr} (h : PrAt w A (x :: l)) : ∃ g o, A = some ⟨g, o, none⟩ ∧ g < w.heap.size ∧
    w.cell? ⟨g, o, none⟩ = some (.int .i64 x.1) ∧ w.cell? ⟨g, o + 1, none⟩ = some (.int .i64 x.2) ∧ PrAt w (some ⟨g, o + 2, none⟩) l := by
  rcases h with h | ⟨g, o, h1, h2, h3⟩
  · cases h
  · have h0 := h3 0 (by simp)
    simp only [Nat.zero_mul, Nat.add_zero, List.getElem_cons_zero] at h0
    refine ⟨g, o, h1, h2, h0.1, h0.2, .inr ⟨g, o + 2, rfl, h2, fun k hk => ?_⟩⟩
    have hs := h3 (k + 1) (by simpa using hk)
    simp only [List.getElem_cons_succ] at hs
    rw [show o + (k + 1) * 2 = o + 2 + k * 2 by omega] at hs
    exact hs
def chV (x : Ch) : Value := .agg #[.int .i64 x.1, .int .i64 x.2.1, .int .i64 x.2.2.1, .bool x.2.2.2.1, .bool x.2.2.2.2]
/-- No cells of the iterator's own. -/
def TZ (_ : TypeId) : Bool := false

/-- Behind pre, with ra and rb left. -/
def RestP (la lb : List Pr) (pre : List Ch) (ra rb : List Pr) : Prop := pairs la lb = pre ++ pairs ra rb
theorem RestP.step {la lb : List Pr} {pre : List Ch} {ra rb ra' rb' : List Pr} {x : Ch} (h : RestP la lb pre ra rb) (hx : pairs ra rb = x :: pairs ra' rb') : RestP la lb (pre ++ [x]) ra' rb' := by
  unfold RestP at *
  rw [h, hx, List.append_assoc]; rfl
theorem RestP.short {la lb : List Pr} {pre : List Ch} {ra rb : List Pr} {x : Ch} {t : List Ch} (h : RestP la lb pre ra rb) (hx : pairs ra rb = x :: t) : pre.length < (pairs la lb).length := by
  unfold RestP at h
  rw [h, hx, List.length_append, List.length_cons]; omega
theorem RestP.cutPre {la lb : List Pr} {pre : List Ch} {ra rb : List Pr} (h : RestP la lb pre ra rb) : pre <+: pairs la lb := ⟨_, Eq.symm h⟩
theorem RestP.end {la lb : List Pr} {pre : List Ch} (h : RestP la lb pre [] []) : pairs la lb = pre := by
  unfold RestP at h
  rw [h, pairs_nil, List.append_nil]
def lenOf : Value → Nat
  | .slice _ n _ => n
  | _ => 0
/-- How the iterator ends. -/
def PairPost (la lb : List Pr) (J Jx : List Ch → World → Prop) (e : Ending) (W' : World) : Prop :=
  (∃ v, e = .returned v) ∧ ((∃ xs, xs = pairs la lb ∧ J xs W') ∨ (∃ pre, pre <+: pairs la lb ∧ Jx pre W'))


section
variable {W : World} {b : Nat} {t : TypeId} {v0 v1 v2 v3 v4 : Value}
theorem ObjAt.e0 (h : ObjAt W b #[v0, v1, v2, v3, v4] t) : W.cell? ⟨b, 0, none⟩ = some v0 := h.get rfl
theorem ObjAt.e1 (h : ObjAt W b #[v0, v1, v2, v3, v4] t) : W.cell? ⟨b, 1, none⟩ = some v1 := h.get rfl
theorem ObjAt.e2 (h : ObjAt W b #[v0, v1, v2, v3, v4] t) : W.cell? ⟨b, 2, none⟩ = some v2 := h.get rfl
theorem ObjAt.e3 (h : ObjAt W b #[v0, v1, v2, v3, v4] t) : W.cell? ⟨b, 3, none⟩ = some v3 := h.get rfl
theorem ObjAt.e4 (h : ObjAt W b #[v0, v1, v2, v3, v4] t) : W.cell? ⟨b, 4, none⟩ = some v4 := h.get rfl
end
theorem ObjAt.set {W : World} {b : Nat} {c : Array Value} {t : TypeId} (h : ObjAt W b c t) (k : Nat) (v : Value) : ObjAt (W.setCell ⟨b, k, none⟩ v) b (c.modify k (fun _ => v)) t := by
  obtain ⟨hlt, hk⟩ := Array.getElem?_eq_some_iff.1 h
  show (W.heap.modify b _)[b]? = _
  rw [Array.getElem?_eq_getElem (by rw [Array.size_modify]; exact hlt), Array.getElem_modify_self, hk]
  rfl
theorem ObjAt.drewN {W : World} {b : Nat} {c : Array Value} {t : TypeId} (h : ObjAt W b c t) (n : Nat) : ObjAt (W.drewN n) b c t := h
theorem ObjAt.drew {W : World} {b : Nat} {c : Array Value} {t : TypeId} (h : ObjAt W b c t) : ObjAt W.drew b c t := h

attribute [local irreducible] wpStill in
set_option maxRecDepth 100000 in
set_option maxHeartbeats 8000000 in
theorem pairs_gen (n : Nat) (hn : 1 ≤ n) (L Ba Bb : Nat) (A B : Option Addr) (ca cb : Nat) (la lb : List Pr) (hla : la.length ≤ 1000) (hlb : lb.length ≤ 1000) (hca : la.length ≤ ca ∧ ca ≤ maxLen) (hcb : lb.length ≤ cb ∧ cb ≤ maxLen) (J Jx : List Ch → World → Prop) (n0 : Nat) (w0 W : World)
    (hn0 : w0.heap.size ≤ n0) (hPa : PrAt w0 A la) (hPb : PrAt w0 B lb) (hJ : AbT TZ W.heap.size J) (hG : ∀ pre W', J pre W' → Below n0 w0 W')
    (ha : Boxed W Ba 26 (.slice A la.length ca)) (hb : Boxed W Bb 26 (.slice B lb.length cb))
    (hY : ∀ pre x W1, J pre W1 → pre.length < (pairs la lb).length → pre ++ [x] <+: pairs la lb → YieldAt Fence.wide (n - 1) Try.prog L #[chV x] W1 fun e W' =>
      (e = .returned (.bool true) ∧ J (pre ++ [x]) W' ∧ Kpt TZ Ba W1 W') ∨ (e = .returned (.bool false) ∧ Jx (pre ++ [x]) W')) (h0 : J [] W) :
    CallsIn Fence.wide n Try.prog 93 #[.func (.yield L) #[] #[], .pointer (some ⟨Ba, 0, none⟩), .pointer (some ⟨Bb, 0, none⟩)] W (PairPost la lb J Jx) := by
  have JJ := Go.Lib.hid hJ
  have YY := Go.Lib.hid hY
  have GG := Go.Lib.hid hG
  have J0 := Go.Lib.hid h0
  have PA := Go.Lib.hid hPa
  have PB := Go.Lib.hid hPb
  have hac := ha.cell
  have hbc := hb.cell
  have hBa := ha.lt
  clear hJ hY hG h0 hPa hPb ha hb
  refine callsIn_of_wp Try.func93 rfl trivial ?_ rfl
  simp only [Try.ntmps93, List.size_toArray, List.length_cons, List.length_nil, Nat.reduceAdd, Nat.reduceSub, Array.replicate_succ, Array.replicate_zero, List.push_toArray, List.append_toArray, List.nil_append, List.cons_append]
  gi_wp2
  gi_region
  gi_wp2
  gi_loopw [4, 5] (fun s4 s5 wr => ∃ (ra rb : List Pr) (pre : List Ch) (Aa Ab : Option Addr) (cx cy : Nat), s4 = .slice Aa ra.length cx ∧ s5 = .slice Ab rb.length cy ∧ ra.length ≤ 1000 ∧ rb.length ≤ 1000 ∧ ra.length ≤ cx ∧ cx ≤ maxLen ∧ rb.length ≤ cy ∧ cy ≤ maxLen ∧
      Hid (PrAt w0 Aa ra) ∧ Hid (PrAt w0 Ab rb) ∧ Hid (RestP la lb pre ra rb) ∧ Hid (J pre wr) ∧ Ba < wr.heap.size) (fun s4 s5 _ => lenOf s4 + lenOf s5)
  case atStart => exact ⟨la, lb, [], A, B, ca, cb, rfl, rfl, hla, hlb, hca.1, hca.2, hcb.1, hcb.2, PA, PB, Go.Lib.hid rfl, Go.Lib.hid (JJ.out [] W _ none J0.out (grown_below (bdrew (Below.refl _ W) 1) rfl) (fun _ e => by cases e)), hBa⟩
  case round =>
    obtain ⟨ra, rb, pre, Aa, Ab, cx, cy, rfl, rfl, hra, hrb, hx1, hx2, hy1, hy2, HA, HB, R, HJ, hBw⟩ := hrel
    clear hca hcb hla hlb hac hbc PA PB
    cases ra with
    | nil =>
      cases rb with
      | nil =>
        gi_wp2
        go_end0
        exact ⟨⟨_, rfl⟩, .inl ⟨pre, R.out.end.symm, HJ.out⟩⟩
      | cons y rb =>
        obtain ⟨gb, ob, rfl, hgb, hb0, hb1, hb2⟩ := HB.out.head
        have HB2 := Go.Lib.hid hb2
        have hbwb := GG.out pre wr HJ.out
        have t0 := (hbwb.cell (p := ⟨gb, ob, none⟩) (Nat.lt_of_lt_of_le hgb hn0)).trans hb0
        have t1 := (hbwb.cell (p := ⟨gb, ob + 1, none⟩) (Nat.lt_of_lt_of_le hgb hn0)).trans hb1
        have hgv : gb < wr.heap.size := Nat.lt_of_lt_of_le hgb hbwb.size
        have hnb : ¬ gb = wr.heap.size := by omega
        have hnb2 : ¬ wr.heap.size = gb := by omega
        obtain ⟨k2, v2⟩ := y
        dsimp only at t0 t1
        clear hb0 hb1 hb2 hbwb
        have hpq := pairs_right (k2, v2) rb
        have HS := Go.Lib.hid (R.out.short hpq)
        have HN := Go.Lib.hid (R.out.step hpq)
        clear hpq R
        rw [List.length_cons] at hrb hy1
        simp only [List.length_cons, List.length_nil]
        obtain ⟨q, hq⟩ : ∃ q, rb.length = q := ⟨_, rfl⟩
        rw [hq] at hrb hy1 ⊢
        have f3 : (0 : Int) < (q : Int) + 1 := by omega
        have f4 : ((q : Int) + 1 == 0) = false := neB (by omega)
        gi_wp2
        refine gen_world (fun W => Below wr.heap.size wr W ∧ ObjAt W wr.heap.size #[.int .i64 0, .int .i64 0, .int .i64 0, .bool false, .bool false] 113) ⟨(Below.refl _ wr).alloc (Nat.le_refl _) _, ObjAt.new wr _ 113⟩ ?_
        rintro w3 ⟨hb3, o3⟩
        refine wpIn_region_still_tail 18 (by kernel_rfl) (by kernel_rfl) ?_
        generalize hw4 : ({ w3 with drawn := w3.drawn + 1 } : World) = w4
        have hb4 : Below wr.heap.size wr w4 := by rw [← hw4]; exact ⟨hb3.os, hb3.tape, hb3.output, hb3.size, hb3.block⟩
        have o4 : ObjAt w4 wr.heap.size #[.int .i64 0, .int .i64 0, .int .i64 0, .bool false, .bool false] 113 := by rw [← hw4]; exact o3
        clear hw4 hb3 o3
        have c40 := o4.e0
        have c41 := o4.e1
        have c42 := o4.e2
        have c43 := o4.e3
        have c44 := o4.e4
        have g40 := o4.frozen 0
        have g41 := o4.frozen 1
        have g42 := o4.frozen 2
        have g43 := o4.frozen 3
        have g44 := o4.frozen 4
        have ub04 := (hb4.cell (p := ⟨gb, ob, none⟩) hgv).trans t0
        have ub14 := (hb4.cell (p := ⟨gb, ob + 1, none⟩) hgv).trans t1
        simp only [List.take_succ_cons, List.take_zero, List.drop_succ_cons, List.drop_zero]
        repeat still_step
        refine wpStill_nil ?_
        gi_wp2
        refine gen_world (fun W => Below wr.heap.size wr W ∧ ObjAt W wr.heap.size #[.int .i64 0, .int .i64 0, .int .i64 0, .bool false, .bool false] 113) ⟨hb4, o4⟩ ?_
        rintro w5 ⟨hb5, o5⟩
        refine wpIn_region_still_tail 16 (by kernel_rfl) (by kernel_rfl) ?_
        generalize hw6 : ({ w5 with drawn := w5.drawn + 1 } : World) = w6
        have hb6 : Below wr.heap.size wr w6 := by rw [← hw6]; exact ⟨hb5.os, hb5.tape, hb5.output, hb5.size, hb5.block⟩
        have o6 : ObjAt w6 wr.heap.size #[.int .i64 0, .int .i64 0, .int .i64 0, .bool false, .bool false] 113 := by rw [← hw6]; exact o5
        clear hw6 hb5 o5
        have c60 := o6.e0
        have c61 := o6.e1
        have c62 := o6.e2
        have c63 := o6.e3
        have c64 := o6.e4
        have g60 := o6.frozen 0
        have g61 := o6.frozen 1
        have g62 := o6.frozen 2
        have g63 := o6.frozen 3
        have g64 := o6.frozen 4
        have ub06 := (hb6.cell (p := ⟨gb, ob, none⟩) hgv).trans t0
        have ub16 := (hb6.cell (p := ⟨gb, ob + 1, none⟩) hgv).trans t1
        simp only [List.take_succ_cons, List.take_zero, List.drop_succ_cons, List.drop_zero]
        repeat still_step
        refine wpStill_nil ?_
        gi_wp2
        gi_region
        have hb7 : Below wr.heap.size wr ((((w6.setCell ⟨wr.heap.size, 0, none⟩ (.int .i64 k2)).setCell ⟨wr.heap.size, 2, none⟩ (.int .i64 v2)).setCell ⟨wr.heap.size, 4, none⟩ (.bool true)).drew) := bdrew1 (((hb6.setCell (p := ⟨wr.heap.size, 0, none⟩) (Nat.le_refl _) _).setCell (p := ⟨wr.heap.size, 2, none⟩) (Nat.le_refl _) _).setCell (p := ⟨wr.heap.size, 4, none⟩) (Nat.le_refl _) _)
        have o7 : ObjAt ((((w6.setCell ⟨wr.heap.size, 0, none⟩ (.int .i64 k2)).setCell ⟨wr.heap.size, 2, none⟩ (.int .i64 v2)).setCell ⟨wr.heap.size, 4, none⟩ (.bool true)).drew) wr.heap.size #[.int .i64 k2, .int .i64 0, .int .i64 v2, .bool false, .bool true] 113 := ((((o6.set 0 _).set 2 _).set 4 _) : ObjAt (((w6.setCell ⟨wr.heap.size, 0, none⟩ (.int .i64 k2)).setCell ⟨wr.heap.size, 2, none⟩ (.int .i64 v2)).setCell ⟨wr.heap.size, 4, none⟩ (.bool true)) wr.heap.size #[.int .i64 k2, .int .i64 0, .int .i64 v2, .bool false, .bool true] 113).drew
        generalize ((((w6.setCell ⟨wr.heap.size, 0, none⟩ (.int .i64 k2)).setCell ⟨wr.heap.size, 2, none⟩ (.int .i64 v2)).setCell ⟨wr.heap.size, 4, none⟩ (.bool true)).drew) = w7 at hb7 o7 ⊢
        have c70 := o7.e0
        have c71 := o7.e1
        have c72 := o7.e2
        have c73 := o7.e3
        have c74 := o7.e4
        have g70 := o7.frozen 0
        have g71 := o7.frozen 1
        have g72 := o7.frozen 2
        have g73 := o7.frozen 3
        have g74 := o7.frozen 4
        obtain ⟨fn, tmps, assign, body, hy, hRd⟩ := YY.out pre (k2, 0, v2, false, true) w7 (JJ.out pre wr w7 none HJ.out (grown_below hb7 rfl) (fun _ e => by cases e)) HS.out HN.out.cutPre
        have hsz := hb7.size
        unfold chV at hy
        dsimp only at hy
        gi_wp2
        all_goals
          refine hRd.mono ?_
          rintro e w8 (⟨rfl, hJ8, hk8⟩ | ⟨rfl, hJx8⟩)
          · have HJ8 := Go.Lib.hid hJ8
            have hB8 : Ba < w8.heap.size := by have := hk8.size; omega
            clear hy hJ8 hk8 hRd
            gi_wp2
            go_roundw
            case rel =>
              subst hq
              first
                | exact ⟨[], rb, _, _, _, _, _, rfl, rfl, by omega, by omega, by omega, by omega, by omega, by omega, HA, HB2, HN, HJ8, hB8⟩
                | exact ⟨[], rb, _, _, _, _, _, rfl, rfl, by omega, by omega, by omega, by omega, by omega, by omega, HA, Go.Lib.hid (.inl (List.eq_nil_of_length_eq_zero (by omega))), HN, HJ8, hB8⟩
            case measure => simp [lenOf]
          · gi_wp2
            refine bodyPost_ret (results_none rfl _ _ _) rfl ?_
            exact ⟨⟨_, rfl⟩, .inr ⟨pre ++ [(k2, 0, v2, false, true)], HN.out.cutPre, hJx8⟩⟩
    | cons x ra =>
      obtain ⟨ga, oa, rfl, hga, ha0, ha1, ha2⟩ := HA.out.head
      have HA2 := Go.Lib.hid ha2
      have hbwa := GG.out pre wr HJ.out
      have u0 := (hbwa.cell (p := ⟨ga, oa, none⟩) (Nat.lt_of_lt_of_le hga hn0)).trans ha0
      have u1 := (hbwa.cell (p := ⟨ga, oa + 1, none⟩) (Nat.lt_of_lt_of_le hga hn0)).trans ha1
      have hgw : ga < wr.heap.size := Nat.lt_of_lt_of_le hga hbwa.size
      have hne : ¬ ga = wr.heap.size := by omega
      have hne2 : ¬ wr.heap.size = ga := by omega
      obtain ⟨k1, v1⟩ := x
      dsimp only at u0 u1
      clear ha0 ha1 ha2 hbwa
      cases rb with
      | nil =>
        have hpq := pairs_left (k1, v1) ra
        have HS := Go.Lib.hid (R.out.short hpq)
        have HN := Go.Lib.hid (R.out.step hpq)
        clear hpq R
        rw [List.length_cons] at hra hx1
        simp only [List.length_cons, List.length_nil]
        obtain ⟨p, hp⟩ : ∃ p, ra.length = p := ⟨_, rfl⟩
        rw [hp] at hra hx1 ⊢
        have f1 : (0 : Int) < (p : Int) + 1 := by omega
        have f2 : ((p : Int) + 1 == 0) = false := neB (by omega)
        gi_wp2
        refine gen_world (fun W => Below wr.heap.size wr W ∧ ObjAt W wr.heap.size #[.int .i64 0, .int .i64 0, .int .i64 0, .bool false, .bool false] 113) ⟨(Below.refl _ wr).alloc (Nat.le_refl _) _, ObjAt.new wr _ 113⟩ ?_
        rintro w3 ⟨hb3, o3⟩
        refine wpIn_region_still_tail 18 (by kernel_rfl) (by kernel_rfl) ?_
        generalize hw4 : ({ w3 with drawn := w3.drawn + 1 } : World) = w4
        have hb4 : Below wr.heap.size wr w4 := by rw [← hw4]; exact ⟨hb3.os, hb3.tape, hb3.output, hb3.size, hb3.block⟩
        have o4 : ObjAt w4 wr.heap.size #[.int .i64 0, .int .i64 0, .int .i64 0, .bool false, .bool false] 113 := by rw [← hw4]; exact o3
        clear hw4 hb3 o3
        have c40 := o4.e0
        have c41 := o4.e1
        have c42 := o4.e2
        have c43 := o4.e3
        have c44 := o4.e4
        have g40 := o4.frozen 0
        have g41 := o4.frozen 1
        have g42 := o4.frozen 2
        have g43 := o4.frozen 3
        have g44 := o4.frozen 4
        have ua04 := (hb4.cell (p := ⟨ga, oa, none⟩) hgw).trans u0
        have ua14 := (hb4.cell (p := ⟨ga, oa + 1, none⟩) hgw).trans u1
        simp only [List.take_succ_cons, List.take_zero, List.drop_succ_cons, List.drop_zero]
        repeat still_step
        refine wpStill_nil ?_
        gi_wp2
        gi_region
        gi_wp2
        all_goals
          refine gen_world (fun W => Below wr.heap.size wr W ∧ ObjAt W wr.heap.size #[.int .i64 k1, .int .i64 v1, .int .i64 0, .bool true, .bool false] 113) ⟨(((bdrew hb4 1).setCell (p := ⟨wr.heap.size, 0, none⟩) (Nat.le_refl _) _).setCell (p := ⟨wr.heap.size, 1, none⟩) (Nat.le_refl _) _).setCell (p := ⟨wr.heap.size, 3, none⟩) (Nat.le_refl _) _, (((o4.drewN 1).set 0 _).set 1 _).set 3 _⟩ ?_
          rintro w5 ⟨hb5, o5⟩
          refine wpIn_region_still_tail 16 (by kernel_rfl) (by kernel_rfl) ?_
          generalize hw6 : ({ w5 with drawn := w5.drawn + 1 } : World) = w6
          have hb6 : Below wr.heap.size wr w6 := by rw [← hw6]; exact ⟨hb5.os, hb5.tape, hb5.output, hb5.size, hb5.block⟩
          have o6 : ObjAt w6 wr.heap.size #[.int .i64 k1, .int .i64 v1, .int .i64 0, .bool true, .bool false] 113 := by rw [← hw6]; exact o5
          clear hw6 hb5 o5
          have c60 := o6.e0
          have c61 := o6.e1
          have c62 := o6.e2
          have c63 := o6.e3
          have c64 := o6.e4
          have g60 := o6.frozen 0
          have g61 := o6.frozen 1
          have g62 := o6.frozen 2
          have g63 := o6.frozen 3
          have g64 := o6.frozen 4
          have ua06 := (hb6.cell (p := ⟨ga, oa, none⟩) hgw).trans u0
          have ua16 := (hb6.cell (p := ⟨ga, oa + 1, none⟩) hgw).trans u1
          simp only [List.take_succ_cons, List.take_zero, List.drop_succ_cons, List.drop_zero]
          repeat still_step
          refine wpStill_nil ?_
          obtain ⟨fn, tmps, assign, body, hy, hRd⟩ := YY.out pre (k1, v1, 0, true, false) w6 (JJ.out pre wr w6 none HJ.out (grown_below hb6 rfl) (fun _ e => by cases e)) HS.out HN.out.cutPre
          have hsz := hb6.size
          unfold chV at hy
          dsimp only at hy
          gi_wp2
          all_goals
            refine hRd.mono ?_
            rintro e w8 (⟨rfl, hJ8, hk8⟩ | ⟨rfl, hJx8⟩)
            · have HJ8 := Go.Lib.hid hJ8
              have hB8 : Ba < w8.heap.size := by have := hk8.size; omega
              clear hy hJ8 hk8 hRd
              gi_wp2
              go_roundw
              case rel =>
                subst hp
                first
                  | exact ⟨ra, [], _, _, _, _, _, rfl, rfl, by omega, by omega, by omega, by omega, by omega, by omega, HA2, HB, HN, HJ8, hB8⟩
                  | exact ⟨ra, [], _, _, _, _, _, rfl, rfl, by omega, by omega, by omega, by omega, by omega, by omega, Go.Lib.hid (.inl (List.eq_nil_of_length_eq_zero (by omega))), HB, HN, HJ8, hB8⟩
              case measure => simp [lenOf]
            · gi_wp2
              refine bodyPost_ret (results_none rfl _ _ _) rfl ?_
              exact ⟨⟨_, rfl⟩, .inr ⟨pre ++ [(k1, v1, 0, true, false)], HN.out.cutPre, hJx8⟩⟩
      | cons y rb =>
        obtain ⟨gb, ob, rfl, hgb, hb0, hb1, hb2⟩ := HB.out.head
        have HB2 := Go.Lib.hid hb2
        have hbwb := GG.out pre wr HJ.out
        have t0 := (hbwb.cell (p := ⟨gb, ob, none⟩) (Nat.lt_of_lt_of_le hgb hn0)).trans hb0
        have t1 := (hbwb.cell (p := ⟨gb, ob + 1, none⟩) (Nat.lt_of_lt_of_le hgb hn0)).trans hb1
        have hgv : gb < wr.heap.size := Nat.lt_of_lt_of_le hgb hbwb.size
        have hnb : ¬ gb = wr.heap.size := by omega
        have hnb2 : ¬ wr.heap.size = gb := by omega
        obtain ⟨k2, v2⟩ := y
        dsimp only at t0 t1
        clear hb0 hb1 hb2 hbwb
        by_cases hk : k2 = k1
        · subst hk
          have hkl : k2 ≤ k2 := Int.le_refl _
          have hpq := pairs_both (k2, v1) (k2, v2) ra rb rfl
          have HS := Go.Lib.hid (R.out.short hpq)
          have HN := Go.Lib.hid (R.out.step hpq)
          clear hpq R
          rw [List.length_cons] at hra hx1
          simp only [List.length_cons]
          obtain ⟨p, hp⟩ : ∃ p, ra.length = p := ⟨_, rfl⟩
          rw [hp] at hra hx1 ⊢
          have f1 : (0 : Int) < (p : Int) + 1 := by omega
          have f2 : ((p : Int) + 1 == 0) = false := neB (by omega)
          rw [List.length_cons] at hrb hy1
          obtain ⟨q, hq⟩ : ∃ q, rb.length = q := ⟨_, rfl⟩
          rw [hq] at hrb hy1 ⊢
          have f3 : (0 : Int) < (q : Int) + 1 := by omega
          have f4 : ((q : Int) + 1 == 0) = false := neB (by omega)
          gi_wp2
          refine gen_world (fun W => Below wr.heap.size wr W ∧ ObjAt W wr.heap.size #[.int .i64 0, .int .i64 0, .int .i64 0, .bool false, .bool false] 113) ⟨(Below.refl _ wr).alloc (Nat.le_refl _) _, ObjAt.new wr _ 113⟩ ?_
          rintro w3 ⟨hb3, o3⟩
          refine wpIn_region_still_tail 18 (by kernel_rfl) (by kernel_rfl) ?_
          generalize hw4 : ({ w3 with drawn := w3.drawn + 1 } : World) = w4
          have hb4 : Below wr.heap.size wr w4 := by rw [← hw4]; exact ⟨hb3.os, hb3.tape, hb3.output, hb3.size, hb3.block⟩
          have o4 : ObjAt w4 wr.heap.size #[.int .i64 0, .int .i64 0, .int .i64 0, .bool false, .bool false] 113 := by rw [← hw4]; exact o3
          clear hw4 hb3 o3
          have c40 := o4.e0
          have c41 := o4.e1
          have c42 := o4.e2
          have c43 := o4.e3
          have c44 := o4.e4
          have g40 := o4.frozen 0
          have g41 := o4.frozen 1
          have g42 := o4.frozen 2
          have g43 := o4.frozen 3
          have g44 := o4.frozen 4
          have ua04 := (hb4.cell (p := ⟨ga, oa, none⟩) hgw).trans u0
          have ua14 := (hb4.cell (p := ⟨ga, oa + 1, none⟩) hgw).trans u1
          have ub04 := (hb4.cell (p := ⟨gb, ob, none⟩) hgv).trans t0
          have ub14 := (hb4.cell (p := ⟨gb, ob + 1, none⟩) hgv).trans t1
          simp only [List.take_succ_cons, List.take_zero, List.drop_succ_cons, List.drop_zero]
          repeat still_step
          refine wpStill_nil ?_
          gi_wp2
          gi_region
          gi_wp2
          all_goals
            refine gen_world (fun W => Below wr.heap.size wr W ∧ ObjAt W wr.heap.size #[.int .i64 k2, .int .i64 v1, .int .i64 0, .bool true, .bool false] 113) ⟨(((bdrew hb4 1).setCell (p := ⟨wr.heap.size, 0, none⟩) (Nat.le_refl _) _).setCell (p := ⟨wr.heap.size, 1, none⟩) (Nat.le_refl _) _).setCell (p := ⟨wr.heap.size, 3, none⟩) (Nat.le_refl _) _, (((o4.drewN 1).set 0 _).set 1 _).set 3 _⟩ ?_
            rintro w5 ⟨hb5, o5⟩
            refine wpIn_region_still_tail 16 (by kernel_rfl) (by kernel_rfl) ?_
            generalize hw6 : ({ w5 with drawn := w5.drawn + 1 } : World) = w6
            have hb6 : Below wr.heap.size wr w6 := by rw [← hw6]; exact ⟨hb5.os, hb5.tape, hb5.output, hb5.size, hb5.block⟩
            have o6 : ObjAt w6 wr.heap.size #[.int .i64 k2, .int .i64 v1, .int .i64 0, .bool true, .bool false] 113 := by rw [← hw6]; exact o5
            clear hw6 hb5 o5
            have c60 := o6.e0
            have c61 := o6.e1
            have c62 := o6.e2
            have c63 := o6.e3
            have c64 := o6.e4
            have g60 := o6.frozen 0
            have g61 := o6.frozen 1
            have g62 := o6.frozen 2
            have g63 := o6.frozen 3
            have g64 := o6.frozen 4
            have ua06 := (hb6.cell (p := ⟨ga, oa, none⟩) hgw).trans u0
            have ua16 := (hb6.cell (p := ⟨ga, oa + 1, none⟩) hgw).trans u1
            have ub06 := (hb6.cell (p := ⟨gb, ob, none⟩) hgv).trans t0
            have ub16 := (hb6.cell (p := ⟨gb, ob + 1, none⟩) hgv).trans t1
            simp only [List.take_succ_cons, List.take_zero, List.drop_succ_cons, List.drop_zero]
            repeat still_step
            refine wpStill_nil ?_
            gi_wp2
            gi_region
            have hb7 : Below wr.heap.size wr ((((w6.setCell ⟨wr.heap.size, 0, none⟩ (.int .i64 k2)).setCell ⟨wr.heap.size, 2, none⟩ (.int .i64 v2)).setCell ⟨wr.heap.size, 4, none⟩ (.bool true)).drew) := bdrew1 (((hb6.setCell (p := ⟨wr.heap.size, 0, none⟩) (Nat.le_refl _) _).setCell (p := ⟨wr.heap.size, 2, none⟩) (Nat.le_refl _) _).setCell (p := ⟨wr.heap.size, 4, none⟩) (Nat.le_refl _) _)
            have o7 : ObjAt ((((w6.setCell ⟨wr.heap.size, 0, none⟩ (.int .i64 k2)).setCell ⟨wr.heap.size, 2, none⟩ (.int .i64 v2)).setCell ⟨wr.heap.size, 4, none⟩ (.bool true)).drew) wr.heap.size #[.int .i64 k2, .int .i64 v1, .int .i64 v2, .bool true, .bool true] 113 := ((((o6.set 0 _).set 2 _).set 4 _) : ObjAt (((w6.setCell ⟨wr.heap.size, 0, none⟩ (.int .i64 k2)).setCell ⟨wr.heap.size, 2, none⟩ (.int .i64 v2)).setCell ⟨wr.heap.size, 4, none⟩ (.bool true)) wr.heap.size #[.int .i64 k2, .int .i64 v1, .int .i64 v2, .bool true, .bool true] 113).drew
            generalize ((((w6.setCell ⟨wr.heap.size, 0, none⟩ (.int .i64 k2)).setCell ⟨wr.heap.size, 2, none⟩ (.int .i64 v2)).setCell ⟨wr.heap.size, 4, none⟩ (.bool true)).drew) = w7 at hb7 o7 ⊢
            have c70 := o7.e0
            have c71 := o7.e1
            have c72 := o7.e2
            have c73 := o7.e3
            have c74 := o7.e4
            have g70 := o7.frozen 0
            have g71 := o7.frozen 1
            have g72 := o7.frozen 2
            have g73 := o7.frozen 3
            have g74 := o7.frozen 4
            obtain ⟨fn, tmps, assign, body, hy, hRd⟩ := YY.out pre (k2, v1, v2, true, true) w7 (JJ.out pre wr w7 none HJ.out (grown_below hb7 rfl) (fun _ e => by cases e)) HS.out HN.out.cutPre
            have hsz := hb7.size
            unfold chV at hy
            dsimp only at hy
            gi_wp2
            all_goals
              refine hRd.mono ?_
              rintro e w8 (⟨rfl, hJ8, hk8⟩ | ⟨rfl, hJx8⟩)
              · have HJ8 := Go.Lib.hid hJ8
                have hB8 : Ba < w8.heap.size := by have := hk8.size; omega
                clear hy hJ8 hk8 hRd
                gi_wp2
                go_roundw
                case rel =>
                  subst hp
                  subst hq
                  first
                    | exact ⟨ra, rb, _, _, _, _, _, rfl, rfl, by omega, by omega, by omega, by omega, by omega, by omega, HA2, HB2, HN, HJ8, hB8⟩
                    | exact ⟨ra, rb, _, _, _, _, _, rfl, rfl, by omega, by omega, by omega, by omega, by omega, by omega, HA2, Go.Lib.hid (.inl (List.eq_nil_of_length_eq_zero (by omega))), HN, HJ8, hB8⟩
                    | exact ⟨ra, rb, _, _, _, _, _, rfl, rfl, by omega, by omega, by omega, by omega, by omega, by omega, Go.Lib.hid (.inl (List.eq_nil_of_length_eq_zero (by omega))), HB2, HN, HJ8, hB8⟩
                    | exact ⟨ra, rb, _, _, _, _, _, rfl, rfl, by omega, by omega, by omega, by omega, by omega, by omega, Go.Lib.hid (.inl (List.eq_nil_of_length_eq_zero (by omega))), Go.Lib.hid (.inl (List.eq_nil_of_length_eq_zero (by omega))), HN, HJ8, hB8⟩
                case measure => simp [lenOf]; omega
              · gi_wp2
                refine bodyPost_ret (results_none rfl _ _ _) rfl ?_
                exact ⟨⟨_, rfl⟩, .inr ⟨pre ++ [(k2, v1, v2, true, true)], HN.out.cutPre, hJx8⟩⟩
        · have hkb : (k2 == k1) = false := neB hk
          by_cases hk1 : k1 ≤ k2
          · have hklt : k1 < k2 := by omega
            have hpq := pairs_lt (k1, v1) (k2, v2) ra rb hklt
            have HS := Go.Lib.hid (R.out.short hpq)
            have HN := Go.Lib.hid (R.out.step hpq)
            clear hpq R
            rw [List.length_cons] at hra hx1
            simp only [List.length_cons]
            obtain ⟨p, hp⟩ : ∃ p, ra.length = p := ⟨_, rfl⟩
            rw [hp] at hra hx1 ⊢
            have f1 : (0 : Int) < (p : Int) + 1 := by omega
            have f2 : ((p : Int) + 1 == 0) = false := neB (by omega)
            rw [List.length_cons] at hrb hy1
            obtain ⟨q, hq⟩ : ∃ q, rb.length = q := ⟨_, rfl⟩
            rw [hq] at hrb hy1 ⊢
            have f3 : (0 : Int) < (q : Int) + 1 := by omega
            have f4 : ((q : Int) + 1 == 0) = false := neB (by omega)
            gi_wp2
            refine gen_world (fun W => Below wr.heap.size wr W ∧ ObjAt W wr.heap.size #[.int .i64 0, .int .i64 0, .int .i64 0, .bool false, .bool false] 113) ⟨(Below.refl _ wr).alloc (Nat.le_refl _) _, ObjAt.new wr _ 113⟩ ?_
            rintro w3 ⟨hb3, o3⟩
            refine wpIn_region_still_tail 18 (by kernel_rfl) (by kernel_rfl) ?_
            generalize hw4 : ({ w3 with drawn := w3.drawn + 1 } : World) = w4
            have hb4 : Below wr.heap.size wr w4 := by rw [← hw4]; exact ⟨hb3.os, hb3.tape, hb3.output, hb3.size, hb3.block⟩
            have o4 : ObjAt w4 wr.heap.size #[.int .i64 0, .int .i64 0, .int .i64 0, .bool false, .bool false] 113 := by rw [← hw4]; exact o3
            clear hw4 hb3 o3
            have c40 := o4.e0
            have c41 := o4.e1
            have c42 := o4.e2
            have c43 := o4.e3
            have c44 := o4.e4
            have g40 := o4.frozen 0
            have g41 := o4.frozen 1
            have g42 := o4.frozen 2
            have g43 := o4.frozen 3
            have g44 := o4.frozen 4
            have ua04 := (hb4.cell (p := ⟨ga, oa, none⟩) hgw).trans u0
            have ua14 := (hb4.cell (p := ⟨ga, oa + 1, none⟩) hgw).trans u1
            have ub04 := (hb4.cell (p := ⟨gb, ob, none⟩) hgv).trans t0
            have ub14 := (hb4.cell (p := ⟨gb, ob + 1, none⟩) hgv).trans t1
            simp only [List.take_succ_cons, List.take_zero, List.drop_succ_cons, List.drop_zero]
            repeat still_step
            refine wpStill_nil ?_
            gi_wp2
            gi_region
            gi_wp2
            all_goals
              refine gen_world (fun W => Below wr.heap.size wr W ∧ ObjAt W wr.heap.size #[.int .i64 k1, .int .i64 v1, .int .i64 0, .bool true, .bool false] 113) ⟨(((bdrew hb4 1).setCell (p := ⟨wr.heap.size, 0, none⟩) (Nat.le_refl _) _).setCell (p := ⟨wr.heap.size, 1, none⟩) (Nat.le_refl _) _).setCell (p := ⟨wr.heap.size, 3, none⟩) (Nat.le_refl _) _, (((o4.drewN 1).set 0 _).set 1 _).set 3 _⟩ ?_
              rintro w5 ⟨hb5, o5⟩
              refine wpIn_region_still_tail 16 (by kernel_rfl) (by kernel_rfl) ?_
              generalize hw6 : ({ w5 with drawn := w5.drawn + 1 } : World) = w6
              have hb6 : Below wr.heap.size wr w6 := by rw [← hw6]; exact ⟨hb5.os, hb5.tape, hb5.output, hb5.size, hb5.block⟩
              have o6 : ObjAt w6 wr.heap.size #[.int .i64 k1, .int .i64 v1, .int .i64 0, .bool true, .bool false] 113 := by rw [← hw6]; exact o5
              clear hw6 hb5 o5
              have c60 := o6.e0
              have c61 := o6.e1
              have c62 := o6.e2
              have c63 := o6.e3
              have c64 := o6.e4
              have g60 := o6.frozen 0
              have g61 := o6.frozen 1
              have g62 := o6.frozen 2
              have g63 := o6.frozen 3
              have g64 := o6.frozen 4
              have ua06 := (hb6.cell (p := ⟨ga, oa, none⟩) hgw).trans u0
              have ua16 := (hb6.cell (p := ⟨ga, oa + 1, none⟩) hgw).trans u1
              have ub06 := (hb6.cell (p := ⟨gb, ob, none⟩) hgv).trans t0
              have ub16 := (hb6.cell (p := ⟨gb, ob + 1, none⟩) hgv).trans t1
              simp only [List.take_succ_cons, List.take_zero, List.drop_succ_cons, List.drop_zero]
              repeat still_step
              refine wpStill_nil ?_
              obtain ⟨fn, tmps, assign, body, hy, hRd⟩ := YY.out pre (k1, v1, 0, true, false) w6 (JJ.out pre wr w6 none HJ.out (grown_below hb6 rfl) (fun _ e => by cases e)) HS.out HN.out.cutPre
              have hsz := hb6.size
              unfold chV at hy
              dsimp only at hy
              gi_wp2
              all_goals
                refine hRd.mono ?_
                rintro e w8 (⟨rfl, hJ8, hk8⟩ | ⟨rfl, hJx8⟩)
                · have HJ8 := Go.Lib.hid hJ8
                  have hB8 : Ba < w8.heap.size := by have := hk8.size; omega
                  clear hy hJ8 hk8 hRd
                  gi_wp2
                  go_roundw
                  case rel =>
                    subst hp
                    subst hq
                    first
                      | exact ⟨ra, (k2, v2) :: rb, _, _, _, _, _, rfl, rfl, by omega, by omega, by omega, by omega, by omega, by omega, HA2, HB, HN, HJ8, hB8⟩
                      | exact ⟨ra, (k2, v2) :: rb, _, _, _, _, _, rfl, rfl, by omega, by omega, by omega, by omega, by omega, by omega, Go.Lib.hid (.inl (List.eq_nil_of_length_eq_zero (by omega))), HB, HN, HJ8, hB8⟩
                  case measure => simp [lenOf]
                · gi_wp2
                  refine bodyPost_ret (results_none rfl _ _ _) rfl ?_
                  exact ⟨⟨_, rfl⟩, .inr ⟨pre ++ [(k1, v1, 0, true, false)], HN.out.cutPre, hJx8⟩⟩
          · have hkgt : k2 < k1 := by omega
            have hpq := pairs_gt (k1, v1) (k2, v2) ra rb hkgt
            have HS := Go.Lib.hid (R.out.short hpq)
            have HN := Go.Lib.hid (R.out.step hpq)
            clear hpq R
            rw [List.length_cons] at hra hx1
            simp only [List.length_cons]
            obtain ⟨p, hp⟩ : ∃ p, ra.length = p := ⟨_, rfl⟩
            rw [hp] at hra hx1 ⊢
            have f1 : (0 : Int) < (p : Int) + 1 := by omega
            have f2 : ((p : Int) + 1 == 0) = false := neB (by omega)
            rw [List.length_cons] at hrb hy1
            obtain ⟨q, hq⟩ : ∃ q, rb.length = q := ⟨_, rfl⟩
            rw [hq] at hrb hy1 ⊢
            have f3 : (0 : Int) < (q : Int) + 1 := by omega
            have f4 : ((q : Int) + 1 == 0) = false := neB (by omega)
            gi_wp2
            refine gen_world (fun W => Below wr.heap.size wr W ∧ ObjAt W wr.heap.size #[.int .i64 0, .int .i64 0, .int .i64 0, .bool false, .bool false] 113) ⟨(Below.refl _ wr).alloc (Nat.le_refl _) _, ObjAt.new wr _ 113⟩ ?_
            rintro w3 ⟨hb3, o3⟩
            refine wpIn_region_still_tail 18 (by kernel_rfl) (by kernel_rfl) ?_
            generalize hw4 : ({ w3 with drawn := w3.drawn + 1 } : World) = w4
            have hb4 : Below wr.heap.size wr w4 := by rw [← hw4]; exact ⟨hb3.os, hb3.tape, hb3.output, hb3.size, hb3.block⟩
            have o4 : ObjAt w4 wr.heap.size #[.int .i64 0, .int .i64 0, .int .i64 0, .bool false, .bool false] 113 := by rw [← hw4]; exact o3
            clear hw4 hb3 o3
            have c40 := o4.e0
            have c41 := o4.e1
            have c42 := o4.e2
            have c43 := o4.e3
            have c44 := o4.e4
            have g40 := o4.frozen 0
            have g41 := o4.frozen 1
            have g42 := o4.frozen 2
            have g43 := o4.frozen 3
            have g44 := o4.frozen 4
            have ua04 := (hb4.cell (p := ⟨ga, oa, none⟩) hgw).trans u0
            have ua14 := (hb4.cell (p := ⟨ga, oa + 1, none⟩) hgw).trans u1
            have ub04 := (hb4.cell (p := ⟨gb, ob, none⟩) hgv).trans t0
            have ub14 := (hb4.cell (p := ⟨gb, ob + 1, none⟩) hgv).trans t1
            simp only [List.take_succ_cons, List.take_zero, List.drop_succ_cons, List.drop_zero]
            repeat still_step
            refine wpStill_nil ?_
            gi_wp2
            refine gen_world (fun W => Below wr.heap.size wr W ∧ ObjAt W wr.heap.size #[.int .i64 0, .int .i64 0, .int .i64 0, .bool false, .bool false] 113) ⟨hb4, o4⟩ ?_
            rintro w5 ⟨hb5, o5⟩
            refine wpIn_region_still_tail 16 (by kernel_rfl) (by kernel_rfl) ?_
            generalize hw6 : ({ w5 with drawn := w5.drawn + 1 } : World) = w6
            have hb6 : Below wr.heap.size wr w6 := by rw [← hw6]; exact ⟨hb5.os, hb5.tape, hb5.output, hb5.size, hb5.block⟩
            have o6 : ObjAt w6 wr.heap.size #[.int .i64 0, .int .i64 0, .int .i64 0, .bool false, .bool false] 113 := by rw [← hw6]; exact o5
            clear hw6 hb5 o5
            have c60 := o6.e0
            have c61 := o6.e1
            have c62 := o6.e2
            have c63 := o6.e3
            have c64 := o6.e4
            have g60 := o6.frozen 0
            have g61 := o6.frozen 1
            have g62 := o6.frozen 2
            have g63 := o6.frozen 3
            have g64 := o6.frozen 4
            have ua06 := (hb6.cell (p := ⟨ga, oa, none⟩) hgw).trans u0
            have ua16 := (hb6.cell (p := ⟨ga, oa + 1, none⟩) hgw).trans u1
            have ub06 := (hb6.cell (p := ⟨gb, ob, none⟩) hgv).trans t0
            have ub16 := (hb6.cell (p := ⟨gb, ob + 1, none⟩) hgv).trans t1
            simp only [List.take_succ_cons, List.take_zero, List.drop_succ_cons, List.drop_zero]
            repeat still_step
            refine wpStill_nil ?_
            gi_wp2
            gi_region
            have hb7 : Below wr.heap.size wr ((((w6.setCell ⟨wr.heap.size, 0, none⟩ (.int .i64 k2)).setCell ⟨wr.heap.size, 2, none⟩ (.int .i64 v2)).setCell ⟨wr.heap.size, 4, none⟩ (.bool true)).drew) := bdrew1 (((hb6.setCell (p := ⟨wr.heap.size, 0, none⟩) (Nat.le_refl _) _).setCell (p := ⟨wr.heap.size, 2, none⟩) (Nat.le_refl _) _).setCell (p := ⟨wr.heap.size, 4, none⟩) (Nat.le_refl _) _)
            have o7 : ObjAt ((((w6.setCell ⟨wr.heap.size, 0, none⟩ (.int .i64 k2)).setCell ⟨wr.heap.size, 2, none⟩ (.int .i64 v2)).setCell ⟨wr.heap.size, 4, none⟩ (.bool true)).drew) wr.heap.size #[.int .i64 k2, .int .i64 0, .int .i64 v2, .bool false, .bool true] 113 := ((((o6.set 0 _).set 2 _).set 4 _) : ObjAt (((w6.setCell ⟨wr.heap.size, 0, none⟩ (.int .i64 k2)).setCell ⟨wr.heap.size, 2, none⟩ (.int .i64 v2)).setCell ⟨wr.heap.size, 4, none⟩ (.bool true)) wr.heap.size #[.int .i64 k2, .int .i64 0, .int .i64 v2, .bool false, .bool true] 113).drew
            generalize ((((w6.setCell ⟨wr.heap.size, 0, none⟩ (.int .i64 k2)).setCell ⟨wr.heap.size, 2, none⟩ (.int .i64 v2)).setCell ⟨wr.heap.size, 4, none⟩ (.bool true)).drew) = w7 at hb7 o7 ⊢
            have c70 := o7.e0
            have c71 := o7.e1
            have c72 := o7.e2
            have c73 := o7.e3
            have c74 := o7.e4
            have g70 := o7.frozen 0
            have g71 := o7.frozen 1
            have g72 := o7.frozen 2
            have g73 := o7.frozen 3
            have g74 := o7.frozen 4
            obtain ⟨fn, tmps, assign, body, hy, hRd⟩ := YY.out pre (k2, 0, v2, false, true) w7 (JJ.out pre wr w7 none HJ.out (grown_below hb7 rfl) (fun _ e => by cases e)) HS.out HN.out.cutPre
            have hsz := hb7.size
            unfold chV at hy
            dsimp only at hy
            gi_wp2
            all_goals
              refine hRd.mono ?_
              rintro e w8 (⟨rfl, hJ8, hk8⟩ | ⟨rfl, hJx8⟩)
              · have HJ8 := Go.Lib.hid hJ8
                have hB8 : Ba < w8.heap.size := by have := hk8.size; omega
                clear hy hJ8 hk8 hRd
                gi_wp2
                go_roundw
                case rel =>
                  subst hp
                  subst hq
                  first
                    | exact ⟨(k1, v1) :: ra, rb, _, _, _, _, _, rfl, rfl, by omega, by omega, by omega, by omega, by omega, by omega, HA, HB2, HN, HJ8, hB8⟩
                    | exact ⟨(k1, v1) :: ra, rb, _, _, _, _, _, rfl, rfl, by omega, by omega, by omega, by omega, by omega, by omega, HA, Go.Lib.hid (.inl (List.eq_nil_of_length_eq_zero (by omega))), HN, HJ8, hB8⟩
                case measure => simp [lenOf]
              · gi_wp2
                refine bodyPost_ret (results_none rfl _ _ _) rfl ?_
                exact ⟨⟨_, rfl⟩, .inr ⟨pre ++ [(k2, 0, v2, false, true)], HN.out.cutPre, hJx8⟩⟩
end Go.Proofs.Ytbkpokipibgdfaa
