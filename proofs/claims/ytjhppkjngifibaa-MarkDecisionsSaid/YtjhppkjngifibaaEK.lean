/- Layer 23: the iterator over groups. -/
import Derived.Test.YtjhppkjngifibaaEJ
namespace Go.Proofs.Ytjhppkjngifibaa
open Go.RowKit Go.Lib
set_option linter.unusedVariables false

def TZ (_ : TypeId) : Bool := false
/-- Groups of layers with one key, by their places. -/
def kAt (l : List Ly) (j : Nat) : Int := (l.getD j default).key
theorem kAt_get {l : List Ly} {j : Nat} (h : j < l.length) : kAt l j = l[j].key := by unfold kAt; rw [List.getD_eq_getElem?_getD, List.getElem?_eq_getElem h]; rfl
def IsGr (l : List Ly) (s e : Nat) : Prop := s < e ∧ e ≤ l.length ∧ (∀ j, s ≤ j → j < e → kAt l j = kAt l s) ∧ (e = l.length ∨ kAt l e ≠ kAt l s)
def endG (q : List (Nat × Nat)) : Nat := match q.getLast? with
  | none => 0
  | some x => x.2
theorem endG_nil : endG [] = 0 := rfl
theorem endG_snoc (q : List (Nat × Nat)) (x : Nat × Nat) : endG (q ++ [x]) = x.2 := by unfold endG; simp
def GrP (l : List Ly) (pre : List (Nat × Nat)) : Prop := ∀ q x t, pre = q ++ x :: t → x.1 = endG q ∧ IsGr l x.1 x.2
theorem GrP.nil (l : List Ly) : GrP l [] := fun q x t h => by simp at h
theorem GrP.snoc {l : List Ly} {pre : List (Nat × Nat)} {x : Nat × Nat} (h : GrP l pre) (h1 : x.1 = endG pre) (h2 : IsGr l x.1 x.2) : GrP l (pre ++ [x]) := by
  intro q y t e
  rcases List.eq_nil_or_concat t with rfl | ⟨t', z, rfl⟩
  · obtain ⟨e1, e2⟩ := List.append_inj' e rfl
    simp only [List.cons.injEq, and_true] at e2
    rw [← e1, ← e2]; exact ⟨h1, h2⟩
  · have e' : pre ++ [x] = (q ++ y :: t') ++ [z] := by rw [e]; simp
    obtain ⟨e1, _⟩ := List.append_inj' e' rfl
    exact h q y t' e1
theorem GrP.last {l : List Ly} {pre : List (Nat × Nat)} {x : Nat × Nat} (h : GrP l (pre ++ [x])) : GrP l pre ∧ x.1 = endG pre ∧ IsGr l x.1 x.2 :=
  ⟨fun q y t e => h q y (t ++ [x]) (by rw [e]; simp), h pre x [] rfl⟩
theorem GrP.len {l : List Ly} {pre : List (Nat × Nat)} (h : GrP l pre) : pre.length ≤ endG pre := by
  induction pre using list_snoc_ind with
  | h0 => exact Nat.le_refl _
  | h1 pre x ih =>
    obtain ⟨h1, h2, h3⟩ := h.last
    have := ih h1
    rw [List.length_append, endG_snoc, List.length_singleton]
    have := h3.1
    omega
def gV (A : Option Addr) (d : Nat) (x : Nat × Nat) : Value := .slice (match A with | some a => some ⟨a.block, a.off + x.1 * 4, none⟩ | none => none) (x.2 - x.1) (d - x.1)
/-- How the iterator ends. -/
def GrPost (l : List Ly) (J Jx : List (Nat × Nat) → World → Prop) (e : Ending) (W' : World) : Prop :=
  (∃ v, e = .returned v) ∧ ((∃ xs, (GrP l xs ∧ endG xs = l.length) ∧ J xs W') ∨ (∃ pre, GrP l pre ∧ Jx pre W'))
theorem groups_any (A : Option Addr) (m d : Nat) (w : World) :
    Calls Try.prog 84 #[.slice A m d] w fun e w' => e = .returned (.func (.func 108) #[] #[.pointer (some ⟨w.heap.size, 0, none⟩)]) ∧ w' = w.alloc (.cells #[.slice A m d] 24) := by
  go_enter Try.func84, Try.ntmps84
  go_wp2
  go_ret
  exact ⟨rfl, rfl⟩
attribute [local go_sem] Oper.semAt_some
attribute [local irreducible] wpStill in
set_option maxRecDepth 100000 in
set_option maxHeartbeats 16000000 in
theorem groups_gen (n : Nat) (hn : 1 ≤ n) (L Ba : Nat) (A : Option Addr) (m d : Nat) (l : List Ly) (hl : l.length = m) (hm : m ≤ 1000) (hd : m ≤ d ∧ d ≤ maxLen) (J Jx : List (Nat × Nat) → World → Prop) (n0 : Nat) (w0 W : World)
    (hJ : AbT TZ W.heap.size J) (hn0 : w0.heap.size ≤ n0) (hA : AtL w0 A l) (hG : ∀ pre W', J pre W' → Below n0 w0 W') (ha : Boxed W Ba 24 (.slice A m d))
    (hY : ∀ pre x W1, J pre W1 → pre.length < m → GrP l (pre ++ [x]) → YieldAt Fence.wide (n - 1) Try.prog L #[gV A d x] W1 fun e W' =>
      (e = .returned (.bool true) ∧ J (pre ++ [x]) W' ∧ Kpt TZ Ba W1 W') ∨ (e = .returned (.bool false) ∧ Jx (pre ++ [x]) W')) (h0 : J [] W) :
    CallsIn Fence.wide n Try.prog 108 #[.func (.yield L) #[] #[], .pointer (some ⟨Ba, 0, none⟩)] W (GrPost l J Jx) := by
  have JJ := Lib.hid hJ
  have YY := Lib.hid hY
  have GG := Lib.hid hG
  have J0 := Lib.hid h0
  have HA := Lib.hid hA
  have HL := Lib.hid hl
  have HB0 := Lib.hid ha
  have hac := ha.cell
  obtain ⟨hd1, hd2⟩ := hd
  unfold maxLen at hd2
  clear hJ hY hG h0 hA ha hl
  refine callsIn_of_wp Try.func108 rfl trivial ?_ rfl
  simp only [Try.ntmps108, List.size_toArray, List.length_cons, List.length_nil, Nat.reduceAdd, Nat.reduceSub, Array.replicate_succ, Array.replicate_zero, List.push_toArray, List.append_toArray, List.nil_append, List.cons_append]
  gi_wp2
  gi_loopw [3, 4] (fun s3 _ wr => ∃ (s : Nat) (pre : List (Nat × Nat)), s3 = .int .i64 (s : Nat) ∧ s ≤ m ∧ Hid (endG pre = s) ∧ Hid (GrP l pre) ∧ Hid (J pre wr) ∧ Hid (Boxed wr Ba 24 (.slice A m d))) (fun s3 _ _ => m - (RowKit.intOf s3).toNat)
  case atStart => exact ⟨0, [], rfl, Nat.zero_le _, Lib.hid rfl, Lib.hid (GrP.nil _), J0, HB0⟩
  case round =>
    obtain ⟨s, pre, rfl, hs, HE, HP, HJ, HB⟩ := hrel
    clear hac J0 HB0
    have hbx := HB.out.cell
    by_cases hlt : s < m
    · have hsl : s < l.length := by rw [HL.out]; exact hlt
      obtain ⟨g, o, rfl, hg, hcl⟩ := HA.out.pos (by omega)
      have HCL := Lib.hid hcl
      clear hcl
      have f0 : (0 : Int) ≤ (s : Int) := by omega
      have f1 : (s : Int) < (m : Int) := by omega
      have hg0 := Nat.lt_of_lt_of_le hg hn0
      gi_wp2
      gi_loopw [4] (fun s4 wq => ∃ (e : Nat), s4 = .int .i64 (e : Nat) ∧ s < e ∧ e ≤ m ∧ Hid (∀ j, s ≤ j → j < e → kAt l j = kAt l s) ∧ Hid (J pre wq) ∧ Hid (Boxed wq Ba 24 (.slice (some ⟨g, o, none⟩) m d))) (fun s4 _ => m - (RowKit.intOf s4).toNat)
      case atStart => exact ⟨s + 1, by go_num, by omega, by omega, Lib.hid (fun j h1 h2 => congrArg (kAt l) (show j = s by omega)), HJ, HB⟩
      case round =>
        obtain ⟨e, rfl, hse, hem, HK, HJ2, HB2⟩ := hrel
        have hb2 := HB2.out.cell
        have hbw := GG.out pre _ HJ2.out
        have k0 := (HCL.out s hsl).2.1
        have g0 : (0 : Int) ≤ (e : Int) := by omega
        by_cases hem2 : e < m
        · have hel : e < l.length := by rw [HL.out]; exact hem2
          have k1 := (HCL.out e hel).2.1
          have g1 : (e : Int) < (m : Int) := by omega
          have g2 : decide ((e : Int) < (m : Int)) = true := decide_eq_true g1
          have hE := Lib.hid (show (kAt l e = kAt l s ↔ l[e].key = l[s].key) by rw [kAt_get hel, kAt_get hsl])
          generalize l[e].key = ke at k1 hE
          generalize l[s].key = ks at k0 hE
          by_cases hk : ke = ks
          · have hkb : (ke == ks) = true := by simpa using hk
            have HE1 := Lib.hid (hE.out.2 hk)
            clear hk hE
            gi_wp2
            refine wpIn_region_still_tail 16 (by kernel_rfl) (by kernel_rfl) ?_
            generalize hw4 : ({ wr with drawn := wr.drawn + 1 } : World) = w4
            have H4 : ∀ {b : Nat} {w1 : World}, Below b w1 wr → Below b w1 w4 := fun h => by rw [← hw4]; exact ⟨h.os, h.tape, h.output, h.size, h.block⟩
            have J4 := Lib.hid (JJ.out pre wr w4 none HJ2.out (grown_below (H4 (Below.refl _ wr)) rfl) (fun _ e => by cases e))
            have B4 := Lib.hid (show Boxed w4 Ba 24 (.slice (some ⟨g, o, none⟩) m d) from by rw [← hw4]; exact HB2.out)
            have x0 := B4.out.cell
            have z0 := ((H4 hbw).cell (p := ⟨g, o + s * 4 + 1, none⟩) hg0).trans k0
            have z1 := ((H4 hbw).cell (p := ⟨g, o + e * 4 + 1, none⟩) hg0).trans k1
            clear hw4 H4 hb2 HJ2 HB2
            simp only [List.take_succ_cons, List.take_zero, List.drop_succ_cons, List.drop_zero]
            repeat still_step
            refine wpStill_nil ?_
            clear z0 z1
            gi_wp2
            go_roundw
            case rel => exact ⟨e + 1, by go_num, by omega, by omega, Lib.hid (fun j h1 h2 => if hj : j = e then by subst hj; exact HE1.out else HK.out j h1 (by omega)), J4, B4⟩
            case measure => simp [RowKit.intOf]; omega
          · have hkb : (ke == ks) = false := neB hk
            have HE1 := Lib.hid (fun h => hk (hE.out.1 h))
            clear hk hE
            gi_wp2
            refine wpIn_region_still_tail 16 (by kernel_rfl) (by kernel_rfl) ?_
            generalize hw4 : ({ wr with drawn := wr.drawn + 1 } : World) = w4
            have H4 : ∀ {b : Nat} {w1 : World}, Below b w1 wr → Below b w1 w4 := fun h => by rw [← hw4]; exact ⟨h.os, h.tape, h.output, h.size, h.block⟩
            have J4 := Lib.hid (JJ.out pre wr w4 none HJ2.out (grown_below (H4 (Below.refl _ wr)) rfl) (fun _ e => by cases e))
            have B4 := Lib.hid (show Boxed w4 Ba 24 (.slice (some ⟨g, o, none⟩) m d) from by rw [← hw4]; exact HB2.out)
            have x0 := B4.out.cell
            have z0 := ((H4 hbw).cell (p := ⟨g, o + s * 4 + 1, none⟩) hg0).trans k0
            have z1 := ((H4 hbw).cell (p := ⟨g, o + e * 4 + 1, none⟩) hg0).trans k1
            clear hw4 H4 hb2 HJ2 HB2
            simp only [List.take_succ_cons, List.take_zero, List.drop_succ_cons, List.drop_zero]
            repeat still_step
            refine wpStill_nil ?_
            clear z0 z1
            gi_wp2
            have hgr := Lib.hid (show IsGr l s e from ⟨hse, by rw [HL.out]; exact hem, HK.out, .inr HE1.out⟩)
            have HPs := Lib.hid (show GrP l (pre ++ [(s, e)]) from HP.out.snoc HE.out.symm hgr.out)
            have hpl : pre.length < m := by have := HP.out.len; rw [HE.out] at this; omega
            have h1 : (s : Int) ≤ (e : Int) := by omega
            have h2 : (e : Int) ≤ (d : Int) := by omega
            have h3 : ¬ (d = s) := by omega
            have h4 : s ≤ e := by omega
            have h5 : e ≤ d := by omega
            obtain ⟨fn, tmps, assign, body, hy, hRd⟩ := YY.out pre (s, e) w4 J4.out hpl HPs.out
            unfold gV at hy
            dsimp only at hy
            gi_wp2
            simp only [hy]
            gi_wp2
            refine hRd.mono ?_
            rintro e9 w8 (⟨rfl, hJ8, hk8⟩ | ⟨rfl, hJx8⟩)
            · have HJ8 := Lib.hid hJ8
              have HB8 := Lib.hid (show Boxed w8 Ba 24 _ from hk8.str.trans B4.out)
              clear hy hJ8 hk8 hRd
              gi_wp2
              go_roundw
              case rel => exact ⟨e, pre ++ [(s, e)], rfl, by omega, Lib.hid (endG_snoc _ _), HPs, HJ8, HB8⟩
              case measure => simp [RowKit.intOf]; omega
            · gi_wp2
              refine bodyPost_ret (results_none rfl _ _ _) rfl ?_
              exact ⟨⟨_, rfl⟩, .inr ⟨_, HPs.out, hJx8⟩⟩
        · obtain rfl : m = e := by omega
          have g2 : decide ((m : Int) < (m : Int)) = false := decide_eq_false (by omega)
          clear k0
          gi_wp2
          refine wpIn_region_still_tail 16 (by kernel_rfl) (by kernel_rfl) ?_
          generalize hw4 : ({ wr with drawn := wr.drawn + 1 } : World) = w4
          have H4 : ∀ {b : Nat} {w1 : World}, Below b w1 wr → Below b w1 w4 := fun h => by rw [← hw4]; exact ⟨h.os, h.tape, h.output, h.size, h.block⟩
          have J4 := Lib.hid (JJ.out pre wr w4 none HJ2.out (grown_below (H4 (Below.refl _ wr)) rfl) (fun _ e => by cases e))
          have B4 := Lib.hid (show Boxed w4 Ba 24 (.slice (some ⟨g, o, none⟩) m d) from by rw [← hw4]; exact HB2.out)
          have x0 := B4.out.cell
          clear hw4 H4 hb2 HJ2 HB2
          simp only [List.take_succ_cons, List.take_zero, List.drop_succ_cons, List.drop_zero]
          repeat still_step
          refine wpStill_nil ?_
          gi_wp2
          have hgr := Lib.hid (show IsGr l s m from ⟨hse, by rw [HL.out]; exact Nat.le_refl _, HK.out, .inl HL.out.symm⟩)
          have HPs := Lib.hid (show GrP l (pre ++ [(s, m)]) from HP.out.snoc HE.out.symm hgr.out)
          have hpl : pre.length < m := by have := HP.out.len; rw [HE.out] at this; omega
          have h1 : (s : Int) ≤ (m : Int) := by omega
          have h2 : (m : Int) ≤ (d : Int) := by omega
          have h3 : ¬ (d = s) := by omega
          have h4 : s ≤ m := by omega
          have h5 : m ≤ d := by omega
          obtain ⟨fn, tmps, assign, body, hy, hRd⟩ := YY.out pre (s, m) w4 J4.out hpl HPs.out
          unfold gV at hy
          dsimp only at hy
          gi_wp2
          simp only [hy]
          gi_wp2
          refine hRd.mono ?_
          rintro e9 w8 (⟨rfl, hJ8, hk8⟩ | ⟨rfl, hJx8⟩)
          · have HJ8 := Lib.hid hJ8
            have HB8 := Lib.hid (show Boxed w8 Ba 24 _ from hk8.str.trans B4.out)
            clear hy hJ8 hk8 hRd
            gi_wp2
            go_roundw
            case rel => exact ⟨m, pre ++ [(s, m)], rfl, by omega, Lib.hid (endG_snoc _ _), HPs, HJ8, HB8⟩
            case measure => simp [RowKit.intOf]; omega
          · gi_wp2
            refine bodyPost_ret (results_none rfl _ _ _) rfl ?_
            exact ⟨⟨_, rfl⟩, .inr ⟨_, HPs.out, hJx8⟩⟩
    · obtain rfl : s = m := by omega
      gi_wp2
      go_end0
      exact ⟨⟨_, rfl⟩, .inl ⟨pre, ⟨HP.out, HE.out.trans HL.out.symm⟩, HJ.out⟩⟩
theorem groups_seq (n : Nat) (hn : 1 ≤ n) (Ba : Nat) (A : Option Addr) (m d : Nat) (l : List Ly) (hl : l.length = m) (hm : m ≤ 1000) (hd : m ≤ d ∧ d ≤ maxLen) (n0 : Nat) (w0 w : World)
    (hn0 : w0.heap.size ≤ n0) (hA : AtL w0 A l) (ha : Boxed w Ba 24 (.slice A m d)) :
    SeqG TZ Ba Fence.wide n Try.prog 108 #[.pointer (some ⟨Ba, 0, none⟩)] (fun x => #[gV A d x]) (fun xs => GrP l xs ∧ endG xs = l.length) (GrP l) m (fun W => Below n0 w0 W) w := by
  intro L J Jx W hw hJ _ hG hY h0
  exact groups_gen n hn L Ba A m d l hl hm hd J Jx n0 w0 W hJ hn0 hA hG (boxed_below ha hw) (fun pre x W1 h1 h2 h3 => hY pre x W1 h1 h2 h3) h0
end Go.Proofs.Ytjhppkjngifibaa
