/- Layer 5: At, Next; the reference's Next and Find. -/
import Derived.Test.YtioehncdkdfcmaaE1
import Derived.Test.YtioehncdkdfcmaaI3
import Derived.Test.YtioehncdkdfcmaaN1
import Derived.Deep.RegionHeld3
namespace Go.Proofs.Ytioehncdkdfcmaa
open Go.RowKit Go.Lib Im

def TupB (a b : Value) (w : World) (e : Ending) (w' : World) : Prop := e = .returned (.tuple #[a, b]) ∧ Below w.heap.size w w'
set_option maxRecDepth 100000 in
set_option maxHeartbeats 8000000 in
theorem at_out (b g : Nat) (l : List Int) (p : Int) (w : World) (h : MpG w b g (runs l)) (hp : p < 0 ∨ (l.length : Int) ≤ p) : Calls Try.prog 18 #[.pointer (some ⟨b, 0, none⟩), .int .i64 p] w (TupB (.int .i64 0) (.int .i64 2) w) := by
  have cL := len_any b (runs l) w (mpG_at h)
  rw [lenR_runs] at cL
  generalize (l.length : Int) = n at cL hp
  clear h
  by_cases h0 : p < 0
  · clear hp
    go_enter Try.func18, Try.ntmps18
    go_wp2
    go_ret2
    exact ⟨rfl, Below.refl _ _⟩
  · have h1 : n ≤ p := hp.resolve_left h0
    clear hp
    go_enter Try.func18, Try.ntmps18
    go_wp2_with (go_at_call 17; (with_reducible refine cL.mono ?_); rintro e w1 ⟨rfl, hb1⟩)
    go_ret2
    exact ⟨rfl, hb1⟩
set_option maxRecDepth 100000 in
set_option maxHeartbeats 8000000 in
theorem at_inn (b g : Nat) (l : List Int) (p : Int) (w : World) (h : MpG w b g (runs l)) (hs : l.length ≤ 400000) (h0 : 0 ≤ p) (hp : p < l.length) {x : Int} (hx : l[p.toNat]? = some x) : Calls Try.prog 18 #[.pointer (some ⟨b, 0, none⟩), .int .i64 p] w (TupB (.int .i64 x) (.int .i64 0) w) := by
  have cL := len_any b (runs l) w (mpG_at h)
  rw [lenR_runs] at cL
  obtain ⟨i, hil, hAt, r1, r2, r3⟩ := run_of l h0 hp
  have hrl := runs_len l
  have hST := ch_sortT (runs_ok l).1
  have cA : ∀ w', MpG w' b g (runs l) → Calls Try.prog 40 #[.pointer (some ⟨b, 0, none⟩), .int .i64 p] w' (fun e w'' => e = .returned (.int .i64 i) ∧ Below w'.heap.size w' w'') := fun w' h' =>
    (runAt_any b (runs l) p w' (mpG_at h') hST (by omega)).mono (by
      rintro e w'' ⟨j, hj, rfl, hb⟩
      have := at_unique hj hAt
      subst this
      exact ⟨rfl, hb⟩)
  obtain ⟨A, c, x1, x2, x3, x4, x5⟩ := mpG_open h
  rcases x2 with hA0 | ⟨gA, oA, rfl, hgA, hcl⟩
  · rw [hA0] at hil; exact absurd hil (Nat.not_lt_zero _)
  obtain ⟨_, _, u2⟩ := hcl i hil
  have hv : (runs l)[i].2.2 = x := by rw [hx] at r3; exact (Option.some.inj r3).symm
  rw [hv] at u2
  have hc := x1.cell
  have HX := Go.Lib.hid x1.lt
  have HG := Go.Lib.hid hgA
  have H := Go.Lib.hid h
  obtain ⟨m, hm⟩ : ∃ m, (runs l).length = m := ⟨_, rfl⟩
  rw [hm] at hc hil
  have q0 : (0 : Int) ≤ (i : Int) := by omega
  have q1 : (i : Int) < (m : Int) := by omega
  have q2 : ¬ p < 0 := by omega
  have q3 : ¬ (l.length : Int) ≤ p := by omega
  generalize (l.length : Int) = n at cL q3
  clear h hp h0 hx hAt r1 r2 r3 hrl hST x1 x3 x4 x5 hcl hv hm hgA hs
  go_enter Try.func18, Try.ntmps18
  go_wp2_with fail
  (with_reducible refine cL.mono ?_)
  rintro e w2 ⟨rfl, hb2⟩
  have hc2 := (hb2.cell (p := ⟨b, 0, none⟩) HX.out).trans hc
  have hd2 := (hb2.cell (p := ⟨gA, oA + i * 3 + 2, none⟩) HG.out).trans u2
  have HX2 := Go.Lib.hid (Nat.lt_of_lt_of_le HX.out hb2.size)
  have HG2 := Go.Lib.hid (Nat.lt_of_lt_of_le HG.out hb2.size)
  have hM2 := mpG_below H.out hb2
  have cA2 : Calls Try.prog 40 #[.pointer (some ⟨b, 0, none⟩), .int .i64 p] w2.drew (fun e w'' => e = .returned (.int .i64 i) ∧ Below w2.heap.size w2 w'') := (cA w2.drew hM2).mono (by
    rintro e w'' ⟨rfl, hb⟩
    exact ⟨rfl, ((Below.refl w2.heap.size w2).trans (bdrew1 (Below.refl w2.heap.size w2))).trans hb⟩)
  have HB2 := Go.Lib.hid hb2
  clear cA cL hc u2 hM2 hb2
  go_wp2_with fail
  go_region_held3 (fun w' => w'.cell? ⟨b, 0, none⟩ = some (.slice (some ⟨gA, oA, none⟩) m c) ∧ w'.cell? ⟨gA, oA + i * 3 + 2, none⟩ = some (.int .i64 x))
    (first
      | go_keep
      | (go_split_ands
         refine ⟨?_, ?_⟩
         · (exact (hb3.cell (p := ⟨b, 0, none⟩) HX2.out).trans hc2)
         · (exact (hb3.cell (p := ⟨gA, oA + i * 3 + 2, none⟩) HG2.out).trans hd2)))
    ((go_at_call 40; (with_reducible refine cA2.mono ?_); rintro e w3 ⟨rfl, hb3⟩))
  all_goals
    go_wp2
    go_ret2
    exact ⟨rfl, HB2.out.trans (hb3.mono HB2.out.size)⟩
/-- What Next hands back. -/
def NextR (l : List Int) (p : Int) (w : World) (e : Ending) (w' : World) : Prop := Below w.heap.size w w' ∧
  ((e = .returned (.tuple #[.int .i64 0, .bool false]) ∧ IsN l p (-1)) ∨ ∃ q : Nat, e = .returned (.tuple #[.int .i64 q, .bool true]) ∧ IsN l p q)
set_option maxRecDepth 100000 in
set_option maxHeartbeats 8000000 in
theorem next_any (b g : Nat) (l : List Int) (p : Int) (w : World) (h : MpG w b g (runs l)) (hs : l.length ≤ 400000) : Calls Try.prog 19 #[.pointer (some ⟨b, 0, none⟩), .int .i64 p] w (NextR l p w) := by
  obtain ⟨A, c, x1, x2, x3, x4, x5⟩ := mpG_open h
  have hrl := runs_len l
  have cS := search_F (runs l) (ch_sortF (runs_ok l).1) A c p w (by omega) x2
  obtain ⟨m, hm⟩ : ∃ m, (runs l).length = m := ⟨_, rfl⟩
  have hc := x1.cell
  have HX := Go.Lib.hid x1.lt
  have X2 := Go.Lib.hid x2
  have HM := Go.Lib.hid hm
  rw [hm] at cS hc
  clear h hs x1 x2 x3 x4 x5 hrl hm
  go_enter Try.func19, Try.ntmps19
  go_wp2_with fail
  refine cS.mono ?_
  rintro e w1 ⟨i, hP, hb1, rfl⟩
  have HP := Go.Lib.hid hP
  have hc1 := (hb1.cell (p := ⟨b, 0, none⟩) HX.out).trans hc
  have HB1 := Go.Lib.hid hb1
  have HI := Go.Lib.hid (part_isN hP)
  have him : i ≤ m := by rw [← HM.out]; exact hP.1
  clear hP hb1 hc cS
  by_cases hlt : i < m
  · have hil : i < (runs l).length := by rw [HM.out]; exact hlt
    rcases X2.out with hA0 | ⟨gA, oA, rfl, hgA, hcl⟩
    · rw [hA0] at hil; exact absurd hil (Nat.not_lt_zero _)
    have d0 := (HB1.out.cell (p := ⟨gA, oA + i * 3, none⟩) hgA).trans (hcl i hil).1
    have HI2 := HI.out
    rw [dif_pos hil] at HI2
    have hin := ch_in (runs_ok l).1 hil
    have hq : (runs l)[i].1 = (((runs l)[i].1.toNat : Nat) : Int) := by omega
    rw [hq] at d0 HI2
    generalize (runs l)[i].1.toNat = q at d0 HI2
    have HI3 := Go.Lib.hid HI2
    have q0 : (0 : Int) ≤ (i : Int) := by omega
    have q1 : (i : Int) < (m : Int) := by omega
    have q2 : ((i : Int) == (m : Int)) = false := by simp; omega
    clear HI HI2 hin hq hcl hgA hil
    go_wp2
    go_ret2
    exact ⟨HB1.out, .inr ⟨q, rfl, HI3.out⟩⟩
  · obtain rfl : i = m := by omega
    have HI2 := HI.out
    rw [dif_neg (by rw [HM.out]; omega)] at HI2
    have HI3 := Go.Lib.hid HI2
    clear HI HI2
    go_wp2
    go_ret2
    exact ⟨HB1.out, .inl ⟨rfl, HI3.out⟩⟩
/-- What the reference's Next hands back. -/
def RNextR (l : List Int) (p : Int) (w : World) (e : Ending) (w' : World) : Prop := Below w.heap.size w w' ∧
  ((e = .returned (.int .i64 (-1)) ∧ IsN l p (-1)) ∨ ∃ q : Nat, e = .returned (.int .i64 q) ∧ IsN l p q)
set_option maxRecDepth 100000 in
set_option maxHeartbeats 8000000 in
theorem rnext_any (A : Option Addr) (n c : Nat) (l : List Int) (hl : l.length = n) (p : Int) (w : World) (hA : w.ownsRow 0 3 1 (.slice A n c) n (intsV l)) (hn : n ≤ 400000) (hp : p ≤ 9223372036854775807) : Calls Try.prog 21 #[.slice A n c, .int .i64 p] w (RNextR l p w) := by
  have HA := Go.Lib.hid hA
  have HL := Go.Lib.hid hl
  obtain ⟨s, hs⟩ : ∃ s : Nat, max 0 p = (s : Int) := ⟨(max 0 p).toNat, by omega⟩
  have HSP := Go.Lib.hid (show ∀ q : Nat, p ≤ (q : Int) → s ≤ q from fun q hq => by omega)
  have HPS := Go.Lib.hid (show p ≤ (s : Int) by omega)
  have hsm : s ≤ 9223372036854775807 := by omega
  clear hA hl
  go_enter Try.func21, Try.ntmps21
  go_wp2
  go_loopw [5] (fun i wr => ∃ k : Nat, s ≤ k ∧ (k ≤ n ∨ k = s) ∧ i = .int .i64 k ∧ Hid (Below w.heap.size w wr) ∧ Hid (∀ q : Nat, p ≤ q → q < k → ¬ bg l q)) (fun i _ => n - (RowKit.intOf i).toNat)
  case atStart => exact ⟨s, Nat.le_refl _, .inr rfl, rfl, Go.Lib.hid (Below.refl _ _), Go.Lib.hid (fun q h1 h2 => by have := HSP.out q h1; omega)⟩
  case round =>
    obtain ⟨k, hk, hkn, rfl, HB, HN⟩ := hrel
    have HKP := Go.Lib.hid (show p ≤ (k : Int) by have := HPS.out; omega)
    clear hs
    by_cases hlt : k < n
    · obtain ⟨g, rfl, hg, hcA⟩ := own_list HA.out HL.out hlt
      have c0 := (HB.out.cell (p := ⟨g, k, none⟩) hg).trans hcA
      have hkl : k < l.length := by rw [HL.out]; exact hlt
      have hk0 : l[k]? = some (l[k]'hkl) := List.getElem?_eq_getElem hkl
      have HKL := Go.Lib.hid hkl
      clear hcA
      cases k with
      | zero =>
        have HBG := Go.Lib.hid (show bg l 0 from ⟨HKL.out, .inl rfl⟩)
        clear c0 hk0
        go_wp2
        go_quiet (fail)
        go_wp2
        go_ret
        exact ⟨bdrew HB.out _, .inr ⟨0, rfl, .inr ⟨0, rfl, HKP.out, HBG.out, fun q' _ h => by omega⟩⟩⟩
      | succ j =>
        obtain ⟨g', hgg, hg2, hcB⟩ := own_list HA.out HL.out (k := j) (by omega)
        simp only [Option.some.injEq, Addr.mk.injEq, and_true] at hgg
        subst hgg
        have c1 := (HB.out.cell (p := ⟨g, j, none⟩) hg).trans hcB
        have hj0 : l[j]? = some (l[j]'(by omega)) := List.getElem?_eq_getElem (by omega)
        have HGO : Hid (l[j + 1] ≠ l[j] → bg l (j + 1)) := Go.Lib.hid (fun hne => ⟨HKL.out, .inr (by rw [hk0, show j + 1 - 1 = j by omega, hj0]; intro e; exact hne (Option.some.inj e))⟩)
        have HNO : Hid (l[j + 1] = l[j] → ¬ bg l (j + 1)) := Go.Lib.hid (fun he hb => by
          rcases hb.2 with h | h
          · omega
          · rw [hk0, show j + 1 - 1 = j by omega, hj0] at h
            exact h (congrArg some he))
        clear hcB hg2 hk0 hj0
        generalize l[j + 1] = x at c0 HGO HNO
        generalize l[j] = y at c1 HGO HNO
        have q0 : (0 : Int) ≤ (j : Int) := by omega
        have q1 : (j : Int) < (n : Int) := by omega
        have q2 : (0 : Int) ≤ (j : Int) + 1 := by omega
        have q3 : (j : Int) + 1 < (n : Int) := by omega
        have q4 : IntKind.i64.wrap (j : Int) = j := IntWalk.i64_in _ (by omega)
        have q5 : ((j : Int) + 1 == 0) = false := by simp; omega
        by_cases hxy : x = y
        · have e1 : (x == y) = true := by simpa using hxy
          have e2 : (x != y) = false := by simpa using hxy
          have HX := Go.Lib.hid (HNO.out hxy)
          clear HGO HNO hxy
          go_wp2
          go_quiet (fail)
          have HBq := Go.Lib.hid (bdrew HB.out nq)
          clear c0 c1 e1 e2 HB
          go_wp2
          go_roundw
          case rel => exact ⟨j + 1 + 1, by omega, .inl (by omega), by go_num, HBq, Go.Lib.hid (fun q h1 h2 => if e : q = j + 1 then by rw [e]; exact HX.out else HN.out q h1 (by omega))⟩
          case measure => simp [RowKit.intOf]; omega
        · have e1 : (x == y) = false := by simpa using hxy
          have e2 : (x != y) = true := by simpa using hxy
          have HX := Go.Lib.hid (HGO.out hxy)
          clear HGO HNO hxy
          go_wp2
          go_quiet (fail)
          have HBq := Go.Lib.hid (bdrew HB.out nq)
          clear c0 c1 e1 e2 HB
          go_wp2
          go_ret
          exact ⟨HBq.out, .inr ⟨j + 1, rfl, .inr ⟨j + 1, rfl, HKP.out, HX.out, HN.out⟩⟩⟩
    · have HX := Go.Lib.hid (show IsN l p (-1) from .inl ⟨rfl, fun q h1 hb => by
        have := hb.1
        have hL := HL.out
        exact HN.out q h1 (by omega) hb⟩)
      have q6 : (n : Int) ≤ (k : Int) := by omega
      go_wp2
      go_ret
      exact ⟨HB.out, .inl ⟨rfl, HX.out⟩⟩
/-- What the reference's Find hands back. -/
def RFindR (l : List Int) (p v : Int) (w : World) (e : Ending) (w' : World) : Prop := Below w.heap.size w w' ∧
  ((e = .returned (.int .i64 (-1)) ∧ IsF l p v (-1)) ∨ ∃ q : Nat, e = .returned (.int .i64 q) ∧ IsF l p v q)
set_option maxRecDepth 100000 in
set_option maxHeartbeats 8000000 in
theorem rfind_any (A : Option Addr) (n c : Nat) (l : List Int) (hl : l.length = n) (p v : Int) (w : World) (hA : w.ownsRow 0 3 1 (.slice A n c) n (intsV l)) (hn : n ≤ 400000) (hp : p ≤ 9223372036854775807) : Calls Try.prog 22 #[.slice A n c, .int .i64 p, .int .i64 v] w (RFindR l p v w) := by
  have HA := Go.Lib.hid hA
  have HL := Go.Lib.hid hl
  obtain ⟨s, hs⟩ : ∃ s : Nat, max 0 p = (s : Int) := ⟨(max 0 p).toNat, by omega⟩
  have HSP := Go.Lib.hid (show ∀ q : Nat, p ≤ (q : Int) → s ≤ q from fun q hq => by omega)
  have HPS := Go.Lib.hid (show p ≤ (s : Int) by omega)
  have hsm : s ≤ 9223372036854775807 := by omega
  clear hA hl
  go_enter Try.func22, Try.ntmps22
  go_wp2
  go_loopw [7] (fun i wr => ∃ k : Nat, s ≤ k ∧ (k ≤ n ∨ k = s) ∧ i = .int .i64 k ∧ Hid (Below w.heap.size w wr) ∧ Hid (∀ q : Nat, p ≤ q → q < k → l[q]? ≠ some v)) (fun i _ => n - (RowKit.intOf i).toNat)
  case atStart => exact ⟨s, Nat.le_refl _, .inr rfl, rfl, Go.Lib.hid (Below.refl _ _), Go.Lib.hid (fun q h1 h2 => by have := HSP.out q h1; omega)⟩
  case round =>
    obtain ⟨k, hk, hkn, rfl, HB, HN⟩ := hrel
    have HKP := Go.Lib.hid (show p ≤ (k : Int) by have := HPS.out; omega)
    clear hs
    by_cases hlt : k < n
    · obtain ⟨g, rfl, hg, hcA⟩ := own_list HA.out HL.out hlt
      have c0 := (HB.out.cell (p := ⟨g, k, none⟩) hg).trans hcA
      have hkl : k < l.length := by rw [HL.out]; exact hlt
      have HK0 := Go.Lib.hid (show l[k]? = some (l[k]'hkl) from List.getElem?_eq_getElem hkl)
      clear hcA
      generalize l[k]'hkl = x at c0 HK0
      have q0 : (0 : Int) ≤ (k : Int) := by omega
      have q1 : (k : Int) < (n : Int) := by omega
      clear hkl
      by_cases hxy : x = v
      · have e1 : (x == v) = true := by simpa using hxy
        have HX := Go.Lib.hid hxy
        clear hxy
        go_wp2
        go_ret
        exact ⟨HB.out, .inr ⟨k, rfl, .inr ⟨k, rfl, HKP.out, by rw [HK0.out, HX.out], HN.out⟩⟩⟩
      · have e1 : (x == v) = false := by simpa using hxy
        have HX := Go.Lib.hid hxy
        clear hxy
        go_wp2
        go_roundw
        case rel => exact ⟨k + 1, by omega, .inl (by omega), by go_num, HB, Go.Lib.hid (fun q h1 h2 => if e : q = k then by rw [e, HK0.out]; intro h; exact HX.out (Option.some.inj h) else HN.out q h1 (by omega))⟩
        case measure => simp [RowKit.intOf]; omega
    · have HX := Go.Lib.hid (show IsF l p v (-1) from .inl ⟨rfl, fun q h1 hb => by
        have := (List.getElem?_eq_some_iff.1 hb).1
        have hL := HL.out
        exact HN.out q h1 (by omega) hb⟩)
      have q6 : (n : Int) ≤ (k : Int) := by omega
      go_wp2
      go_ret
      exact ⟨HB.out, .inl ⟨rfl, HX.out⟩⟩
/-- What Find hands back. -/
def FindP (l : List Int) (p v : Int) (w : World) (e : Ending) (w' : World) : Prop := Below w.heap.size w w' ∧
  ((e = .returned (.tuple #[.int .i64 0, .bool false]) ∧ IsF l p v (-1)) ∨ ∃ q : Nat, e = .returned (.tuple #[.int .i64 q, .bool true]) ∧ IsF l p v q)
theorem find_ps (b g : Nat) (l : List Int) (f v : Int) (w : World) (h : MpG w b g (runs l)) (hl : l.length ≤ 400000) : Calls Try.prog 20 #[.pointer (some ⟨b, 0, none⟩), .int .i64 f, .int .i64 v] w (FindP l f v w) := by
  refine (find_any b g l f v w h hl).mono ?_
  rintro e w' ⟨rfl, hb⟩
  refine ⟨hb, ?_⟩
  rcases fnd_isF l f v with ⟨h1, h2, h3⟩ | ⟨h1, h2, h3⟩
  · exact .inl ⟨by rw [h1, h2], h3⟩
  · have e0 : fndV (partsW f l.length (runs l)) v = ((fndV (partsW f l.length (runs l)) v).toNat : Int) := by omega
    exact .inr ⟨_, by rw [h1, ← e0], by rw [← e0]; exact h2⟩
end Go.Proofs.Ytioehncdkdfcmaa
