/- Layer 5: FromRuns, the reference's Check. -/
import Derived.Test.YtioehncdkdfcmaaN1
namespace Go.Proofs.Ytioehncdkdfcmaa
open Go.RowKit Go.Lib Im

def elA (l : List Rn) (k : Nat) : Rn := l.getD k (0, 0, 0)
theorem elA_get {l : List Rn} {k : Nat} (h : k < l.length) : elA l k = l[k] := by unfold elA; rw [List.getD_eq_getElem?_getD, List.getElem?_eq_getElem h]; rfl
def endA (l : List Rn) : Nat → Int
  | 0 => 0
  | k + 1 => (elA l k).2.1
def sameA (l : List Rn) : Nat → Bool
  | 0 => false
  | k + 1 => (elA l (k + 1)).2.2 == (elA l k).2.2
/-- What is wrong with a run. -/
def errA (l : List Rn) (k : Nat) : Int :=
  if (elA l k).1 ≠ endA l k then 6 else if (elA l k).2.1 ≤ (elA l k).1 then 6 else if 1048576 < (elA l k).2.1 then 2 else if sameA l k then 15 else 0
def chkA (l : List Rn) : Int := (((List.range l.length).map (errA l)).find? (fun e => e != 0)).getD 0
theorem chkA_none {l : List Rn} (h : ∀ j, j < l.length → errA l j = 0) : chkA l = 0 := by
  unfold chkA
  have : ((List.range l.length).map (errA l)).find? (fun e => e != 0) = none := by
    rw [List.find?_eq_none]
    intro x hx
    obtain ⟨j, hj, rfl⟩ := List.mem_map.1 hx
    simp [h j (List.mem_range.1 hj)]
  rw [this]; rfl
theorem chkA_at {l : List Rn} {k : Nat} {x : Int} (hk : k < l.length) (h : ∀ j, j < k → errA l j = 0) (he : errA l k = x) (hx : x ≠ 0) : chkA l = x := by
  unfold chkA
  have e : List.range l.length = List.range k ++ k :: (List.range (l.length - (k + 1))).map (· + (k + 1)) := by
    apply List.ext_getElem
    · simp; omega
    · intro i h1 h2
      simp only [List.getElem_range]
      by_cases h3 : i < k
      · rw [List.getElem_append_left (by simpa using h3)]; simp
      · rw [List.getElem_append_right (by simpa using h3)]
        simp only [List.length_range]
        by_cases h4 : i = k
        · subst h4; simp
        · obtain ⟨q, hq⟩ : ∃ q, i - k = q + 1 := ⟨i - k - 1, by omega⟩
          simp only [hq, List.getElem_cons_succ, List.getElem_map, List.getElem_range]
          omega
  rw [e, List.map_append, List.find?_append, List.map_cons, List.find?_cons, he]
  have : ((List.range k).map (errA l)).find? (fun e => e != 0) = none := by
    rw [List.find?_eq_none]
    intro y hy
    obtain ⟨j, hj, rfl⟩ := List.mem_map.1 hy
    simp [h j (List.mem_range.1 hj)]
  rw [this]
  have hx' : (x != 0) = true := by simpa using hx
  simp [hx']
/-- What FromRuns hands back. -/
def FrR (l : List Rn) (w : World) (e : Ending) (w' : World) : Prop :=
  (chkA l = 0 ∧ ∃ b g, e = .returned (.tuple #[.pointer (some ⟨b, 0, none⟩), .int .i64 0]) ∧ MpG w' b g l ∧ Below w.heap.size w w') ∨
  (chkA l ≠ 0 ∧ e = .returned (.tuple #[.pointer none, .int .i64 (chkA l)]) ∧ Below w.heap.size w w')
theorem fr_bad {l : List Rn} {w w' : World} {x : Int} (h : chkA l = x) (hx : x ≠ 0) (hb : Below w.heap.size w w') : FrR l w (.returned (.tuple #[.pointer none, .int .i64 x])) w' := .inr ⟨by rw [h]; exact hx, by rw [h], hb⟩
theorem ret_intC {a b : Int} (h : a = b) : Ending.returned (.int .i64 a) = .returned (.int .i64 b) := by rw [h]
set_option maxRecDepth 100000 in
set_option maxHeartbeats 16000000 in
theorem fromRuns_any (A : Option Addr) (n c : Nat) (l : List Rn) (hl : l.length = n) (hc : n ≤ c ∧ c ≤ maxLen) (hn : n ≤ 1000) (w : World) (hA : RnAt w A l) :
    Calls Try.prog 14 #[.slice A n c] w (FrR l w) := by
  have cC := fun w' h => slclone_any A n c l hl hc (by omega) w' h
  unfold OwnRet at cC
  have HL := Go.Lib.hid hl
  have HA := Go.Lib.hid hA
  clear hA hl hc
  go_enter Try.func14, Try.ntmps14
  go_wp2_with fail
  go_loopw [4, 9] (fun en i wr => ∃ k : Nat, k ≤ n ∧ i = .int .i64 k ∧ en = .int .i64 (endA l k) ∧ Hid (Below w.heap.size w wr) ∧ Hid (∀ j, j < k → errA l j = 0)) (fun _ i _ => n - (RowKit.intOf i).toNat)
  case atStart => exact ⟨0, Nat.zero_le _, rfl, rfl, Go.Lib.hid (Below.refl _ _), Go.Lib.hid (fun j h => by omega)⟩
  case round =>
    obtain ⟨k, hk, rfl, rfl, HB, HN⟩ := hrel
    by_cases hlt : k < n
    · have hkl : k < l.length := by rw [HL.out]; exact hlt
      rcases HA.out with hA0 | ⟨g, o, rfl, hg, hcl⟩
      · rw [hA0] at hkl; exact absurd hkl (Nat.not_lt_zero _)
      obtain ⟨h0, h1, h2⟩ := hcl k hkl
      have c0 := (HB.out.cell (p := ⟨g, o + k * 3, none⟩) hg).trans h0
      have c1 := (HB.out.cell (p := ⟨g, o + k * 3 + 1, none⟩) hg).trans h1
      have c2 := (HB.out.cell (p := ⟨g, o + k * 3 + 2, none⟩) hg).trans h2
      have HG := Go.Lib.hid (Nat.lt_of_lt_of_le hg HB.out.size)
      have hy := elA_get hkl
      rw [← hy] at c0 c1 c2
      have HKL := Go.Lib.hid hkl
      have HE : Hid (errA l k = if (elA l k).1 ≠ endA l k then 6 else if (elA l k).2.1 ≤ (elA l k).1 then 6 else if 1048576 < (elA l k).2.1 then 2 else if sameA l k then 15 else 0) := Go.Lib.hid rfl
      have HS : Hid (∀ ya yb yc, elA l k = (ya, yb, yc) → endA l (k + 1) = yb) := Go.Lib.hid (fun ya yb yc e => by show (elA l k).2.1 = yb; rw [e])
      clear h0 h1 h2 hy
      have q0 : (0 : Int) ≤ (k : Int) := by omega
      have q1 : (k : Int) < (n : Int) := by omega
      generalize hyy : elA l k = y at c0 c1 c2 HE HS
      obtain ⟨ya, yb, yc⟩ := y
      have HYY := Go.Lib.hid hyy
      clear hyy
      dsimp only at c0 c1 c2 HE
      generalize hen : endA l k = en at HE ⊢
      have HEN := Go.Lib.hid hen
      clear hen
      have oa := ObjAt.new wr #[.int .i64 ya, .int .i64 yb, .int .i64 yc] 34
      have e0 := oa.b0
      have e1 := oa.b1
      have e2 := oa.b2
      have HBA : Hid (Below w.heap.size w (wr.alloc (.cells #[.int .i64 ya, .int .i64 yb, .int .i64 yc] 34))) := Go.Lib.hid (HB.out.alloc HB.out.size _)
      clear oa
      by_cases h1 : ya = en
      · subst h1
        by_cases h2 : yb ≤ ya
        · have HX := Go.Lib.hid (chkA_at HKL.out HN.out (HE.out.trans (by rw [if_neg (by simp), if_pos h2])) (by decide : (6 : Int) ≠ 0))
          clear HE HS HYY HEN hcl
          go_wp2
          go_ret2
          exact fr_bad HX.out (by decide) HBA.out
        · by_cases h3 : 1048576 < yb
          · have HX := Go.Lib.hid (chkA_at HKL.out HN.out (HE.out.trans (by rw [if_neg (by simp), if_neg h2, if_pos h3])) (by decide : (2 : Int) ≠ 0))
            clear HE HS HYY HEN hcl
            go_wp2
            go_ret2
            exact fr_bad HX.out (by decide) HBA.out
          · cases k with
            | zero =>
              have HX := Go.Lib.hid (HE.out.trans (by rw [if_neg (by simp), if_neg h2, if_neg h3]; rfl : _ = (0 : Int)))
              clear HE hcl
              simp only [Nat.zero_mul, Nat.add_zero] at c0 c1 c2
              go_wp2
              go_quiet (fail)
              have HBX := Go.Lib.hid (bdrew HBA.out nq)
              have e1q : ((wr.alloc (.cells #[.int .i64 ya, .int .i64 yb, .int .i64 yc] 34)).drewN nq).cell? ⟨wr.heap.size, 1, none⟩ = some (.int .i64 yb) := e1
              go_wp2
              go_roundw
              case rel => exact ⟨0 + 1, by omega, by go_num, by rw [HS.out _ _ _ rfl], HBX, Go.Lib.hid (fun j' hj' => if e : j' = 0 then by rw [e]; exact HX.out else HN.out j' (by omega))⟩
              case measure => simp [RowKit.intOf]; omega
            | succ j =>
              obtain ⟨_, _, u2⟩ := hcl j (by have := HKL.out; omega)
              have hj := elA_get (l := l) (k := j) (by have := HKL.out; omega)
              have d2 := (HB.out.cell (p := ⟨g, o + j * 3 + 2, none⟩) hg).trans u2
              rw [← hj] at d2
              have HSM : Hid (sameA l (j + 1) = (yc == (elA l j).2.2)) := Go.Lib.hid (by show ((elA l (j + 1)).2.2 == (elA l j).2.2) = _; rw [HYY.out])
              clear hj u2 hcl
              generalize (elA l j).2.2 = x at d2 HSM
              have q2 : (0 : Int) ≤ (j : Int) := by omega
              have q3 : (j : Int) < (n : Int) := by omega
              have q4 : (0 : Int) < (j : Int) + 1 := by omega
              have q5 : IntKind.i64.wrap (j : Int) = j := IntWalk.i64_in _ (by omega)
              have d2a := Lib.cell?_alloc_some (.cells #[.int .i64 ya, .int .i64 yb, .int .i64 yc] 34) d2
              by_cases h4 : yc = x
              · have h4b : (yc == x) = true := by simpa using h4
                have HX := Go.Lib.hid (chkA_at HKL.out HN.out (HE.out.trans (by rw [if_neg (by simp), if_neg h2, if_neg h3, if_pos (by rw [HSM.out]; exact h4b)])) (by decide : (15 : Int) ≠ 0))
                clear HE HS HYY HEN HSM h4
                go_wp2
                go_quiet (fail)
                go_wp2
                go_ret2
                exact fr_bad HX.out (by decide) (bdrew HBA.out _)
              · have h4b : (yc == x) = false := by simpa using h4
                have HX := Go.Lib.hid (HE.out.trans (by rw [if_neg (by simp), if_neg h2, if_neg h3, if_neg (by rw [HSM.out, h4b]; decide)] : _ = (0 : Int)))
                clear HE HSM h4
                go_wp2
                go_quiet (fail)
                have HBX := Go.Lib.hid (bdrew HBA.out nq)
                have e1q : ((wr.alloc (.cells #[.int .i64 ya, .int .i64 yb, .int .i64 yc] 34)).drewN nq).cell? ⟨wr.heap.size, 1, none⟩ = some (.int .i64 yb) := e1
                go_wp2
                go_roundw
                case rel => exact ⟨(j + 1) + 1, by omega, by go_num, by rw [HS.out _ _ _ rfl], HBX, Go.Lib.hid (fun j' hj' => if e : j' = (j + 1) then by rw [e]; exact HX.out else HN.out j' (by omega))⟩
                case measure => simp [RowKit.intOf]; omega
      · have HX := Go.Lib.hid (chkA_at HKL.out HN.out (HE.out.trans (by rw [if_pos h1])) (by decide : (6 : Int) ≠ 0))
        have h1b : (ya == en) = false := by simpa using h1
        have h1c : (ya != en) = true := by simpa using h1
        clear HE HS HYY HEN hcl h1
        go_wp2
        go_ret2
        exact fr_bad HX.out (by decide) HBA.out
    · obtain rfl : n = k := by omega
      have HX := Go.Lib.hid (chkA_none (l := l) (fun j hj => HN.out j (by rw [HL.out] at hj; exact hj)))
      have cC1 := cC wr (HA.out.below HB.out)
      go_wp2_with fail
      (with_reducible refine cC1.mono ?_)
      rintro e w1 ⟨B, cb, rfl, hown, hb1⟩
      have HOW := Go.Lib.hid hown
      have HB1 := Go.Lib.hid (HB.out.trans (hb1.mono HB.out.size))
      clear hown hb1 cC1
      go_wp2
      go_ret2
      obtain ⟨g', k1, k2, k3⟩ := own_G (w := w1.alloc (.cells #[.slice B n cb] 84)) (base := 0) (b := w1.heap.size) (R := l) ⟨.slice B n cb, Nat.zero_le _, Boxed.new w1 84 _, by have := own_lower HOW.out (Nat.zero_le _); rw [HL.out]; exact this.alloc _⟩
      exact .inl ⟨HX.out, w1.heap.size, g', rfl, k3, HB1.out.alloc HB1.out.size _⟩
end Go.Proofs.Ytioehncdkdfcmaa
