/- Layer 23: has, sameInts, checkRevs. -/
import Derived.Test.YtjhppkjngifibaaE5
namespace Go.Proofs.Ytjhppkjngifibaa
open Go.RowKit Go.Lib
set_option linter.unusedVariables false

def NotIn (i : Int) (l : List Int) (k : Nat) : Prop := ∀ j (h : j < l.length), j < k → l[j] ≠ i
theorem NotIn.succ {i : Int} {l : List Int} {k : Nat} (h : NotIn i l k) (hk : k < l.length) (hp : l[k] ≠ i) : NotIn i l (k + 1) := fun j hj hl => if e : j = k then by subst e; exact hp else h j hj (by omega)
set_option maxRecDepth 100000 in
set_option maxHeartbeats 8000000 in
theorem has_any (l : List Int) (n : Nat) (hn : l.length = n) (h1000 : n ≤ 1000) (A : Option Addr) (c : Nat) (i : Int) (w : World) (hA : NsAt w A l) :
    Calls Try.prog 22 #[.slice A n c, .int .i64 i] w fun e w' => e = .returned (.bool (decide (i ∈ l))) ∧ Below w.heap.size w w' := by
  have HN := Lib.hid hn
  have HA := Lib.hid hA
  clear hn hA
  go_enter Try.func22, Try.ntmps22
  go_wp2
  go_loopw [5] (fun s5 wr => ∃ k : Nat, k ≤ n ∧ s5 = .int .i64 (k : Nat) ∧ Hid (NotIn i l k) ∧ Hid (Below w.heap.size w wr)) (fun s5 _ => n - (intOf s5).toNat)
  case atStart => exact ⟨0, Nat.zero_le _, rfl, Lib.hid (fun j _ h => absurd h (Nat.not_lt_zero _)), Lib.hid (Below.refl _ _)⟩
  case round =>
    obtain ⟨k, hk, rfl, HM, HB⟩ := hrel
    by_cases hlt : k < n
    · have hkl : k < l.length := by rw [HN.out]; exact hlt
      obtain ⟨g, o, rfl, hg, hcl⟩ := HA.out.pos (by omega)
      have z0 := (HB.out.cell (p := ⟨g, o + k, none⟩) hg).trans (hcl k hkl)
      have HY := Lib.hid (fun (h : l[k] = i) => (decide_eq_true (by rw [← h]; exact List.getElem_mem hkl) : decide (i ∈ l) = true))
      have HX := Lib.hid (fun (h : l[k] ≠ i) => HM.out.succ hkl h)
      clear hcl
      generalize l[k] = v at z0 HY HX
      by_cases hv : v = i
      · have HE := Lib.hid (HY.out hv)
        have hv' : (v == i) = true := by simpa using hv
        clear HY HX hv
        go_wp2
        go_ret
        exact ⟨by rw [HE.out]; rfl, HB.out⟩
      · have hv' : (v == i) = false := by simpa using hv
        have HE := Lib.hid (HX.out hv)
        clear HY HX hv
        go_wp2
        go_roundw
        case rel => exact ⟨k + 1, by omega, by go_num, HE, HB⟩
        case measure => simp [intOf]; omega
    · obtain rfl : k = n := by omega
      have HE := Lib.hid (decide_eq_false (fun h => by
        obtain ⟨j, hj, he⟩ := List.mem_iff_getElem.1 h
        exact HM.out j hj (by rw [← HN.out]; exact hj) he) : decide (i ∈ l) = false)
      go_wp2
      go_ret
      exact ⟨by rw [HE.out]; rfl, HB.out⟩
theorem Agr.all {α : Type} {a b : List α} {k : Nat} (h : Agr a b k) (ha : a.length = k) (hb : b.length = k) : a = b := by
  unfold Agr at h
  rwa [List.take_of_length_le (by omega), List.take_of_length_le (by omega)] at h
set_option maxRecDepth 100000 in
set_option maxHeartbeats 8000000 in
theorem same_any (a b : List Int) (n m : Nat) (hn : a.length = n) (hm : b.length = m) (h1000 : n ≤ 1000) (h1001 : m ≤ 1000) (A B : Option Addr) (c d : Nat) (w : World) (hA : NsAt w A a) (hB : NsAt w B b) :
    Calls Try.prog 42 #[.slice A n c, .slice B m d] w fun e w' => e = .returned (.bool (decide (a = b))) ∧ Below w.heap.size w w' := by
  have HN := Lib.hid hn
  have HM := Lib.hid hm
  have HA := Lib.hid hA
  have HBB := Lib.hid hB
  clear hn hm hA hB
  by_cases hnm : n = m
  case neg =>
    have e1 : ((n : Int) == (m : Int)) = false := neB (by omega)
    have HE := Lib.hid (decide_eq_false (fun h => hnm (by rw [← HN.out, ← HM.out, h])) : decide (a = b) = false)
    have hb0 := Below.refl w.heap.size w
    go_enter Try.func42, Try.ntmps42
    go_wp2
    go_ret
    exact ⟨by rw [HE.out]; rfl, hb0⟩
  subst hnm
  go_enter Try.func42, Try.ntmps42
  go_wp2_with fail
  go_loopw [5] (fun s5 wr => ∃ k : Nat, k ≤ n ∧ s5 = .int .i64 (k : Nat) ∧ Hid (Agr a b k) ∧ Hid (Below w.heap.size w wr)) (fun s5 _ => n - (intOf s5).toNat)
  case atStart => exact ⟨0, Nat.zero_le _, rfl, Lib.hid rfl, Lib.hid (Below.refl _ _)⟩
  case round =>
    obtain ⟨k, hk, rfl, HG, HB⟩ := hrel
    by_cases hlt : k < n
    · have hka : k < a.length := by rw [HN.out]; exact hlt
      have hkb : k < b.length := by rw [HM.out]; exact hlt
      obtain ⟨g, o, rfl, hg, hcl⟩ := HA.out.pos (by omega)
      obtain ⟨g2, o2, rfl, hg2, hcl2⟩ := HBB.out.pos (by omega)
      have z0 := (HB.out.cell (p := ⟨g, o + k, none⟩) hg).trans (hcl k hka)
      have z1 := (HB.out.cell (p := ⟨g2, o2 + k, none⟩) hg2).trans (hcl2 k hkb)
      have f0 : (0 : Int) ≤ (k : Int) := by omega
      have f1 : (k : Int) < (n : Int) := by omega
      have HY := Lib.hid (fun (h : a[k] ≠ b[k]) => (decide_eq_false (neq_at hka hkb h) : decide (a = b) = false))
      have HX := Lib.hid (fun (h : a[k] = b[k]) => HG.out.succ hka hkb h)
      clear hcl hcl2
      generalize a[k] = u at z0 HY HX
      generalize b[k] = v at z1 HY HX
      by_cases hv : u = v
      · have HE := Lib.hid (HX.out hv)
        have hv' : (u == v) = true := by simpa using hv
        clear HY HX hv
        go_wp2
        go_quiet (fail)
        go_wp2
        go_roundw
        case rel => exact ⟨k + 1, by omega, by go_num, HE, Lib.hid (bdrew HB.out _)⟩
        case measure => simp [intOf]; omega
      · have hv' : (u == v) = false := by simpa using hv
        have HE := Lib.hid (HY.out hv)
        clear HY HX hv
        go_wp2
        go_quiet (fail)
        go_wp2
        go_ret
        exact ⟨by rw [HE.out]; rfl, bdrew HB.out _⟩
    · obtain rfl : k = n := by omega
      have HE := Lib.hid (decide_eq_true (HG.out.all HN.out HM.out) : decide (a = b) = true)
      go_wp2
      go_ret
      exact ⟨by rw [HE.out]; rfl, HB.out⟩

/-! ## Valid lists of revisions -/
/-- The error of a list of revisions behind p. -/
def ckGo : Option Int → List Int → Int
  | _, [] => 0
  | none, v :: t => if v < 1 then 22 else if 1073741824 < v then 22 else ckGo (some v) t
  | some u, v :: t => if v < 1 then 22 else if 1073741824 < v then 22 else if v = u then 7 else if v < u then 6 else ckGo (some v) t
def ckR (l : List Int) : Int := ckGo none l
def prv (l : List Int) (k : Nat) : Option Int := if k = 0 then none else l[k - 1]?
def CkAt (l : List Int) (k : Nat) : Prop := ckR l = ckGo (prv l k) (l.drop k)
theorem prv_succ {l : List Int} {k : Nat} (h : k < l.length) : prv l (k + 1) = some l[k] := by unfold prv; rw [if_neg (by omega), Nat.add_sub_cancel, List.getElem?_eq_getElem h]
theorem prv_zero (l : List Int) : prv l 0 = none := rfl
theorem ck_drop {l : List Int} {k : Nat} (h : k < l.length) : l.drop k = l[k] :: l.drop (k + 1) := List.drop_eq_getElem_cons h
theorem ckGo_low (p : Option Int) {v : Int} {t : List Int} (h : v < 1) : ckGo p (v :: t) = 22 := by cases p <;> simp [ckGo, h]
theorem ckGo_high (p : Option Int) {v : Int} {t : List Int} (h : 1073741824 < v) : ckGo p (v :: t) = 22 := by cases p <;> simp [ckGo, h]
theorem ckGo_none {v : Int} {t : List Int} (h1 : ¬ v < 1) (h2 : ¬ 1073741824 < v) : ckGo none (v :: t) = ckGo (some v) t := by simp [ckGo, h1, h2]
theorem ckGo_dup {v : Int} {t : List Int} (h1 : ¬ v < 1) (h2 : ¬ 1073741824 < v) : ckGo (some v) (v :: t) = 7 := by simp [ckGo, h1, h2]
theorem ckGo_ord {u v : Int} {t : List Int} (h1 : ¬ v < 1) (h2 : ¬ 1073741824 < v) (h3 : v < u) : ckGo (some u) (v :: t) = 6 := by
  have h4 : ¬ v = u := by omega
  simp [ckGo, h1, h2, h3, h4]
theorem ckGo_next {u v : Int} {t : List Int} (h1 : ¬ v < 1) (h2 : ¬ 1073741824 < v) (h3 : ¬ v < u) (h4 : ¬ v = u) : ckGo (some u) (v :: t) = ckGo (some v) t := by simp [ckGo, h1, h2, h3, h4]
/-- Revisions from 1 to the greatest, in increasing order. -/
def RevL (l : List Int) : Prop := (∀ v ∈ l, 1 ≤ v ∧ v ≤ 1073741824) ∧ l.Pairwise (· < ·)
theorem ckGo_iff (l : List Int) : ∀ p : Option Int, ckGo p l = 0 ↔ RevL l ∧ ∀ u, p = some u → ∀ v ∈ l, u < v := by
  induction l with
  | nil => intro p; cases p <;> simp [ckGo, RevL]
  | cons x t ih =>
    intro p
    by_cases h1 : x < 1
    · rw [ckGo_low p h1]; constructor
      · intro h; cases h
      · intro h; have := (h.1.1 x (by simp)).1; omega
    by_cases h2 : 1073741824 < x
    · rw [ckGo_high p h2]; constructor
      · intro h; cases h
      · intro h; have := (h.1.1 x (by simp)).2; omega
    have key : ckGo (some x) t = 0 ↔ RevL (x :: t) := by
      rw [ih (some x)]
      unfold RevL
      rw [List.pairwise_cons]
      constructor
      · rintro ⟨⟨a, b⟩, c⟩; exact ⟨fun v hv => (List.mem_cons.1 hv).elim (fun e => by subst e; omega) (a v), fun v hv => c x rfl v hv, b⟩
      · rintro ⟨a, b, c⟩; exact ⟨⟨fun v hv => a v (by simp [hv]), c⟩, fun u hu v hv => by cases hu; exact b v hv⟩
    cases p with
    | none => rw [ckGo_none h1 h2, key]; simp
    | some u =>
      by_cases h4 : x = u
      · subst h4; rw [ckGo_dup h1 h2]; constructor
        · intro h; cases h
        · intro h; have := h.2 x rfl x (by simp); omega
      by_cases h3 : x < u
      · rw [ckGo_ord h1 h2 h3]; constructor
        · intro h; cases h
        · intro h; have := h.2 u rfl x (by simp); omega
      rw [ckGo_next h1 h2 h3 h4, key]
      constructor
      · intro h; refine ⟨h, fun w hw v hv => ?_⟩
        cases hw
        rcases List.mem_cons.1 hv with rfl | hv
        · omega
        · have := (List.pairwise_cons.1 h.2).1 v hv; omega
      · exact fun h => h.1
theorem ckR_iff (l : List Int) : ckR l = 0 ↔ RevL l := by unfold ckR; rw [ckGo_iff]; simp
set_option maxRecDepth 100000 in
set_option maxHeartbeats 8000000 in
theorem checkrevs_any (l : List Int) (n : Nat) (hn : l.length = n) (h1000 : n ≤ 100000) (A : Option Addr) (c : Nat) (w : World) (hA : NsAt w A l) :
    Calls Try.prog 76 #[.slice A n c] w fun e w' => e = .returned (.int .i64 (ckR l)) ∧ Below w.heap.size w w' := by
  have HN := Lib.hid hn
  have HA := Lib.hid hA
  clear hn hA
  go_enter Try.func76, Try.ntmps76
  go_wp2_with fail
  go_loopw [3, 4, 7, 12, 19, 31] (fun _ _ s7 _ _ _ wr => ∃ k : Nat, k ≤ n ∧ s7 = .int .i64 (k : Nat) ∧ Hid (CkAt l k) ∧ Hid (Below w.heap.size w wr)) (fun _ _ s7 _ _ _ _ => n - (intOf s7).toNat)
  case atStart => exact ⟨0, Nat.zero_le _, rfl, Lib.hid rfl, Lib.hid (Below.refl _ _)⟩
  case round =>
    obtain ⟨k, hk, rfl, HM, HB⟩ := hrel
    by_cases hlt : k < n
    · have hkl : k < l.length := by rw [HN.out]; exact hlt
      obtain ⟨g, o, rfl, hg, hcl⟩ := HA.out.pos (by omega)
      have z0 := (HB.out.cell (p := ⟨g, o + k, none⟩) hg).trans (hcl k hkl)
      have f0 : (0 : Int) ≤ (k : Int) := by omega
      have f1 : (k : Int) < (n : Int) := by omega
      have HD := Lib.hid (HM.out.trans (by rw [ck_drop hkl]))
      have HS := Lib.hid (fun (h : ckR l = ckGo (some l[k]) (l.drop (k + 1))) => (h.trans (by rw [prv_succ hkl]) : CkAt l (k + 1)))
      rcases Nat.eq_zero_or_pos k with h0 | h0
      · subst h0
        have HD2 := Lib.hid (show ckR l = ckGo none (l[0] :: l.drop (0 + 1)) from HD.out)
        rw [Nat.add_zero] at z0
        clear hcl HD
        generalize l[0] = v at z0 HS HD2
        by_cases h1 : v < 1
        · have HE := Lib.hid (HD2.out.trans (ckGo_low _ h1))
          have b1 : decide (v < 1) = true := decide_eq_true h1
          clear HS HD2
          go_wp2
          go_ret
          exact ⟨by rw [HE.out]; rfl, HB.out⟩
        · have b1 : decide (v < 1) = false := decide_eq_false h1
          by_cases h2 : 1073741824 < v
          · have HE := Lib.hid (HD2.out.trans (ckGo_high _ h2))
            have b2 : decide (1073741824 < v) = true := decide_eq_true h2
            clear HS HD2
            go_wp2
            go_ret
            exact ⟨by rw [HE.out]; rfl, HB.out⟩
          · have b2 : decide (1073741824 < v) = false := decide_eq_false h2
            have HE := Lib.hid (HS.out (HD2.out.trans (ckGo_none h1 h2)))
            clear HS HD2
            go_wp2
            go_roundw
            case rel => exact ⟨0 + 1, by omega, by go_num, HE, HB⟩
            case measure => simp [intOf]; omega
      · obtain ⟨q, rfl⟩ : ∃ q, k = q + 1 := ⟨k - 1, by omega⟩
        have hql : q < l.length := by omega
        have z1 := (HB.out.cell (p := ⟨g, o + q, none⟩) hg).trans (hcl q hql)
        have g0 : (0 : Int) < (q : Int) + 1 := by omega
        have g1 : (0 : Int) ≤ (q : Int) := by omega
        have g2 : (q : Int) < (n : Int) := by omega
        have g3 : (q : Int) + 1 - 1 = (q : Int) := by omega
        have g4 : IntKind.i64.wrap ((q : Int) + 1 - 1) = (q : Int) := by rw [IntKind.wrap_i64]; omega
        have g5 : IntKind.i64.wrap (q : Int) = (q : Int) := by rw [IntKind.wrap_i64]; omega
        have HD2 := Lib.hid (show ckR l = ckGo (some l[q]) (l[q + 1] :: l.drop (q + 1 + 1)) from HD.out.trans (by rw [prv_succ hql]))
        clear hcl HD
        generalize l[q] = u at z1 HD2
        generalize l[q + 1] = v at z0 HS HD2
        by_cases h1 : v < 1
        · have HE := Lib.hid (HD2.out.trans (ckGo_low _ h1))
          have b1 : decide (v < 1) = true := decide_eq_true h1
          clear HS HD2
          go_wp2
          go_ret
          exact ⟨by rw [HE.out]; rfl, HB.out⟩
        · have b1 : decide (v < 1) = false := decide_eq_false h1
          by_cases h2 : 1073741824 < v
          · have HE := Lib.hid (HD2.out.trans (ckGo_high _ h2))
            have b2 : decide (1073741824 < v) = true := decide_eq_true h2
            clear HS HD2
            go_wp2
            go_ret
            exact ⟨by rw [HE.out]; rfl, HB.out⟩
          · have b2 : decide (1073741824 < v) = false := decide_eq_false h2
            by_cases h4 : v = u
            · have HE := Lib.hid (show ckR l = 7 from HD2.out.trans (by rw [← h4]; exact ckGo_dup h1 h2))
              have b4 : (v == u) = true := by simpa using h4
              clear HS HD2 h4
              go_wp2
              go_ret
              exact ⟨by rw [HE.out]; rfl, HB.out⟩
            · have b4 : (v == u) = false := neB h4
              by_cases h3 : v < u
              · have HE := Lib.hid (HD2.out.trans (ckGo_ord h1 h2 h3))
                have b3 : decide (v < u) = true := decide_eq_true h3
                clear HS HD2 h4
                go_wp2
                go_ret
                exact ⟨by rw [HE.out]; rfl, HB.out⟩
              · have HE := Lib.hid (HS.out (HD2.out.trans (ckGo_next h1 h2 h3 h4)))
                have b3 : decide (v < u) = false := decide_eq_false h3
                clear HS HD2 h4
                go_wp2
                go_roundw
                case rel => exact ⟨q + 1 + 1, by omega, by go_num, HE, HB⟩
                case measure => simp [intOf]; omega
    · obtain rfl : k = n := by omega
      have HE := Lib.hid (show ckR l = 0 from HM.out.trans (by rw [List.drop_of_length_le (by rw [HN.out]; exact Nat.le_refl _)]; cases prv l k <;> rfl))
      go_wp2
      go_ret
      exact ⟨by rw [HE.out]; rfl, HB.out⟩
end Go.Proofs.Ytjhppkjngifibaa
