/- Layer 22: the reference's find (21), has (20), same (31), sameRevs (22). -/
import Derived.Test.YtmpklkhjipclmaaV1
import Derived.Lib.Hide
import Derived.Deep.QuietTactic
import Derived.BigQuiet
namespace Go.Proofs.Ytmpklkhjipclmaa
open Go.RowKit Go.Lib
set_option linter.unusedVariables false

/-- The place of the first revision with an id, or -1. -/
def fnd (i : Int) (l : List Rv) : Int := match l.findIdx? (fun x => x.id == i) with
  | some k => (k : Int)
  | none => -1
theorem fnd_yes {i : Int} {l : List Rv} {k : Nat} (h : k < l.length) (hp : l[k].id = i) (hn : ∀ j (h : j < l.length), j < k → l[j].id ≠ i) : fnd i l = (k : Int) := by
  have : l.findIdx? (fun x => x.id == i) = some k := by
    rw [List.findIdx?_eq_some_iff_getElem]
    exact ⟨h, by simpa using hp, fun j hj => by simpa using hn j (by omega) hj⟩
  unfold fnd; rw [this]
theorem fnd_no {i : Int} {l : List Rv} (hn : ∀ j (h : j < l.length), l[j].id ≠ i) : fnd i l = -1 := by
  have : l.findIdx? (fun x => x.id == i) = none := by
    rw [List.findIdx?_eq_none_iff]
    intro x hx
    obtain ⟨j, hj, rfl⟩ := List.mem_iff_getElem.1 hx
    simpa using hn j hj
  unfold fnd; rw [this]
theorem fnd_or (i : Int) (l : List Rv) : (∃ (k : Nat) (h : k < l.length), fnd i l = (k : Int) ∧ l[k].id = i ∧ ∀ j (h : j < l.length), j < k → l[j].id ≠ i) ∨ (fnd i l = -1 ∧ ∀ j (h : j < l.length), l[j].id ≠ i) := by
  cases h : l.findIdx? (fun x => x.id == i) with
  | some k =>
    obtain ⟨hk, hp, hn⟩ := List.findIdx?_eq_some_iff_getElem.1 h
    have hn' : ∀ j (hj : j < l.length), j < k → l[j].id ≠ i := fun j hj hl => by have := hn j hl; simpa using this
    have hp' : l[k].id = i := by simpa using hp
    exact .inl ⟨k, hk, fnd_yes hk hp' hn', hp', hn'⟩
  | none =>
    have hn : ∀ j (hj : j < l.length), l[j].id ≠ i := fun j hj => by have := List.findIdx?_eq_none_iff.1 h _ (List.getElem_mem hj); simpa using this
    exact .inr ⟨fnd_no hn, hn⟩
def Before (i : Int) (l : List Rv) (k : Nat) : Prop := ∀ j (h : j < l.length), j < k → l[j].id ≠ i
theorem Before.zero (i : Int) (l : List Rv) : Before i l 0 := fun j _ h => absurd h (Nat.not_lt_zero _)
theorem Before.succ {i : Int} {l : List Rv} {k : Nat} (h : Before i l k) (hk : k < l.length) (hp : l[k].id ≠ i) : Before i l (k + 1) := fun j hj hl => if e : j = k then by subst e; exact hp else h j hj (by omega)

set_option maxRecDepth 100000 in
set_option maxHeartbeats 8000000 in
theorem rfind_any (l : List Rv) (n : Nat) (hn : l.length = n) (h1000 : n ≤ 1000) (A : Option Addr) (c : Nat) (i : Int) (w : World) (hA : RsAt w A l) :
    Calls Try.prog 21 #[.slice A n c, .int .i64 i] w fun e w' => e = .returned (.int .i64 (fnd i l)) ∧ Below w.heap.size w w' := by
  have HN := Lib.hid hn
  have HA := Lib.hid hA
  clear hn hA
  go_enter Try.func21, Try.ntmps21
  go_wp2
  go_loopw [5] (fun s5 wr => ∃ k : Nat, k ≤ n ∧ s5 = .int .i64 (k : Nat) ∧ Hid (Before i l k) ∧ Hid (Below w.heap.size w wr)) (fun s5 _ => n - (intOf s5).toNat)
  case atStart => exact ⟨0, Nat.zero_le _, rfl, Lib.hid (Before.zero _ _), Lib.hid (Below.refl _ _)⟩
  case round =>
    obtain ⟨k, hk, rfl, HM, HB⟩ := hrel
    by_cases hlt : k < n
    · have hkl : k < l.length := by rw [HN.out]; exact hlt
      obtain ⟨g, o, rfl, hg, hcl⟩ := HA.out.pos (by omega)
      obtain ⟨c0, _⟩ := hcl k hkl
      have z0 := (HB.out.cell (p := ⟨g, o + k * 3, none⟩) hg).trans c0
      have HY := Lib.hid (fun (h : l[k].id = i) => fnd_yes hkl h HM.out)
      have HX := Lib.hid (fun (h : l[k].id ≠ i) => HM.out.succ hkl h)
      clear hcl c0
      generalize l[k].id = v at z0 HY HX
      by_cases hv : v = i
      · have HE := Lib.hid (HY.out hv)
        have hv' : (v == i) = true := by simpa using hv
        clear HY HX hv
        go_wp2
        go_ret
        exact ⟨by rw [← HE.out]; rfl, HB.out⟩
      · have hv' : (v == i) = false := by simpa using hv
        have HE := Lib.hid (HX.out hv)
        clear HY HX hv
        go_wp2
        go_roundw
        case rel => exact ⟨k + 1, by omega, by go_num, HE, HB⟩
        case measure => simp [intOf]; omega
    · obtain rfl : k = n := by omega
      have HE := Lib.hid (fnd_no (i := i) (l := l) fun j h => HM.out j h (by rw [← HN.out]; exact h))
      go_wp2
      go_ret
      exact ⟨by rw [HE.out]; rfl, HB.out⟩

/-- Numbers in memory. -/
def NsAt (w : World) (A : Option Addr) (l : List Int) : Prop := l = [] ∨ ∃ g o, A = some ⟨g, o, none⟩ ∧ g < w.heap.size ∧ ∀ k (h : k < l.length), w.cell? ⟨g, o + k, none⟩ = some (.int .i64 l[k])
theorem NsAt.below {w w' : World} {A : Option Addr} {l : List Int} (h : NsAt w A l) (hb : Below w.heap.size w w') : NsAt w' A l := by
  rcases h with h | ⟨g, o, h1, h2, h3⟩
  · exact .inl h
  · exact .inr ⟨g, o, h1, Nat.lt_of_lt_of_le h2 hb.size, fun k hk => (hb.cell (p := ⟨g, o + k, none⟩) h2).trans (h3 k hk)⟩
theorem NsAt.pos {w : World} {A : Option Addr} {l : List Int} (h : NsAt w A l) (hp : 0 < l.length) : ∃ g o, A = some ⟨g, o, none⟩ ∧ g < w.heap.size ∧ ∀ k (h : k < l.length), w.cell? ⟨g, o + k, none⟩ = some (.int .i64 l[k]) := by
  rcases h with h | h
  · rw [h] at hp; exact absurd hp (Nat.lt_irrefl _)
  · exact h
theorem NsAt.take {w : World} {A : Option Addr} {l : List Int} (h : NsAt w A l) (m : Nat) : NsAt w A (l.take m) := by
  rcases h with h | ⟨g, o, h1, h2, h3⟩
  · left; rw [h]; exact List.take_nil
  · refine .inr ⟨g, o, h1, h2, fun k hk => ?_⟩
    rw [List.getElem_take]
    exact h3 k (by rw [List.length_take] at hk; omega)
def NotIn (i : Int) (l : List Int) (k : Nat) : Prop := ∀ j (h : j < l.length), j < k → l[j] ≠ i
theorem NotIn.succ {i : Int} {l : List Int} {k : Nat} (h : NotIn i l k) (hk : k < l.length) (hp : l[k] ≠ i) : NotIn i l (k + 1) := fun j hj hl => if e : j = k then by subst e; exact hp else h j hj (by omega)
set_option maxRecDepth 100000 in
set_option maxHeartbeats 8000000 in
theorem has_any (l : List Int) (n : Nat) (hn : l.length = n) (h1000 : n ≤ 1000) (A : Option Addr) (c : Nat) (i : Int) (w : World) (hA : NsAt w A l) :
    Calls Try.prog 20 #[.slice A n c, .int .i64 i] w fun e w' => e = .returned (.bool (decide (i ∈ l))) ∧ Below w.heap.size w w' := by
  have HN := Lib.hid hn
  have HA := Lib.hid hA
  clear hn hA
  go_enter Try.func20, Try.ntmps20
  go_wp2
  go_loopw [5] (fun s5 wr => ∃ k : Nat, k ≤ n ∧ s5 = .int .i64 (k : Nat) ∧ Hid (NotIn i l k) ∧ Hid (Below w.heap.size w wr)) (fun s5 _ => n - (intOf s5).toNat)
  case atStart => exact ⟨0, Nat.zero_le _, rfl, Lib.hid (fun j _ h => absurd h (Nat.not_lt_zero _)), Lib.hid (Below.refl _ _)⟩
  case round =>
    obtain ⟨k, hk, rfl, HM, HB⟩ := hrel
    by_cases hlt : k < n
    · have hkl : k < l.length := by rw [HN.out]; exact hlt
      obtain ⟨g, o, rfl, hg, hcl⟩ := HA.out.pos (by omega)
      have z0 := (HB.out.cell (p := ⟨g, o + k, none⟩) hg).trans (hcl k hkl)
      have HY := Lib.hid (fun (h : l[k] = i) => (decide_eq_true (by rw [← h]; exact List.getElem_mem hkl) : decide (i ∈ l) = true))
      have HX := Lib.hid (fun (h : l[k] ≠ i) => HM.out.succ hkl h)
      clear hcl
      generalize l[k] = v at z0 HY HX
      by_cases hv : v = i
      · have HE := Lib.hid (HY.out hv)
        have hv' : (v == i) = true := by simpa using hv
        clear HY HX hv
        go_wp2
        go_ret
        exact ⟨by rw [HE.out]; rfl, HB.out⟩
      · have hv' : (v == i) = false := by simpa using hv
        have HE := Lib.hid (HX.out hv)
        clear HY HX hv
        go_wp2
        go_roundw
        case rel => exact ⟨k + 1, by omega, by go_num, HE, HB⟩
        case measure => simp [intOf]; omega
    · obtain rfl : k = n := by omega
      have HE := Lib.hid (decide_eq_false (fun h => by
        obtain ⟨j, hj, he⟩ := List.mem_iff_getElem.1 h
        exact HM.out j hj (by rw [← HN.out]; exact hj) he) : decide (i ∈ l) = false)
      go_wp2
      go_ret
      exact ⟨by rw [HE.out]; rfl, HB.out⟩
/-- Two lists agree up to k. -/
def Agr {α : Type} (a b : List α) (k : Nat) : Prop := a.take k = b.take k
theorem Agr.succ {α : Type} {a b : List α} {k : Nat} (h : Agr a b k) (ha : k < a.length) (hb : k < b.length) (he : a[k] = b[k]) : Agr a b (k + 1) := by
  unfold Agr at *
  rw [List.take_succ_eq_append_getElem ha, List.take_succ_eq_append_getElem hb, h, he]
theorem Agr.all {α : Type} {a b : List α} {k : Nat} (h : Agr a b k) (ha : a.length = k) (hb : b.length = k) : a = b := by
  unfold Agr at h
  rwa [List.take_of_length_le (by omega), List.take_of_length_le (by omega)] at h
theorem ne_at {α : Type} {a b : List α} {k : Nat} (ha : k < a.length) (hb : k < b.length) (he : a[k] ≠ b[k]) : a ≠ b := by rintro rfl; exact he rfl
set_option maxRecDepth 100000 in
set_option maxHeartbeats 8000000 in
theorem same_any (a b : List Int) (n m : Nat) (hn : a.length = n) (hm : b.length = m) (h1000 : n ≤ 1000) (h1001 : m ≤ 1000) (A B : Option Addr) (c d : Nat) (w : World) (hA : NsAt w A a) (hB : NsAt w B b) :
    Calls Try.prog 31 #[.slice A n c, .slice B m d] w fun e w' => e = .returned (.bool (decide (a = b))) ∧ Below w.heap.size w w' := by
  have HN := Lib.hid hn
  have HM := Lib.hid hm
  have HA := Lib.hid hA
  have HBB := Lib.hid hB
  clear hn hm hA hB
  by_cases hnm : n = m
  case neg =>
    have e1 : ((n : Int) == (m : Int)) = false := neB (by omega)
    have HE := Lib.hid (decide_eq_false (fun h => hnm (by rw [← HN.out, ← HM.out, h])) : decide (a = b) = false)
    have hb0 := Below.refl w.heap.size w
    go_enter Try.func31, Try.ntmps31
    go_wp2
    go_ret
    exact ⟨by rw [HE.out]; rfl, hb0⟩
  subst hnm
  go_enter Try.func31, Try.ntmps31
  go_wp2_with fail
  go_loopw [5] (fun s5 wr => ∃ k : Nat, k ≤ n ∧ s5 = .int .i64 (k : Nat) ∧ Hid (Agr a b k) ∧ Hid (Below w.heap.size w wr)) (fun s5 _ => n - (intOf s5).toNat)
  case atStart => exact ⟨0, Nat.zero_le _, rfl, Lib.hid rfl, Lib.hid (Below.refl _ _)⟩
  case round =>
    obtain ⟨k, hk, rfl, HG, HB⟩ := hrel
    by_cases hlt : k < n
    · have hka : k < a.length := by rw [HN.out]; exact hlt
      have hkb : k < b.length := by rw [HM.out]; exact hlt
      obtain ⟨g, o, rfl, hg, hcl⟩ := HA.out.pos (by omega)
      obtain ⟨g2, o2, rfl, hg2, hcl2⟩ := HBB.out.pos (by omega)
      have z0 := (HB.out.cell (p := ⟨g, o + k, none⟩) hg).trans (hcl k hka)
      have z1 := (HB.out.cell (p := ⟨g2, o2 + k, none⟩) hg2).trans (hcl2 k hkb)
      have f0 : (0 : Int) ≤ (k : Int) := by omega
      have f1 : (k : Int) < (n : Int) := by omega
      have HY := Lib.hid (fun (h : a[k] ≠ b[k]) => (decide_eq_false (ne_at hka hkb h) : decide (a = b) = false))
      have HX := Lib.hid (fun (h : a[k] = b[k]) => HG.out.succ hka hkb h)
      clear hcl hcl2
      generalize a[k] = u at z0 HY HX
      generalize b[k] = v at z1 HY HX
      by_cases hv : u = v
      · have HE := Lib.hid (HX.out hv)
        have hv' : (u == v) = true := by simpa using hv
        clear HY HX hv
        go_wp2
        go_quiet (fail)
        go_wp2
        go_roundw
        case rel => exact ⟨k + 1, by omega, by go_num, HE, Lib.hid (bdrew HB.out _)⟩
        case measure => simp [intOf]; omega
      · have hv' : (u == v) = false := by simpa using hv
        have HE := Lib.hid (HY.out hv)
        clear HY HX hv
        go_wp2
        go_quiet (fail)
        go_wp2
        go_ret
        exact ⟨by rw [HE.out]; rfl, bdrew HB.out _⟩
    · obtain rfl : k = n := by omega
      have HE := Lib.hid (decide_eq_true (HG.out.all HN.out HM.out) : decide (a = b) = true)
      go_wp2
      go_ret
      exact ⟨by rw [HE.out]; rfl, HB.out⟩
end Go.Proofs.Ytmpklkhjipclmaa
