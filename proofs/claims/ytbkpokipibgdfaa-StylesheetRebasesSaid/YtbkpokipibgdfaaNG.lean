/- Layer 8: the texts S1 S2 S3 S4 S5. -/
import Derived.Test.YtbkpokipibgdfaaNE
import Derived.Test.YtbkpokipibgdfaaNC
import Derived.OwnWalk
import Derived.Maps.AppendAt
import Derived.Laws.OwnMore
import Derived.Maps.Own
import Derived.Maps.OwnSet
import Derived.Maps.Views

/- Layer 8: names of styles (17, 18). -/
namespace Go.Proofs.Ytbkpokipibgdfaa
open Go.RowKit Go.Lib
set_option linter.unusedVariables false

/-- The name of a style. -/
def NmOk (s : ByteArray) : Prop := 1 ≤ s.size ∧ s.size ≤ 40 ∧ (∀ h : 0 < s.size, s[0].toNat ≠ 32) ∧ (∀ k (h : k < s.size), k + 1 = s.size → s[k].toNat ≠ 32) ∧ ∀ k (h : k < s.size), 32 ≤ s[k].toNat ∧ s[k].toNat ≤ 126
noncomputable def nmB (s : ByteArray) : Bool := @decide (NmOk s) (Classical.propDecidable _)
theorem nmB_no {s : ByteArray} (h : ¬ NmOk s) : nmB s = false := by unfold nmB; exact @decide_eq_false _ (Classical.propDecidable _) h
theorem nmB_yes {s : ByteArray} (h : NmOk s) : nmB s = true := by unfold nmB; exact @decide_eq_true _ (Classical.propDecidable _) h
theorem nmB_iff {s : ByteArray} : nmB s = true ↔ NmOk s := by unfold nmB; exact @decide_eq_true_iff _ (Classical.propDecidable _)

set_option maxRecDepth 100000 in
set_option maxHeartbeats 8000000 in
theorem isname_any (s : ByteArray) (hs : s.size ≤ 1000000) (w : World) :
    Calls Try.prog 17 #[.string s] w fun e w' => e = .returned (.bool (nmB s)) ∧ w' = w := by
  go_enter Try.func17, Try.ntmps17
  by_cases h0 : s.size = 0
  · have e0 : ((s.size : Int) == 0) = true := by rw [beq_iff_eq]; omega
    have HE := Lib.hid (nmB_no (s := s) (fun h => by have := h.1; omega))
    clear h0
    go_wp2
    go_ret
    exact ⟨ret_bool' HE.out.symm, rfl⟩
  have e0 : ((s.size : Int) == 0) = false := by rw [beq_eq_false_iff_ne]; omega
  by_cases h40 : 40 < s.size
  · have e1 : decide ((40 : Int) < (s.size : Int)) = true := by simp; omega
    have HE := Lib.hid (nmB_no (s := s) (fun h => by have := h.2.1; omega))
    go_wp2
    go_ret
    exact ⟨ret_bool' HE.out.symm, rfl⟩
  have e1 : decide ((40 : Int) < (s.size : Int)) = false := by simp; omega
  have p0 : 0 < s.size := by omega
  by_cases hf : s[0].toNat = 32
  · have e2 : ((s[0].toNat : Int) == 32) = true := by rw [beq_iff_eq]; omega
    have HE := Lib.hid (nmB_no (s := s) (fun h => h.2.2.1 p0 hf))
    go_wp2
    go_ret
    exact ⟨ret_bool' HE.out.symm, rfl⟩
  have e2 : ((s[0].toNat : Int) == 32) = false := by rw [beq_eq_false_iff_ne]; omega
  obtain ⟨m, hm⟩ : ∃ m, m + 1 = s.size := ⟨s.size - 1, by omega⟩
  have pm : m < s.size := by omega
  have em : (s.size : Int) - 1 = (m : Int) := by omega
  have pm0 : (0 : Int) ≤ (m : Int) := by omega
  by_cases hl : s[m].toNat = 32
  · have e3 : ((s[m].toNat : Int) == 32) = true := by rw [beq_iff_eq]; omega
    have HE := Lib.hid (nmB_no (s := s) (fun h => h.2.2.2.1 m pm hm hl))
    go_wp2
    go_ret
    exact ⟨ret_bool' HE.out.symm, rfl⟩
  have e3 : ((s[m].toNat : Int) == 32) = false := by rw [beq_eq_false_iff_ne]; omega
  have HF := Lib.hid hf
  have hl2 : ∀ k (h : k < s.size), k + 1 = s.size → s[k].toNat ≠ 32 := by
    intro k h e
    obtain rfl : k = m := by omega
    exact hl
  have HL := Lib.hid hl2
  have HS := Lib.hid (show 1 ≤ s.size ∧ s.size ≤ 40 from ⟨p0, by omega⟩)
  clear hf hl hl2
  go_wp2
  go_loopw [3, 27] (fun _ i wr => ∃ k : Nat, k ≤ s.size ∧ i = .int .i64 (k : Nat) ∧ Hid (∀ j (h : j < s.size), j < k → 32 ≤ s[j].toNat ∧ s[j].toNat ≤ 126) ∧ wr = w) (fun _ i _ => s.size - (intOf i).toNat)
  case atStart => exact ⟨0, Nat.zero_le _, rfl, Lib.hid (fun j _ h => absurd h (Nat.not_lt_zero _)), rfl⟩
  case round =>
    obtain ⟨k, hk, rfl, HM, rfl⟩ := hrel
    by_cases hlt : k < s.size
    · by_cases h1 : s[k].toNat < 32
      · have d1 : decide ((s[k].toNat : Int) < 32) = true := by simp; omega
        have HE := Lib.hid (nmB_no (s := s) (fun h => by have := (h.2.2.2.2 k hlt).1; omega))
        go_wp2
        go_ret
        exact ⟨ret_bool' HE.out.symm, rfl⟩
      · have d1 : decide ((s[k].toNat : Int) < 32) = false := by simp; omega
        by_cases h2 : 126 < s[k].toNat
        · have d2 : decide ((126 : Int) < (s[k].toNat : Int)) = true := by simp; omega
          have HE := Lib.hid (nmB_no (s := s) (fun h => by have := (h.2.2.2.2 k hlt).2; omega))
          go_wp2
          go_ret
          exact ⟨ret_bool' HE.out.symm, rfl⟩
        · have d2 : decide ((126 : Int) < (s[k].toNat : Int)) = false := by simp; omega
          have HN := Lib.hid (show ∀ j (h : j < s.size), j < k + 1 → 32 ≤ s[j].toNat ∧ s[j].toNat ≤ 126 from fun j h hj => if e : j = k then by subst e; exact ⟨by omega, by omega⟩ else HM.out j h (by omega))
          clear h1 h2
          go_wp2
          go_roundw
          case rel => exact ⟨k + 1, by omega, by go_num, HN, trivial⟩
          case measure => simp [intOf]; omega
    · obtain rfl : k = s.size := by omega
      have HE := Lib.hid (nmB_yes (s := s) ⟨HS.out.1, HS.out.2, fun _ => HF.out, HL.out, fun j h => HM.out j h h⟩)
      go_wp2
      go_ret
      exact ⟨ret_bool' HE.out.symm, rfl⟩
set_option maxRecDepth 100000 in
set_option maxHeartbeats 8000000 in
theorem risname_any (s : ByteArray) (hs : s.size ≤ 1000000) (w : World) :
    Calls Try.prog 18 #[.string s] w fun e w' => e = .returned (.bool (nmB s)) ∧ w' = w := by
  go_enter Try.func18, Try.ntmps18
  by_cases h0 : s.size = 0
  · have e0 : decide ((s.size : Int) < 1) = true := by simp; omega
    have HE := Lib.hid (nmB_no (s := s) (fun h => by have := h.1; omega))
    clear h0
    go_wp2
    go_ret
    exact ⟨ret_bool' HE.out.symm, rfl⟩
  have e0 : decide ((s.size : Int) < 1) = false := by simp; omega
  by_cases h40 : 40 < s.size
  · have e1 : decide ((40 : Int) < (s.size : Int)) = true := by simp; omega
    have HE := Lib.hid (nmB_no (s := s) (fun h => by have := h.2.1; omega))
    go_wp2
    go_ret
    exact ⟨ret_bool' HE.out.symm, rfl⟩
  have e1 : decide ((40 : Int) < (s.size : Int)) = false := by simp; omega
  have p0 : 0 < s.size := by omega
  by_cases hf : s[0].toNat = 32
  · have e2 : ((s[0].toNat : Int) == 32) = true := by rw [beq_iff_eq]; omega
    have HE := Lib.hid (nmB_no (s := s) (fun h => h.2.2.1 p0 hf))
    go_wp2
    go_ret
    exact ⟨ret_bool' HE.out.symm, rfl⟩
  have e2 : ((s[0].toNat : Int) == 32) = false := by rw [beq_eq_false_iff_ne]; omega
  obtain ⟨m, hm⟩ : ∃ m, m + 1 = s.size := ⟨s.size - 1, by omega⟩
  have pm : m < s.size := by omega
  have em : (s.size : Int) - 1 = (m : Int) := by omega
  have pm0 : (0 : Int) ≤ (m : Int) := by omega
  by_cases hl : s[m].toNat = 32
  · have e3 : ((s[m].toNat : Int) == 32) = true := by rw [beq_iff_eq]; omega
    have HE := Lib.hid (nmB_no (s := s) (fun h => h.2.2.2.1 m pm hm hl))
    go_wp2
    go_ret
    exact ⟨ret_bool' HE.out.symm, rfl⟩
  have e3 : ((s[m].toNat : Int) == 32) = false := by rw [beq_eq_false_iff_ne]; omega
  have HF := Lib.hid hf
  have hl2 : ∀ k (h : k < s.size), k + 1 = s.size → s[k].toNat ≠ 32 := by
    intro k h e
    obtain rfl : k = m := by omega
    exact hl
  have HL := Lib.hid hl2
  have HS := Lib.hid (show 1 ≤ s.size ∧ s.size ≤ 40 from ⟨p0, by omega⟩)
  clear hf hl hl2
  go_wp2
  go_loopw [3] (fun i wr => ∃ k : Nat, k ≤ s.size ∧ i = .int .i64 (k : Nat) ∧ Hid (∀ j (h : j < s.size), j < k → 32 ≤ s[j].toNat ∧ s[j].toNat ≤ 126) ∧ wr = w) (fun i _ => s.size - (intOf i).toNat)
  case atStart => exact ⟨0, Nat.zero_le _, rfl, Lib.hid (fun j _ h => absurd h (Nat.not_lt_zero _)), rfl⟩
  case round =>
    obtain ⟨k, hk, rfl, HM, rfl⟩ := hrel
    by_cases hlt : k < s.size
    · by_cases h1 : s[k].toNat < 32
      · have d1 : decide ((s[k].toNat : Int) < 32) = true := by simp; omega
        have HE := Lib.hid (nmB_no (s := s) (fun h => by have := (h.2.2.2.2 k hlt).1; omega))
        go_wp2
        go_ret
        exact ⟨ret_bool' HE.out.symm, rfl⟩
      · have d1 : decide ((s[k].toNat : Int) < 32) = false := by simp; omega
        by_cases h2 : 126 < s[k].toNat
        · have d2 : decide ((126 : Int) < (s[k].toNat : Int)) = true := by simp; omega
          have HE := Lib.hid (nmB_no (s := s) (fun h => by have := (h.2.2.2.2 k hlt).2; omega))
          go_wp2
          go_ret
          exact ⟨ret_bool' HE.out.symm, rfl⟩
        · have d2 : decide ((126 : Int) < (s[k].toNat : Int)) = false := by simp; omega
          have HN := Lib.hid (show ∀ j (h : j < s.size), j < k + 1 → 32 ≤ s[j].toNat ∧ s[j].toNat ≤ 126 from fun j h hj => if e : j = k then by subst e; exact ⟨by omega, by omega⟩ else HM.out j h (by omega))
          clear h1 h2
          go_wp2
          go_roundw
          case rel => exact ⟨k + 1, by omega, by go_num, HN, trivial⟩
          case measure => simp [intOf]; omega
    · obtain rfl : k = s.size := by omega
      have HE := Lib.hid (nmB_yes (s := s) ⟨HS.out.1, HS.out.2, fun _ => HF.out, HL.out, fun j h => HM.out j h h⟩)
      go_wp2
      go_ret
      exact ⟨ret_bool' HE.out.symm, rfl⟩
end Go.Proofs.Ytbkpokipibgdfaa

/- Layer 8: styles in memory; Find (21), FindName (20, 22, 48, 49). -/
namespace Go.Proofs.Ytbkpokipibgdfaa
open Go.RowKit Go.Lib
set_option linter.unusedVariables false

structure St where
  id : Int
  kind : Int
  name : ByteArray
  base : Int
  next : Int
  props : List Pr
instance : Inhabited St := ⟨⟨0, 0, ⟨#[]⟩, 0, 0, []⟩⟩
/-- A style in memory. -/
def StAt (w : World) (g o : Nat) (x : St) : Prop := ∃ (B : Option Addr) (c : Nat), w.cell? ⟨g, o, none⟩ = some (.int .i64 x.id) ∧ w.cell? ⟨g, o + 1, none⟩ = some (.int .i64 x.kind) ∧ w.cell? ⟨g, o + 2, none⟩ = some (.string x.name) ∧
  w.cell? ⟨g, o + 3, none⟩ = some (.int .i64 x.base) ∧ w.cell? ⟨g, o + 4, none⟩ = some (.int .i64 x.next) ∧ w.cell? ⟨g, o + 5, none⟩ = some (.slice B x.props.length c) ∧ x.props.length ≤ c ∧ c ≤ maxLen ∧ PrAt w B x.props
def LsAt (w : World) (A : Option Addr) (l : List St) : Prop := l = [] ∨ ∃ g o, A = some ⟨g, o, none⟩ ∧ g < w.heap.size ∧ ∀ k (h : k < l.length), StAt w g (o + k * 6) l[k]
theorem StAt.below {w w' : World} {g o : Nat} {x : St} (h : StAt w g o x) (hg : g < w.heap.size) (hb : Below w.heap.size w w') : StAt w' g o x := by
  obtain ⟨B, c, c0, c1, c2, c3, c4, c5, h1, h2, h⟩ := h
  exact ⟨B, c, (hb.cell (p := ⟨g, o, none⟩) hg).trans c0, (hb.cell (p := ⟨g, o + 1, none⟩) hg).trans c1, (hb.cell (p := ⟨g, o + 2, none⟩) hg).trans c2, (hb.cell (p := ⟨g, o + 3, none⟩) hg).trans c3,
    (hb.cell (p := ⟨g, o + 4, none⟩) hg).trans c4, (hb.cell (p := ⟨g, o + 5, none⟩) hg).trans c5, h1, h2, h.below hb (Nat.le_refl _)⟩
theorem LsAt.below {w w' : World} {A : Option Addr} {l : List St} (h : LsAt w A l) (hb : Below w.heap.size w w') : LsAt w' A l := by
  rcases h with h | ⟨g, o, h1, h2, h3⟩
  · exact .inl h
  · exact .inr ⟨g, o, h1, Nat.lt_of_lt_of_le h2 hb.size, fun k hk => (h3 k hk).below h2 hb⟩
theorem LsAt.pos {w : World} {A : Option Addr} {l : List St} (h : LsAt w A l) (hp : 0 < l.length) : ∃ g o, A = some ⟨g, o, none⟩ ∧ g < w.heap.size ∧ ∀ k (h : k < l.length), StAt w g (o + k * 6) l[k] := by
  rcases h with h | h
  · rw [h] at hp; exact absurd hp (Nat.lt_irrefl _)
  · exact h

/-- The place of the first that p holds of, or -1. -/
def fnd (p : St → Bool) (l : List St) : Int := match l.findIdx? p with
  | some k => (k : Int)
  | none => -1
theorem fnd_yes {p : St → Bool} {l : List St} {k : Nat} (h : k < l.length) (hp : p l[k] = true) (hn : ∀ j (h : j < l.length), j < k → p l[j] = false) : fnd p l = (k : Int) := by
  have : l.findIdx? p = some k := by
    rw [List.findIdx?_eq_some_iff_getElem]
    exact ⟨h, hp, fun j hj => by rw [hn j (by omega) hj]; simp⟩
  unfold fnd; rw [this]
theorem fnd_no {p : St → Bool} {l : List St} (hn : ∀ j (h : j < l.length), p l[j] = false) : fnd p l = -1 := by
  have : l.findIdx? p = none := by
    rw [List.findIdx?_eq_none_iff]
    intro x hx
    obtain ⟨j, hj, rfl⟩ := List.mem_iff_getElem.1 hx
    exact hn j hj
  unfold fnd; rw [this]
theorem fnd_or (p : St → Bool) (l : List St) : (∃ (k : Nat) (h : k < l.length), fnd p l = (k : Int) ∧ p l[k] = true ∧ ∀ j (h : j < l.length), j < k → p l[j] = false) ∨ (fnd p l = -1 ∧ ∀ j (h : j < l.length), p l[j] = false) := by
  cases h : l.findIdx? p with
  | some k =>
    obtain ⟨hk, hp, hn⟩ := List.findIdx?_eq_some_iff_getElem.1 h
    have hn' : ∀ j (hj : j < l.length), j < k → p l[j] = false := fun j hj hl => by have := hn j hl; simpa using this
    exact .inl ⟨k, hk, fnd_yes hk hp hn', hp, hn'⟩
  | none =>
    have hn : ∀ j (hj : j < l.length), p l[j] = false := fun j hj => List.findIdx?_eq_none_iff.1 h _ (List.getElem_mem hj)
    exact .inr ⟨fnd_no hn, hn⟩
def isId (i : Int) (x : St) : Bool := x.id == i
def isNm (k : Int) (s : ByteArray) (x : St) : Bool := x.kind == k && x.name.toList == s.toList
def Before (p : St → Bool) (l : List St) (k : Nat) : Prop := ∀ j (h : j < l.length), j < k → p l[j] = false
theorem Before.zero (p : St → Bool) (l : List St) : Before p l 0 := fun j _ h => absurd h (Nat.not_lt_zero _)
theorem Before.succ {p : St → Bool} {l : List St} {k : Nat} (h : Before p l k) (hk : k < l.length) (hp : p l[k] = false) : Before p l (k + 1) := fun j hj hl => if e : j = k then by subst e; exact hp else h j hj (by omega)

set_option maxRecDepth 100000 in
set_option maxHeartbeats 8000000 in
theorem rfind_any (l : List St) (n : Nat) (hn : l.length = n) (h1000 : n ≤ 1000) (A : Option Addr) (c : Nat) (i : Int) (w : World) (hA : LsAt w A l) :
    Calls Try.prog 21 #[.slice A n c, .int .i64 i] w fun e w' => e = .returned (.int .i64 (fnd (isId i) l)) ∧ Below w.heap.size w w' := by
  have HN := Lib.hid hn
  have HA := Lib.hid hA
  clear hn hA
  go_enter Try.func21, Try.ntmps21
  go_wp2
  go_loopw [5] (fun s5 wr => ∃ k : Nat, k ≤ n ∧ s5 = .int .i64 (k : Nat) ∧ Hid (Before (isId i) l k) ∧ Hid (Below w.heap.size w wr)) (fun s5 _ => n - (intOf s5).toNat)
  case atStart => exact ⟨0, Nat.zero_le _, rfl, Lib.hid (Before.zero _ _), Lib.hid (Below.refl _ _)⟩
  case round =>
    obtain ⟨k, hk, rfl, HM, HB⟩ := hrel
    by_cases hlt : k < n
    · have hkl : k < l.length := by rw [HN.out]; exact hlt
      obtain ⟨g, o, rfl, hg, hcl⟩ := HA.out.pos (by omega)
      obtain ⟨B, cc, c0, _⟩ := hcl k hkl
      have z0 := (HB.out.cell (p := ⟨g, o + k * 6, none⟩) hg).trans c0
      have HY := Lib.hid (fun (h : isId i l[k] = true) => fnd_yes hkl h HM.out)
      have HX := Lib.hid (fun (h : isId i l[k] = false) => HM.out.succ hkl h)
      clear hcl c0
      unfold isId at HY HX
      generalize l[k].id = v at z0 HY HX
      by_cases hv : (v == i) = true
      · have HE := Lib.hid (HY.out hv)
        clear HY HX
        go_wp2
        go_ret
        exact ⟨by rw [← HE.out]; rfl, HB.out⟩
      · have hv' : (v == i) = false := by simpa using hv
        have HE := Lib.hid (HX.out hv')
        clear HY HX hv
        go_wp2
        go_roundw
        case rel => exact ⟨k + 1, by omega, by go_num, HE, HB⟩
        case measure => simp [intOf]; omega
    · obtain rfl : k = n := by omega
      have HE := Lib.hid (fnd_no (p := isId i) (l := l) fun j h => HM.out j h (by rw [← HN.out]; exact h))
      go_wp2
      go_ret
      exact ⟨by rw [HE.out]; rfl, HB.out⟩

set_option maxRecDepth 100000 in
set_option maxHeartbeats 8000000 in
theorem rfindname_any (l : List St) (n : Nat) (hn : l.length = n) (h1000 : n ≤ 1000) (A : Option Addr) (c : Nat) (i : Int) (s : ByteArray) (w : World) (hA : LsAt w A l) :
    Calls Try.prog 22 #[.slice A n c, .int .i64 i, .string s] w fun e w' => e = .returned (.int .i64 (fnd (isNm i s) l)) ∧ Below w.heap.size w w' := by
  have HN := Lib.hid hn
  have HA := Lib.hid hA
  clear hn hA
  go_enter Try.func22, Try.ntmps22
  go_wp2
  go_loopw [7] (fun s5 wr => ∃ k : Nat, k ≤ n ∧ s5 = .int .i64 (k : Nat) ∧ Hid (Before (isNm i s) l k) ∧ Hid (Below w.heap.size w wr)) (fun s5 _ => n - (intOf s5).toNat)
  case atStart => exact ⟨0, Nat.zero_le _, rfl, Lib.hid (Before.zero _ _), Lib.hid (Below.refl _ _)⟩
  case round =>
    obtain ⟨k, hk, rfl, HM, HB⟩ := hrel
    by_cases hlt : k < n
    · have hkl : k < l.length := by rw [HN.out]; exact hlt
      obtain ⟨g, o, rfl, hg, hcl⟩ := HA.out.pos (by omega)
      obtain ⟨B, cc, _, c1, c2, _⟩ := hcl k hkl
      have z1 := (HB.out.cell (p := ⟨g, o + k * 6 + 1, none⟩) hg).trans c1
      have z2 := (HB.out.cell (p := ⟨g, o + k * 6 + 2, none⟩) hg).trans c2
      have HY := Lib.hid (fun (h : isNm i s l[k] = true) => fnd_yes hkl h HM.out)
      have HX := Lib.hid (fun (h : isNm i s l[k] = false) => HM.out.succ hkl h)
      clear hcl c1 c2
      unfold isNm at HY HX
      generalize l[k].kind = v at z1 HY HX
      generalize l[k].name = u at z2 HY HX
      by_cases hv : (v == i) = true
      · by_cases hu : (u.toList == s.toList) = true
        · have HE := Lib.hid (HY.out (by rw [hv, hu]; rfl))
          clear HY HX
          go_wp2
          go_ret
          exact ⟨by rw [← HE.out]; rfl, HB.out⟩
        · have hu' : (u.toList == s.toList) = false := by simpa using hu
          have HE := Lib.hid (HX.out (by rw [hv, hu']; rfl))
          clear HY HX hu
          go_wp2
          go_roundw
          case rel => exact ⟨k + 1, by omega, by go_num, HE, HB⟩
          case measure => simp [intOf]; omega
      · have hv' : (v == i) = false := by simpa using hv
        have HE := Lib.hid (HX.out (by rw [hv']; rfl))
        clear HY HX hv
        go_wp2
        go_roundw
        case rel => exact ⟨k + 1, by omega, by go_num, HE, HB⟩
        case measure => simp [intOf]; omega
    · obtain rfl : k = n := by omega
      have HE := Lib.hid (fnd_no (p := isNm i s) (l := l) fun j h => HM.out j h (by rw [← HN.out]; exact h))
      go_wp2
      go_ret
      exact ⟨by rw [HE.out]; rfl, HB.out⟩

abbrev stV (x : St) (B : Option Addr) (c : Nat) : Value := .agg #[.int .i64 x.id, .int .i64 x.kind, .string x.name, .int .i64 x.base, .int .i64 x.next, .slice B x.props.length c]
set_option maxRecDepth 100000 in
set_option maxHeartbeats 8000000 in
theorem isnm_any (a1 a2 a4 a5 : Int) (a3 : ByteArray) (B : Option Addr) (m c : Nat) (i : Int) (s : ByteArray) (b1 b2 : Nat) (w : World) (h1 : w.cell? ⟨b1, 0, none⟩ = some (.int .i64 i)) (h2 : w.cell? ⟨b2, 0, none⟩ = some (.string s)) :
    Calls Try.prog 49 #[.agg #[.int .i64 a1, .int .i64 a2, .string a3, .int .i64 a4, .int .i64 a5, .slice B m c], .pointer (some ⟨b1, 0, none⟩), .pointer (some ⟨b2, 0, none⟩)] w fun e w' => e = .returned (.bool (a2 == i && a3.toList == s.toList)) ∧ Below w.heap.size w w' := by
  have hb1 : b1 < w.heap.size := World.block_lt_of_cell? w ⟨b1, 0, none⟩ h1
  have hb2 : b2 < w.heap.size := World.block_lt_of_cell? w ⟨b2, 0, none⟩ h2
  have B0 := (Below.refl w.heap.size w).alloc (Nat.le_refl _) (.cells #[.int .i64 a1, .int .i64 a2, .string a3, .int .i64 a4, .int .i64 a5, .slice B m c] 28)
  have z1 := (B0.cell (p := ⟨b1, 0, none⟩) hb1).trans h1
  have z2 := (B0.cell (p := ⟨b2, 0, none⟩) hb2).trans h2
  have HB := Lib.hid B0
  clear B0 h1 h2
  go_enter Try.func49, Try.ntmps49
  by_cases hv : (a2 == i) = true
  · by_cases hu : (a3.toList == s.toList) = true
    · go_wp2
      go_ret
      exact ⟨ret_bool' (by rw [hv, hu]; rfl), HB.out⟩
    · have hu' : (a3.toList == s.toList) = false := by simpa using hu
      clear hu
      go_wp2
      go_ret
      exact ⟨ret_bool' (by rw [hv, hu']; rfl), HB.out⟩
  · have hv' : (a2 == i) = false := by simpa using hv
    clear hv
    go_wp2
    go_ret
    exact ⟨ret_bool' (by rw [hv']; rfl), HB.out⟩
set_option maxRecDepth 100000 in
set_option maxHeartbeats 8000000 in
theorem indexname_any (l : List St) (n : Nat) (hn : l.length = n) (h1000 : n ≤ 1000) (A : Option Addr) (c : Nat) (i : Int) (s : ByteArray) (b1 b2 : Nat) (w : World) (hA : LsAt w A l) (h1 : w.cell? ⟨b1, 0, none⟩ = some (.int .i64 i)) (h2 : w.cell? ⟨b2, 0, none⟩ = some (.string s)) :
    Calls Try.prog 48 #[.slice A n c, .func (.func 49) #[] #[.pointer (some ⟨b1, 0, none⟩), .pointer (some ⟨b2, 0, none⟩)]] w fun e w' => e = .returned (.int .i64 (fnd (isNm i s) l)) ∧ Below w.heap.size w w' := by
  have hb1 : b1 < w.heap.size := World.block_lt_of_cell? w ⟨b1, 0, none⟩ h1
  have hb2 : b2 < w.heap.size := World.block_lt_of_cell? w ⟨b2, 0, none⟩ h2
  have HN := Lib.hid hn
  have HA := Lib.hid hA
  have CB := Lib.hid (fun a1 a2 a4 a5 a3 B m c w' (hb : Below w.heap.size w w') => isnm_any a1 a2 a4 a5 a3 B m c i s b1 b2 w' ((hb.cell (p := ⟨b1, 0, none⟩) hb1).trans h1) ((hb.cell (p := ⟨b2, 0, none⟩) hb2).trans h2))
  clear hn hA h1 h2
  go_enter Try.func48, Try.ntmps48
  go_wp2_with fail
  go_loopw [5, 8] (fun _ s8 wr => ∃ k : Nat, k ≤ n ∧ s8 = .int .i64 (k : Nat) ∧ Hid (Before (isNm i s) l k) ∧ Hid (Below w.heap.size w wr)) (fun _ s8 _ => n - (intOf s8).toNat)
  case atStart => exact ⟨0, Nat.zero_le _, rfl, Lib.hid (Before.zero _ _), Lib.hid (Below.refl _ _)⟩
  case round =>
    obtain ⟨k, hk, rfl, HM, HB⟩ := hrel
    by_cases hlt : k < n
    · have hkl : k < l.length := by rw [HN.out]; exact hlt
      obtain ⟨g, o, rfl, hg, hcl⟩ := HA.out.pos (by omega)
      obtain ⟨B, cc, z0, z1, z2, z3, z4, z5, _⟩ := (hcl k hkl)
      replace z0 := (HB.out.cell (p := ⟨g, o + k * 6, none⟩) hg).trans z0
      replace z1 := (HB.out.cell (p := ⟨g, o + k * 6 + 1, none⟩) hg).trans z1
      replace z2 := (HB.out.cell (p := ⟨g, o + k * 6 + 2, none⟩) hg).trans z2
      replace z3 := (HB.out.cell (p := ⟨g, o + k * 6 + 3, none⟩) hg).trans z3
      replace z4 := (HB.out.cell (p := ⟨g, o + k * 6 + 4, none⟩) hg).trans z4
      replace z5 := (HB.out.cell (p := ⟨g, o + k * 6 + 5, none⟩) hg).trans z5
      have HY := Lib.hid (fun (h : isNm i s l[k] = true) => fnd_yes hkl h HM.out)
      have HX := Lib.hid (fun (h : isNm i s l[k] = false) => HM.out.succ hkl h)
      have hs := HB.out.size
      clear hcl
      unfold isNm at HY HX
      generalize l[k] = x at z0 z1 z2 z3 z4 z5 HY HX
      obtain ⟨a1, a2, a3, a4, a5, ps⟩ := x
      dsimp only at z0 z1 z2 z3 z4 z5 HY HX
      have cb := CB.out a1 a2 a4 a5 a3 B ps.length cc wr HB.out
      by_cases hv : (a2 == i && a3.toList == s.toList) = true
      · have HE := Lib.hid (HY.out hv)
        rw [hv] at cb
        clear HY HX hv
        go_wp2_with fail
        (with_reducible refine cb.mono ?_)
        rintro e w7 ⟨rfl, k7⟩
        have K7 := Go.Lib.hid (HB.out.trans (k7.mono hs))
        clear cb k7
        go_wp2
        go_ret
        exact ⟨by rw [← HE.out]; rfl, K7.out⟩
      · have hv' : (a2 == i && a3.toList == s.toList) = false := by simpa using hv
        rw [hv'] at cb
        have HE := Lib.hid (HX.out hv')
        clear HY HX hv hv'
        go_wp2_with fail
        (with_reducible refine cb.mono ?_)
        rintro e w7 ⟨rfl, k7⟩
        have K7 := Go.Lib.hid (HB.out.trans (k7.mono hs))
        clear cb k7 z0 z1 z2 z3 z4 z5
        go_wp2
        go_roundw
        case rel => exact ⟨k + 1, by omega, by go_num, HE, K7⟩
        case measure => simp [intOf]; omega
    · obtain rfl : k = n := by omega
      have HE := Lib.hid (fnd_no (p := isNm i s) (l := l) fun j h => HM.out j h (by rw [← HN.out]; exact h))
      go_wp2
      go_ret
      exact ⟨by rw [HE.out]; rfl, HB.out⟩
set_option maxRecDepth 100000 in
set_option maxHeartbeats 8000000 in
theorem findname_any (l : List St) (n : Nat) (hn : l.length = n) (h1000 : n ≤ 1000) (A : Option Addr) (c : Nat) (i : Int) (s : ByteArray) (w : World) (hA : LsAt w A l) :
    Calls Try.prog 20 #[.slice A n c, .int .i64 i, .string s] w fun e w' => e = .returned (.tuple #[.int .i64 (max (fnd (isNm i s) l) 0), .bool (decide (0 ≤ fnd (isNm i s) l))]) ∧ Below w.heap.size w w' := by
  have B0 := ((Below.refl w.heap.size w).alloc (Nat.le_refl _) (.cells #[.int .i64 i] 3)).alloc (by simp) (.cells #[.string s] 9)
  have cI := indexname_any l n hn h1000 A c i s w.heap.size (w.heap.size + 1) ((w.alloc (.cells #[.int .i64 i] 3)).alloc (.cells #[.string s] 9)) (hA.below B0) (((Boxed.new w 3 (.int .i64 i)).alloc _).cell) (by have := (Boxed.new (w.alloc (.cells #[.int .i64 i] 3)) 9 (.string s)).cell; rw [World.size_alloc] at this; exact this)
  clear hn hA
  generalize fnd (isNm i s) l = v at *
  go_enter Try.func20, Try.ntmps20
  go_wp2_with fail
  (with_reducible refine cI.mono ?_)
  rintro e w7 ⟨rfl, k7⟩
  have K7 := Go.Lib.hid (B0.trans (k7.mono (by simp; omega)))
  clear cI k7 B0
  by_cases hv : 0 ≤ v
  · have e1 : decide (0 ≤ v) = true := by simpa using hv
    have e2 : max v 0 = v := by omega
    have HM := Lib.hid e2
    clear e2
    go_wp2
    go_ret2
    exact ⟨by rw [HM.out, e1]; rfl, K7.out⟩
  · have e1 : decide (0 ≤ v) = false := by simpa using hv
    have e2 : max v 0 = 0 := by omega
    have HM := Lib.hid e2
    clear e2
    go_wp2
    go_ret2
    exact ⟨by rw [HM.out, e1]; rfl, K7.out⟩
end Go.Proofs.Ytbkpokipibgdfaa

/- Layer 8: Children (23). -/
namespace Go.Proofs.Ytbkpokipibgdfaa
open Go.RowKit Go.Lib
set_option linter.unusedVariables false

theorem info3 : (Try.prog.info? 3).map (fun i => (i.zero, i.size, i.bytes)) = some (some (.int .i64 0), 1, 8) := by kernel_rfl
def intsV (l : List Int) : List Value := l.map (Value.int .i64)
theorem intsV_snoc (l : List Int) (x : Int) : intsV (l ++ [x]) = intsV l ++ [.int .i64 x] := by simp [intsV]
/-- Integers in memory. -/
def IntsAt (w : World) (B : Option Addr) (l : List Int) : Prop := l = [] ∨ ∃ g, B = some ⟨g, 0, none⟩ ∧ g < w.heap.size ∧ ∀ j (h : j < l.length), w.cell? ⟨g, j, none⟩ = some (.int .i64 l[j])
theorem IntsAt.below {w w' : World} {B : Option Addr} {l : List Int} (h : IntsAt w B l) (hb : Below w.heap.size w w') : IntsAt w' B l := by
  rcases h with h | ⟨g, h1, h2, h3⟩
  · exact .inl h
  · exact .inr ⟨g, h1, Nat.lt_of_lt_of_le h2 hb.size, fun j hj => (hb.cell (p := ⟨g, j, none⟩) h2).trans (h3 j hj)⟩
theorem ints_at {w : World} {base n cb : Nat} {B : Option Addr} {l : List Int} (h : w.ownsRow base 3 1 (.slice B n cb) n (intsV l)) (hn : l.length = n) : IntsAt w B l := by
  have h2 := h
  rcases h.2 with ⟨hv, h0⟩ | ⟨g, cap, cur, hv, _⟩
  · exact .inl (List.eq_nil_of_length_eq_zero (by omega))
  · injection hv with e1 _ e2
    subst e1 e2
    refine .inr ⟨g, rfl, (h.lt g rfl).2, fun j hj => ?_⟩
    rw [h2.cellAt j (by omega)]
    simp [intsV, hj]
/-- The ids of the styles with a base. -/
def kids (i : Int) (l : List St) : List Int := (l.filter (fun x => x.base == i)).map (·.id)
theorem kids_snoc (i : Int) (l : List St) (k : Nat) (h : k < l.length) : kids i (l.take (k + 1)) = kids i (l.take k) ++ (if (l[k].base == i) = true then [l[k].id] else []) := by
  unfold kids
  rw [List.take_succ_eq_append_getElem h, List.filter_append, List.map_append]
  by_cases e : (l[k].base == i) = true
  · rw [if_pos e, List.filter_cons_of_pos (p := fun x : St => x.base == i) e]; rfl
  · rw [if_neg e, List.filter_cons_of_neg (p := fun x : St => x.base == i) e]; rfl
theorem kids_len (i : Int) (l : List St) : (kids i l).length ≤ l.length := by unfold kids; rw [List.length_map]; exact List.length_filter_le _ _
def IntsRet (ks : List Int) (w : World) (e : Ending) (w' : World) : Prop := ∃ B n cb, e = .returned (.slice B n cb) ∧ ks.length = n ∧ IntsAt w' B ks ∧ Below w.heap.size w w'
set_option maxRecDepth 100000 in
set_option maxHeartbeats 8000000 in
theorem children_any (l : List St) (n : Nat) (hn : l.length = n) (h1000 : n ≤ 1000) (A : Option Addr) (c : Nat) (i : Int) (w : World) (hA : LsAt w A l) :
    Calls Try.prog 23 #[.slice A n c, .int .i64 i] w (IntsRet (kids i l) w) := by
  obtain ⟨i0, hi, hz0, hz1, hz2⟩ := info_parts info3
  have HN := Lib.hid hn
  have HA := Lib.hid hA
  clear hn hA
  go_enter Try.func23, Try.ntmps23
  go_wp2_with fail
  go_loopw [5, 10] (fun v s5 wr => ∃ (k m : Nat) (B : Option Addr) (cb : Nat) (o : List Int), k ≤ n ∧ s5 = .int .i64 (k : Nat) ∧ v = .slice B m cb ∧ m ≤ k ∧ wr.ownsRow w.heap.size 3 1 (.slice B m cb) m (intsV o) ∧ Below w.heap.size w wr ∧ Hid (o.length = m) ∧ Hid (o = kids i (l.take k))) (fun _ s5 _ => n - (intOf s5).toNat)
  case atStart => exact ⟨0, 0, none, 0, [], Nat.zero_le _, rfl, rfl, Nat.le_refl _, World.ownsRow_nil _ _ _ _, Below.refl _ _, Lib.hid rfl, Lib.hid rfl⟩
  case round =>
    obtain ⟨k, m, B, cb, o, hk, rfl, rfl, hm, hown, hbw, HM, HO⟩ := hrel
    have hw0 := hbw.size
    by_cases hlt : k < n
    · have hkl : k < l.length := by rw [HN.out]; exact hlt
      obtain ⟨g, oo, rfl, hg, hcl⟩ := HA.out.pos (by omega)
      obtain ⟨Bp, cc, z0, z1, z2, z3, z4, z5, _⟩ := (hcl k hkl)
      replace z0 := (hbw.cell (p := ⟨g, oo + k * 6, none⟩) hg).trans z0
      replace z1 := (hbw.cell (p := ⟨g, oo + k * 6 + 1, none⟩) hg).trans z1
      replace z2 := (hbw.cell (p := ⟨g, oo + k * 6 + 2, none⟩) hg).trans z2
      replace z3 := (hbw.cell (p := ⟨g, oo + k * 6 + 3, none⟩) hg).trans z3
      replace z4 := (hbw.cell (p := ⟨g, oo + k * 6 + 4, none⟩) hg).trans z4
      replace z5 := (hbw.cell (p := ⟨g, oo + k * 6 + 5, none⟩) hg).trans z5
      have HS := Lib.hid (kids_snoc i l k hkl)
      clear hcl
      generalize l[k] = x at z0 z1 z2 z3 z4 z5 HS
      obtain ⟨a1, a2, a3, a4, a5, ps⟩ := x
      dsimp only at z0 z1 z2 z3 z4 z5 HS
      by_cases hv : (a4 == i) = true
      · have HV := Lib.hid hv
        go_wp2_with (at_builtin; refine wpList_append_own _ rfl _ _ 38 rfl w.heap.size 3 i0 (.int .i64 0) 1 8 Try.underlying38 hi hz0 hz1 hz2 rfl (by decide) _ _ _ rfl ((hown.alloc _).alloc _) ⟨wr.heap.size + 1, 0, none⟩ 1 1 [.int .i64 a1] rfl rfl (by intro j u hj; have := cell_one_new (wr.alloc (.cells #[.int .i64 a1, .int .i64 a2, .string a3, .int .i64 a4, .int .i64 a5, .slice Bp ps.length cc] 28)) (.int .i64 a1) 3 j u hj; rw [World.size_alloc] at this; exact this) (by intro u hu; simp at hu; subst hu; rfl) (by unfold maxLen; omega) (by omega) (by simp; omega) ?_; intro v1 w1 hown1 hgrow1 _; obtain ⟨g1, cap1, rfl⟩ := ownsRow_succ hown1)
        go_roundw
        case rel =>
          exact ⟨k + 1, m + 1, some ⟨g1, 0, none⟩, cap1, o ++ [a1], by omega, by go_num, rfl, by omega, by rw [intsV_snoc]; exact hown1, ((hbw.alloc hw0 _).alloc (by simp; omega) _).grown hgrow1 (by simp; omega) (fun j e => (hown.lt j e).1), Lib.hid (by rw [List.length_append, HM.out]; rfl), Lib.hid (by rw [HS.out, if_pos HV.out, HO.out])⟩
        case measure => simp [intOf]; omega
      · have hv' : (a4 == i) = false := by simpa using hv
        have HV := Lib.hid hv
        clear hv
        go_wp2_with fail
        go_roundw
        case rel =>
          exact ⟨k + 1, m, B, cb, o, by omega, by go_num, rfl, by omega, hown.alloc _, hbw.alloc hw0 _, HM, Lib.hid (by rw [HS.out, if_neg HV.out, HO.out, List.append_nil])⟩
        case measure => simp [intOf]; omega
    · obtain rfl : k = n := by omega
      go_wp2_with fail
      go_ret
      have e : l.take k = l := List.take_of_length_le (by rw [HN.out]; exact Nat.le_refl _)
      have ho : o = kids i l := by rw [HO.out, e]
      exact ⟨B, m, cb, rfl, by rw [← ho]; exact HM.out, by rw [← ho]; exact ints_at hown HM.out, hbw⟩
end Go.Proofs.Ytbkpokipibgdfaa

/- Layer 8: the map of indices; slices.Backward over styles (68, 87). -/
namespace Go.Proofs.Ytbkpokipibgdfaa
open Go.RowKit Go.Lib Go.Maps
set_option linter.unusedVariables false

def I64 (x : Int) : Prop := -9223372036854775808 ≤ x ∧ x ≤ 9223372036854775807
theorem i64_wf {x : Int} (h : I64 x) : (Lit.int .i64 x).wf = true := by
  unfold I64 at h
  simp [Lit.wf, IntKind.bits, IntKind.signed, IntKind.min, IntKind.max]
  omega
theorem key_i {x : Int} (h : I64 x) : keyOf Try.prog 3 (.int .i64 x) = some (.int .i64 x) := keyOf_int_mk Try.underlying3 (i64_wf h)
/-- A map of numbers that reads as f. -/
def IxAt (w : World) (b n : Nat) (f : Int → Option Int) : Prop := ∃ D : DataW Unit, w.ownsMap Try.prog 3 (plainElem Try.prog 3) b n D ∧
  ∀ a, I64 a → has D (.int .i64 a) = (f a).isSome ∧ D.atKey (.int .i64 a) (.lit (.int .i64 0)) = .lit (.int .i64 ((f a).getD 0))
theorem ix_new (w : World) : IxAt (w.alloc (.map #[] 0)) w.heap.size 0 (fun _ => none) := ⟨.map [], World.ownsMap_made w _ _ _, fun a _ => ⟨rfl, WideAt.atKey_none _ (by simp)⟩⟩
theorem ix_look {w : World} {b n : Nat} {f : Int → Option Int} (h : IxAt w b n f) {a : Int} (ha : I64 a) :
    (Instr.lookup 71 (.map (some b)) (.int .i64 a) true).run Try.prog w = .ok (.tuple #[.int .i64 ((f a).getD 0), .bool (f a).isSome]) w := by
  obtain ⟨D, hD, hf⟩ := h
  obtain ⟨v, ps, hr', hv⟩ := hD.look_ok (int_keyed Try.underlying3) Try.underlying71 (Try.zeroValue3 w) (plainElem_int Try.underlying3 (by decide)) (key_i ha)
  obtain ⟨h1, h2⟩ := hf a ha
  have hv' : plainElem Try.prog 3 v = some (D.atKey (.int .i64 a) (.lit (.int .i64 0)), ps) := hv
  rw [h2] at hv'
  obtain ⟨x, rfl, hx, _⟩ := plainElem_int_inv Try.underlying3 hv'
  simp only [Prod.mk.injEq, DataW.lit.injEq, Lit.int.injEq, true_and] at hx
  rw [hr', h1, hx.1]
theorem ix_put {w : World} {b n : Nat} {f : Int → Option Int} (h : IxAt w b n f) (hn : n < maxLen) {a v : Int} (ha : I64 a) (hv : I64 v) :
    ∃ w', (Instr.mapUpdate 71 (.map (some b)) (.int .i64 a) (.int .i64 v)).run Try.prog w = .ok () w' ∧ IxAt w' b (n + 1) (fun z => if z = a then some v else f z) ∧ w.grownBy w' (some b) := by
  obtain ⟨D, hD, hf⟩ := h
  obtain ⟨w', h1, h2, h3⟩ := hD.update (int_keyed Try.underlying3) Try.underlying71 hn (key_i ha) (plainElem_int Try.underlying3 (i64_wf hv))
  refine ⟨w', h1, ⟨_, h2, fun z hz => ?_⟩, h3⟩
  by_cases e : z = a
  · subst e
    constructor
    · rw [has_put_same hD.isMap ((int_keyed Try.underlying3).key (key_i ha))]
      simp
    · rw [atKey_put_same hD.isMap ((int_keyed Try.underlying3).key (key_i ha))]
      simp
  · have hne : (Lit.int .i64 z) ≠ (Lit.int .i64 a) := by simpa using e
    obtain ⟨g1, g2⟩ := hf z hz
    constructor
    · rw [has_put_other hne, g1]; show _ = (if z = a then some v else f z).isSome; rw [if_neg e]
    · rw [atKey_put_other hne, g2]; show _ = DataW.lit (.int .i64 ((if z = a then some v else f z).getD 0)); rw [if_neg e]
theorem IxAt.kept {w w' : World} {b n : Nat} {f : Int → Option Int} (h : IxAt w b n f) {row : Option Nat} (hg : w.grownBy w' row) (hne : some b ≠ row) : IxAt w' b n f := by
  obtain ⟨D, hD, hf⟩ := h
  exact ⟨D, hD.kept hg hne, hf⟩
theorem IxAt.lt {w : World} {b n : Nat} {f : Int → Option Int} (h : IxAt w b n f) : b < w.heap.size := by obtain ⟨D, hD, _⟩ := h; exact hD.lt
theorem IxAt.below {w w' : World} {b n : Nat} {f : Int → Option Int} (h : IxAt w b n f) {m : Nat} (hm : b < m) (hb : Below m w w') : IxAt w' b n f := by
  have hlt := h.lt
  obtain ⟨D, ⟨es, clock, h1, h2⟩, hf⟩ := h
  exact ⟨D, ⟨es, clock, (hb.block b hm).trans h1, h2⟩, hf⟩
theorem IxAt.congr {w : World} {b n : Nat} {f f' : Int → Option Int} (h : IxAt w b n f) (e : ∀ a, f a = f' a) : IxAt w b n f' := by
  have : f = f' := funext e
  rw [← this]; exact h
theorem IxAt.own {T : TypeId → Bool} {β : Type} {B b : Nat} (hb : b < B) (n : β → Nat) (f : β → Int → Option Int) : OwnT T B (fun s W => IxAt W b (n s) (f s)) :=
  fun s A C row hs hg hr => hs.kept hg (fun e => by have := (hr b e.symm).1; omega)

/-- The index of the first style from k on with an id. -/
def idxD (l : List St) (k : Nat) (i : Int) : Option Int := ((l.drop k).findIdx? (isId i)).map fun j => ((k + j : Nat) : Int)
theorem idxD_end (l : List St) (i : Int) : idxD l l.length i = none := by unfold idxD; rw [List.drop_length]; rfl
theorem idxD_step (l : List St) (k : Nat) (h : k < l.length) (i : Int) : idxD l k i = if i = l[k].id then some (k : Int) else idxD l (k + 1) i := by
  unfold idxD
  rw [List.drop_eq_getElem_cons h, List.findIdx?_cons]
  by_cases e : i = l[k].id
  · have h1 : isId i l[k] = true := by unfold isId; rw [beq_iff_eq]; exact e.symm
    rw [if_pos e, if_pos h1]; rfl
  · have h1 : ¬ isId i l[k] = true := by unfold isId; rw [beq_iff_eq]; exact fun h => e h.symm
    rw [if_neg e, if_neg h1, Option.map_map]
    congr 1
    funext j
    simp only [Function.comp]
    omega
theorem idxD_zero (l : List St) (i : Int) : (idxD l 0 i).getD 0 = max (fnd (isId i) l) 0 ∧ (idxD l 0 i).isSome = decide (0 ≤ fnd (isId i) l) := by
  unfold idxD fnd
  rw [List.drop_zero]
  cases l.findIdx? (isId i) with
  | none => exact ⟨rfl, rfl⟩
  | some k => simp
/-- All numbers of the styles are numbers of the machine. -/
def LsOk (l : List St) : Prop := ∀ x ∈ l, I64 x.id ∧ I64 x.kind ∧ I64 x.base ∧ I64 x.next
end Go.Proofs.Ytbkpokipibgdfaa

/- Layer 8: slices.Backward over styles (68, 87); indices (47), Find (19). -/
namespace Go.Proofs.Ytbkpokipibgdfaa
open Go.RowKit Go.Shelf Go.Lib Go.Maps
set_option linter.unusedVariables false
attribute [local go_sem] Oper.semAt_some

theorem fold_two (p q : Tmp) (v u : Value) (ts : Array Value) : ((#[p, q] : Array Tmp).zip #[v, u]).foldl (fun t (p, v) => t.setIfInBounds p v) ts = (ts.setIfInBounds p v).setIfInBounds q u := by
  simp
section
variable {T : TypeId → Bool} {Bs : Nat} {F : Fence} {n : Nat} {P : Program}
theorem rangeG2 {α : Type} {g : Operand} {p q : Tmp} {assign body : Code} {Q : Exit → Act → World → Prop} {a : Act} {w : World}
    (hro : F.round = none) (h1 : 1 ≤ n) {gf : Nat} {lb : Array Value} (hg : a.eval g = .func (.func gf) #[] lb) (hFg : F.fn gf) (eg : ∀ args w, (callFunc gf args).run P w = .ok (.enter gf args) w)
    {enc1 enc2 : α → Value} {S Sp : List α → Prop} {N : Nat} {G : World → Prop} (hBs : Bs < w.heap.size) (hseq : SeqG T Bs F (n - 1) P gf lb (fun x => #[enc1 x, enc2 x]) S Sp N G w)
    (I : List α → World → Prop) (Ix : Code → List α → World → Prop) (hIG : ∀ pre W, I pre W → G W) (hI : OwnT T w.heap.size I) (hIx : ∀ c, OwnT T w.heap.size (Ix c)) (h0 : I [] w)
    (hround : ∀ (l : Nat) (pre : List α) (x : α) (W : World), I pre W → pre.length < N → Sp (pre ++ [x]) → w.heap.size ≤ l → l < W.heap.size →
      assign.wpIn (F.inRound l) (n - 1 - 1) P (Exit.then (fun a₁ V => KeepsFrom w.heap.size W V ∧ Kpt T Bs W V ∧ I pre V ∧
        ∀ V', V.grownBy V' (some l) → I pre V' → body.wpIn (F.inRound l) (n - 1 - 1) P (postT T Bs w.heap.size I Ix (pre ++ [x]) V') a₁ V') (fun _ _ _ => False))
        { tmps := (a.tmps.setIfInBounds p (enc1 x)).setIfInBounds q (enc2 x), defers := [] } W)
    (hdone : ∀ (D : Nat) (xs : List α) (W : World), w.heap.size ≤ D → S xs → I xs W → W.heap[D]? = some (.deferred (some [])) → Q .normal { a with defers := { target := .collected D, args := #[] } :: a.defers } W)
    (hstop : ∀ (D : Nat) (c : Code) (pre : List α) (W : World), w.heap.size ≤ D → Sp pre → Ix c pre W → W.heap[D]? = some (.deferred (some [])) → c.wpIn F n P Q { a with defers := { target := .collected D, args := #[] } :: a.defers } W) :
    (Code.rangeFunc g #[p, q] assign body).wpIn F n P Q a w :=
  rangeG hro h1 hg hFg eg hBs hseq (fun _ => rfl) I Ix hIG hI hIx h0 (fun l pre x W hi hlen hsp hl hlW => by
    have e : ((#[p, q] : Array Tmp).zip #[enc1 x, enc2 x]).foldl (fun t (p, v) => t.setIfInBounds p v) a.tmps = (a.tmps.setIfInBounds p (enc1 x)).setIfInBounds q (enc2 x) := fold_two p q (enc1 x) (enc2 x) a.tmps
    rw [e]
    exact hround l pre x W hi hlen hsp hl hlW) hdone hstop
end
/-- A style by its place, with where its properties lie. -/
abbrev Sx : Type := Nat × Option Addr × Nat
def stx (l : List St) (x : Sx) : Value := stV (l.getD x.1 default) x.2.1 x.2.2
abbrev bEnc (l : List St) (x : Sx) : Array Value := #[.int .i64 (x.1 : Nat), stx l x]
/-- The last one that came is the one at its place, from the end on. -/
def LastOk (m : Nat) (pre : List Sx) : Prop := ∀ q x, pre = q ++ [x] → x.1 + pre.length = m
def BackPost (m : Nat) (J Jx : List Sx → World → Prop) (e : Ending) (W' : World) : Prop :=
  (∃ v, e = .returned v) ∧ ((∃ xs, xs.length = m ∧ J xs W') ∨ (∃ pre, LastOk m pre ∧ Jx pre W'))
set_option maxRecDepth 100000 in
set_option maxHeartbeats 4000000 in
theorem backF_any (A : Option Addr) (n c : Nat) (w : World) :
    Calls Try.prog 68 #[.slice A n c] w fun e w' => e = .returned (.func (.func 87) #[] #[.pointer (some ⟨w.heap.size, 0, none⟩)]) ∧ w' = w.alloc (.cells #[.slice A n c] 22) := by
  go_enter Try.func68, Try.ntmps68
  go_wp2
  go_ret
  exact ⟨rfl, rfl⟩
set_option maxRecDepth 100000 in
set_option maxHeartbeats 8000000 in
theorem back_gen (n : Nat) (hn : 1 ≤ n) (L Ba : Nat) (A : Option Addr) (m d : Nat) (l : List St) (hcs : l.length = m) (hm : m ≤ 1000) (J Jx : List Sx → World → Prop) (n0 : Nat) (w0 W : World)
    (hn0 : w0.heap.size ≤ n0) (hA : LsAt w0 A l) (hG : ∀ pre W', J pre W' → Below n0 w0 W') (ha : Boxed W Ba 22 (.slice A m d))
    (hY : ∀ pre x W1, J pre W1 → pre.length < m → LastOk m (pre ++ [x]) → YieldAt Fence.wide (n - 1) Try.prog L (bEnc l x) W1 fun e W' =>
      (e = .returned (.bool true) ∧ J (pre ++ [x]) W' ∧ Kpt TZ Ba W1 W') ∨ (e = .returned (.bool false) ∧ Jx (pre ++ [x]) W')) (h0 : J [] W) :
    CallsIn Fence.wide n Try.prog 87 #[.func (.yield L) #[] #[], .pointer (some ⟨Ba, 0, none⟩)] W (BackPost m J Jx) := by
  have YY := Go.Lib.hid hY
  have GG := Go.Lib.hid hG
  have J0 := Go.Lib.hid h0
  have PA := Go.Lib.hid hA
  have HC := Go.Lib.hid hcs
  have HB0 := Go.Lib.hid ha
  have hac := ha.cell
  clear hY hG h0 hA ha hcs
  refine callsIn_of_wp Try.func87 rfl trivial ?_ rfl
  simp only [Try.ntmps87, List.size_toArray, List.length_cons, List.length_nil, Nat.reduceAdd, Nat.reduceSub, Array.replicate_succ, Array.replicate_zero, List.push_toArray, List.append_toArray, List.nil_append, List.cons_append]
  gi_wp2
  gi_loopw [3] (fun s3 wr => ∃ (k : Nat) (j : Int) (pre : List Sx), s3 = .int .i64 j ∧ j = (k : Int) - 1 ∧ pre.length + k = m ∧ Hid (J pre wr) ∧ Hid (Boxed wr Ba 22 (.slice A m d))) (fun s3 _ => (RowKit.intOf s3 + 1).toNat)
  case atStart => exact ⟨m, _, [], rfl, by go_num, by simp, J0, HB0⟩
  case round =>
    obtain ⟨k, j, pre, rfl, hj, hpk, HJ, HB⟩ := hrel
    clear hac J0 HB0
    have hbx := HB.out.cell
    cases k with
    | zero =>
      have hj0 : j < 0 := by omega
      clear hj
      gi_wp2
      go_end0
      exact ⟨⟨_, rfl⟩, .inl ⟨pre, by omega, HJ.out⟩⟩
    | succ k =>
      obtain rfl : j = (k : Int) := by omega
      clear hj
      have hkc : k < l.length := by rw [HC.out]; omega
      have f0 : (0 : Int) ≤ (k : Int) := by omega
      have f1 : (k : Int) < (m : Int) := by omega
      rcases PA.out with hA0 | ⟨g, o, rfl, hg, hcl⟩
      · rw [hA0] at hkc; exact absurd hkc (Nat.not_lt_zero _)
      obtain ⟨B, c, h0, h1, h2, h3, h4, h5, h6⟩ := hcl k hkc
      have hbw := GG.out pre wr HJ.out
      have hg' := Nat.lt_of_lt_of_le hg hn0
      have c0 := (hbw.cell (p := ⟨g, o + k * 6, none⟩) hg').trans h0
      have c1 := (hbw.cell (p := ⟨g, o + k * 6 + 1, none⟩) hg').trans h1
      have c2 := (hbw.cell (p := ⟨g, o + k * 6 + 2, none⟩) hg').trans h2
      have c3 := (hbw.cell (p := ⟨g, o + k * 6 + 3, none⟩) hg').trans h3
      have c4 := (hbw.cell (p := ⟨g, o + k * 6 + 4, none⟩) hg').trans h4
      have c5 := (hbw.cell (p := ⟨g, o + k * 6 + 5, none⟩) hg').trans h5
      have HS := Go.Lib.hid (show LastOk m (pre ++ [(k, B, c)]) from fun q x e => by
        obtain ⟨_, e2⟩ := List.append_inj' e rfl
        simp only [List.cons.injEq, and_true] at e2
        subst e2
        rw [List.length_append]; simp; omega)
      have HLt := Go.Lib.hid (show pre.length < m from by omega)
      have HE := Go.Lib.hid (show l.getD k default = l[k] from by rw [List.getD_eq_getElem?_getD, List.getElem?_eq_getElem hkc]; rfl)
      clear h0 h1 h2 h3 h4 h5 h6 hcl hbw
      obtain ⟨fn, tmps, assign, body, hy, hRd⟩ := YY.out pre (k, B, c) wr HJ.out HLt.out HS.out
      unfold bEnc stx stV at hy
      dsimp only at hy
      rw [HE.out] at hy
      generalize l[k] = y at c0 c1 c2 c3 c4 c5 hy
      clear hkc HE
      obtain ⟨a1, a2, a3, a4, a5, ps⟩ := y
      dsimp only at c0 c1 c2 c3 c4 c5 hy
      gi_wp2
      refine hRd.mono ?_
      rintro e w8 (⟨rfl, hJ8, hk8⟩ | ⟨rfl, hJx8⟩)
      · have HJ8 := Go.Lib.hid hJ8
        have HB8 := Go.Lib.hid (show Boxed w8 Ba 22 _ from hk8.str.trans HB.out)
        clear hy hJ8 hk8 hRd
        gi_wp2
        go_roundw
        case rel => exact ⟨k, _, pre ++ [(k, B, c)], rfl, by go_num, by rw [List.length_append]; simp; omega, HJ8, HB8⟩
        case measure => simp [RowKit.intOf]
      · gi_wp2
        refine bodyPost_ret (results_none rfl _ _ _) rfl ?_
        exact ⟨⟨_, rfl⟩, .inr ⟨_, HS.out, hJx8⟩⟩
theorem back_any (n : Nat) (hn : 1 ≤ n) (Ba : Nat) (A : Option Addr) (m d : Nat) (l : List St) (hcs : l.length = m) (hm : m ≤ 1000) (n0 : Nat) (w0 w : World)
    (hn0 : w0.heap.size ≤ n0) (hA : LsAt w0 A l) (ha : Boxed w Ba 22 (.slice A m d)) :
    SeqG TZ Ba Fence.wide n Try.prog 87 #[.pointer (some ⟨Ba, 0, none⟩)] (bEnc l) (fun xs => xs.length = m) (LastOk m) m (fun W => Below n0 w0 W) w := by
  intro L J Jx W hw _ _ hG hY h0
  exact back_gen n hn L Ba A m d l hcs hm J Jx n0 w0 W hn0 hA hG (boxed_below ha hw) (fun pre x W1 h1 h2 h3 => hY pre x W1 h1 h2 h3) h0

theorem make71 (m : Nat) (w : World) : (Instr.makeMap 71 (some (.int .i64 (m : Nat)))).run Try.prog w = .ok (.map (some w.heap.size)) (w.alloc (.map #[] 0)) := by
  simp [Instr.makeMap, run_underlying Try.underlying71, Result.andThen]
  rfl
/-- What indices hands back. -/
def IdxRet (l : List St) (w : World) (e : Ending) (w' : World) : Prop := ∃ b n, e = .returned (.map (some b)) ∧ w.heap.size ≤ b ∧ IxAt w' b n (idxD l 0) ∧ Below w.heap.size w w'
set_option maxRecDepth 100000 in
set_option maxHeartbeats 4000000 in
theorem indices_in (A : Option Addr) (m d : Nat) (l : List St) (hcs : l.length = m) (hm : m ≤ 1000) (hok : LsOk l) (w : World) (hA : LsAt w A l) :
    CallsIn Fence.wide 6 Try.prog 47 #[.slice A m d] w (IdxRet l w) := by
  have cB := fun A n c w' => backF_any A n c w'
  have hmk := fun w' => make71 m w'
  refine callsIn_of_wp_marks Try.func47 rfl trivial ?_ rfl
  simp only [Try.ntmps47, List.size_toArray, List.length_cons, List.length_nil, Nat.reduceAdd, Nat.reduceSub, Array.replicate_succ, Array.replicate_zero, List.push_toArray, List.append_toArray, List.nil_append, List.cons_append]
  gi_wp2_with (refine ⟨trivial, ?_⟩; gi_at_call 68; refine (callsIn_wide.2 (cB _ _ _ _)).mono ?_; rintro e w2 ⟨rfl, rfl⟩)
  have hB0 : Below w.heap.size w (((w.alloc (.map #[] 0)).alloc (.cells #[.map (some w.heap.size)] 71)).alloc (.cells #[.slice A m d] 22)) := (((Below.refl _ w).alloc (Nat.le_refl _) _).alloc (by simp) _).alloc (by simp; omega) _
  have hI0 : IxAt (((w.alloc (.map #[] 0)).alloc (.cells #[.map (some w.heap.size)] 71)).alloc (.cells #[.slice A m d] 22)) w.heap.size 0 (idxD l m) := (((ix_new w).kept (World.grownBy_alloc _ _ none) (by simp)).kept (World.grownBy_alloc _ _ none) (by simp)).congr (fun a => by rw [← hcs, idxD_end])
  have bN := (Boxed.new (w.alloc (.map #[] 0)) 71 (.map (some w.heap.size))).alloc (.cells #[.slice A m d] 22)
  rw [World.size_alloc] at bN
  have bA := Boxed.new ((w.alloc (.map #[] 0)).alloc (.cells #[.map (some w.heap.size)] 71)) 22 (.slice A m d)
  rw [World.size_alloc, World.size_alloc] at bA
  refine rangeG2 (T := TZ) (Bs := w.heap.size + 1 + 1) (G := fun W => Below w.heap.size w W) rfl (by decide) (enc1 := fun (x : Sx) => .int .i64 (x.1 : Nat)) (enc2 := fun x => stx l x) (gf := 87) (lb := #[.pointer (some ⟨w.heap.size + 1 + 1, 0, none⟩)]) rfl trivial (enters_of Try.func87 (by kernel_rfl) rfl)
    (by simp) (back_any 5 (by decide) (w.heap.size + 1 + 1) A m d l hcs hm w.heap.size w _ (Nat.le_refl _) hA bA)
    (fun (pre : List Sx) W => (Boxed W (w.heap.size + 1) 71 (.map (some w.heap.size)) ∧ IxAt W w.heap.size pre.length (idxD l (m - pre.length))) ∧ Below w.heap.size w W) (fun _ _ _ => False) (fun _ _ h => h.2)
    (OwnT.and (OwnT.and (OwnT.boxed rfl (fun _ => _)) (IxAt.own (by simp; omega) (fun (pre : List Sx) => pre.length) (fun (pre : List Sx) => idxD l (m - pre.length)))) (OwnT.below (Nat.le_refl _) (by simp; omega))) (fun _ _ _ _ _ hs _ _ => hs)
    ⟨⟨bN, hI0⟩, hB0⟩ ?round ?done ?stop
  case round =>
    clear bN bA hB0 hI0 cB hmk
    rintro L pre x W ⟨⟨hv, hix⟩, hB⟩ hlt hlast hl hlW
    have hxm := hlast pre x rfl
    rw [List.length_append] at hxm
    simp only [List.length_cons, List.length_nil] at hxm
    have hW1 := hB.size
    simp only [World.size_alloc] at hl
    have hBs : w.heap.size + 1 + 1 < W.heap.size := by omega
    obtain ⟨k, B, c⟩ := x
    dsimp only at hxm
    have hkl : k < l.length := by omega
    have hgd : l.getD k default = l[k] := by rw [List.getD_eq_getElem?_getD, List.getElem?_eq_getElem hkl]; rfl
    have hid := (hok l[k] (List.getElem_mem hkl)).1
    have hst := idxD_step l k hkl
    have e1 : m - pre.length = k + 1 := by omega
    have HE := Go.Lib.hid (show m - (pre ++ [((k, B, c) : Sx)]).length = k from by rw [List.length_append]; simp; omega)
    have hpm : pre.length < maxLen := by unfold maxLen; omega
    have hkI : I64 (k : Int) := by unfold I64; omega
    unfold stx stV
    dsimp only
    rw [hgd]
    generalize l[k] = y at hid hst
    obtain ⟨a1, a2, a3, a4, a5, ps⟩ := y
    dsimp only at hid hst ⊢
    gi_wp2
    refine ⟨(KeepsOthers.alloc _ _).from _, Kpt.alloc (by omega) _, ⟨⟨hv.alloc _, hix.kept (World.grownBy_alloc _ _ none) (by simp)⟩, hB.alloc (by omega) _⟩, ?_⟩
    rintro V hg ⟨⟨hu, hix2⟩, hBV⟩
    have hVs := hg.size
    simp only [World.size_alloc] at hVs
    have hc0 : V.cell? ⟨W.heap.size, 0, none⟩ = some (.int .i64 a1) := hg.cell (by simp) (fun e => by simp at e; omega)
    have hc := hu.cell
    rw [e1] at hix2
    obtain ⟨w9, hrun, hix9, hg9⟩ := ix_put hix2 hpm hid hkI
    have HK := Go.Lib.hid (show Kpt TZ (w.heap.size + 1 + 1) V w9 from Kpt.of_grownBy (by omega) hg9 (fun r e => by
      cases e
      obtain ⟨D, ⟨es, clock, h1, _⟩, _⟩ := hix2
      exact ⟨by omega, _, h1, rfl⟩))
    have HF := Go.Lib.hid (show KeepsFrom (((w.alloc (.map #[] 0)).alloc (.cells #[.map (some w.heap.size)] 71)).alloc (.cells #[.slice A m d] 22)).heap.size V w9 from KeepsFrom.of_grownBy hg9 (fun j e => by cases e; simp; omega))
    have HU := Go.Lib.hid (show Boxed w9 (w.heap.size + 1) 71 (.map (some w.heap.size)) from Boxed.kept hu hg9 (by simp))
    have HI := Go.Lib.hid (show IxAt w9 w.heap.size (pre ++ [((k, B, c) : Sx)]).length (idxD l (m - (pre ++ [((k, B, c) : Sx)]).length)) from by
      rw [HE.out, List.length_append]
      exact hix9.congr (fun a => by rw [hst a]))
    have HB9 := Go.Lib.hid (show Below w.heap.size w w9 from hBV.grown hg9 hBV.size (fun j e => by cases e; exact Nat.le_refl _))
    clear hv hix hix2 hix9 hg9 hB hg
    gi_wp2
    exact ⟨HF.out, HK.out, ⟨HU.out, HI.out⟩, HB9.out⟩
  case done =>
    rintro D xs W hD hxs ⟨⟨hv, hix⟩, hB⟩ hK
    simp only [World.size_alloc] at hD
    have hc := hv.cell
    rw [hxs, Nat.sub_self] at hix
    gi_wp2
    refine ⟨by simp, .inl ⟨_, _, rfl, run_takeDeferred hK, ?_⟩⟩
    refine ⟨_, by simp [results, Try.results47, go_sem], w.heap.size, m, rfl, Nat.le_refl _, hix.kept (grownBy_putObj' W D _) (by simp; omega), hB.trans (belowK_b (w := w) (Nat.le_refl _) W D _ _ (by omega) hK rfl rfl)⟩
  case stop =>
    rintro D c pre W _ _ h _
    exact h.elim
theorem indices_any (A : Option Addr) (m d : Nat) (l : List St) (hcs : l.length = m) (hm : m ≤ 1000) (hok : LsOk l) (w : World) (hA : LsAt w A l) :
    Calls Try.prog 47 #[.slice A m d] w (IdxRet l w) := callsIn_wide.1 (indices_in A m d l hcs hm hok w hA)
set_option maxRecDepth 100000 in
set_option maxHeartbeats 4000000 in
theorem find_any (A : Option Addr) (m d : Nat) (l : List St) (hcs : l.length = m) (hm : m ≤ 1000) (hok : LsOk l) (i : Int) (hi : I64 i) (w : World) (hA : LsAt w A l) :
    Calls Try.prog 19 #[.slice A m d, .int .i64 i] w fun e w' => e = .returned (.tuple #[.int .i64 (max (fnd (isId i) l) 0), .bool (decide (0 ≤ fnd (isId i) l))]) ∧ Below w.heap.size w w' := by
  have cI := indices_any A m d l hcs hm hok w hA
  have HZ := Go.Lib.hid (idxD_zero l i)
  clear hA hcs hok
  go_enter Try.func19, Try.ntmps19
  go_wp2_with fail
  (with_reducible refine cI.mono ?_)
  rintro e w1 ⟨b, n, rfl, hb, hix, hb1⟩
  have hl := ix_look hix hi
  clear cI
  go_wp2
  go_ret2
  exact ⟨by rw [HZ.out.1, HZ.out.2]; rfl, hb1⟩
end Go.Proofs.Ytbkpokipibgdfaa
