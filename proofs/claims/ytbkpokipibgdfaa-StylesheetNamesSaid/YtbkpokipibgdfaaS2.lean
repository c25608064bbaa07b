/- Layer 8: styles in memory; Find (21), FindName (20, 22, 48, 49). -/
import Derived.Test.YtbkpokipibgdfaaS1
import Derived.Test.YtbkpokipibgdfaaJA
namespace Go.Proofs.Ytbkpokipibgdfaa
open Go.RowKit Go.Lib
set_option linter.unusedVariables false

structure St where
  id : Int
  kind : Int
  name : ByteArray
  base : Int
  next : Int
  props : List Pr
instance : Inhabited St := ⟨⟨0, 0, ⟨#[]⟩, 0, 0, []⟩⟩
/-- A style in memory. -/
def StAt (w : World) (g o : Nat) (x : St) : Prop := ∃ (B : Option Addr) (c : Nat), w.cell? ⟨g, o, none⟩ = some (.int .i64 x.id) ∧ w.cell? ⟨g, o + 1, none⟩ = some (.int .i64 x.kind) ∧ w.cell? ⟨g, o + 2, none⟩ = some (.string x.name) ∧
  w.cell? ⟨g, o + 3, none⟩ = some (.int .i64 x.base) ∧ w.cell? ⟨g, o + 4, none⟩ = some (.int .i64 x.next) ∧ w.cell? ⟨g, o + 5, none⟩ = some (.slice B x.props.length c) ∧ x.props.length ≤ c ∧ c ≤ maxLen ∧ PrAt w B x.props
def LsAt (w : World) (A : Option Addr) (l : List St) : Prop := l = [] ∨ ∃ g o, A = some ⟨g, o, none⟩ ∧ g < w.heap.size ∧ ∀ k (h : k < l.length), StAt w g (o + k * 6) l[k]
theorem StAt.below {w w' : World} {g o : Nat} {x : St} (h : StAt w g o x) (hg : g < w.heap.size) (hb : Below w.heap.size w w') : StAt w' g o x := by
  obtain ⟨B, c, c0, c1, c2, c3, c4, c5, h1, h2, h⟩ := h
  exact ⟨B, c, (hb.cell (p := ⟨g, o, none⟩) hg).trans c0, (hb.cell (p := ⟨g, o + 1, none⟩) hg).trans c1, (hb.cell (p := ⟨g, o + 2, none⟩) hg).trans c2, (hb.cell (p := ⟨g, o + 3, none⟩) hg).trans c3,
    (hb.cell (p := ⟨g, o + 4, none⟩) hg).trans c4, (hb.cell (p := ⟨g, o + 5, none⟩) hg).trans c5, h1, h2, h.below hb (Nat.le_refl _)⟩
theorem LsAt.below {w w' : World} {A : Option Addr} {l : List St} (h : LsAt w A l) (hb : Below w.heap.size w w') : LsAt w' A l := by
  rcases h with h | ⟨g, o, h1, h2, h3⟩
  · exact .inl h
  · exact .inr ⟨g, o, h1, Nat.lt_of_lt_of_le h2 hb.size, fun k hk => (h3 k hk).below h2 hb⟩
theorem LsAt.pos {w : World} {A : Option Addr} {l : List St} (h : LsAt w A l) (hp : 0 < l.length) : ∃ g o, A = some ⟨g, o, none⟩ ∧ g < w.heap.size ∧ ∀ k (h : k < l.length), StAt w g (o + k * 6) l[k] := by
  rcases h with h | h
  · rw [h] at hp; exact absurd hp (Nat.lt_irrefl _)
  · exact h

/-- The place of the first that p holds of, or -1. -/
def fnd (p : St → Bool) (l : List St) : Int := match l.findIdx? p with
  | some k => (k : Int)
  | none => -1
theorem fnd_yes {p : St → Bool} {l : List St} {k : Nat} (h : k < l.length) (hp : p l[k] = true) (hn : ∀ j (h : j < l.length), j < k → p l[j] = false) : fnd p l = (k : Int) := by
  have : l.findIdx? p = some k := by
    rw [List.findIdx?_eq_some_iff_getElem]
    exact ⟨h, hp, fun j hj => by rw [hn j (by omega) hj]; simp⟩
  unfold fnd; rw [this]
theorem fnd_no {p : St → Bool} {l : List St} (hn : ∀ j (h : j < l.length), p l[j] = false) : fnd p l = -1 := by
  have : l.findIdx? p = none := by
    rw [List.findIdx?_eq_none_iff]
    intro x hx
    obtain ⟨j, hj, rfl⟩ := List.mem_iff_getElem.1 hx
    exact hn j hj
  unfold fnd; rw [this]
theorem fnd_or (p : St → Bool) (l : List St) : (∃ (k : Nat) (h : k < l.length), fnd p l = (k : Int) ∧ p l[k] = true ∧ ∀ j (h : j < l.length), j < k → p l[j] = false) ∨ (fnd p l = -1 ∧ ∀ j (h : j < l.length), p l[j] = false) := by
  cases h : l.findIdx? p with
  | some k =>
    obtain ⟨hk, hp, hn⟩ := List.findIdx?_eq_some_iff_getElem.1 h
    have hn' : ∀ j (hj : j < l.length), j < k → p l[j] = false := fun j hj hl => by have := hn j hl; simpa using this
    exact .inl ⟨k, hk, fnd_yes hk hp hn', hp, hn'⟩
  | none =>
    have hn : ∀ j (hj : j < l.length), p l[j] = false := fun j hj => List.findIdx?_eq_none_iff.1 h _ (List.getElem_mem hj)
    exact .inr ⟨fnd_no hn, hn⟩
def isId (i : Int) (x : St) : Bool := x.id == i
def isNm (k : Int) (s : ByteArray) (x : St) : Bool := x.kind == k && x.name.toList == s.toList
def Before (p : St → Bool) (l : List St) (k : Nat) : Prop := ∀ j (h : j < l.length), j < k → p l[j] = false
theorem Before.zero (p : St → Bool) (l : List St) : Before p l 0 := fun j _ h => absurd h (Nat.not_lt_zero _)
theorem Before.succ {p : St → Bool} {l : List St} {k : Nat} (h : Before p l k) (hk : k < l.length) (hp : p l[k] = false) : Before p l (k + 1) := fun j hj hl => if e : j = k then by subst e; exact hp else h j hj (by omega)

set_option maxRecDepth 100000 in
set_option maxHeartbeats 8000000 in
theorem rfind_any (l : List St) (n : Nat) (hn : l.length = n) (h1000 : n ≤ 1000) (A : Option Addr) (c : Nat) (i : Int) (w : World) (hA : LsAt w A l) :
    Calls Try.prog 21 #[.slice A n c, .int .i64 i] w fun e w' => e = .returned (.int .i64 (fnd (isId i) l)) ∧ Below w.heap.size w w' := by
  have HN := Lib.hid hn
  have HA := Lib.hid hA
  clear hn hA
  go_enter Try.func21, Try.ntmps21
  go_wp2
  go_loopw [5] (fun s5 wr => ∃ k : Nat, k ≤ n ∧ s5 = .int .i64 (k : Nat) ∧ Hid (Before (isId i) l k) ∧ Hid (Below w.heap.size w wr)) (fun s5 _ => n - (intOf s5).toNat)
  case atStart => exact ⟨0, Nat.zero_le _, rfl, Lib.hid (Before.zero _ _), Lib.hid (Below.refl _ _)⟩
  case round =>
    obtain ⟨k, hk, rfl, HM, HB⟩ := hrel
    by_cases hlt : k < n
    · have hkl : k < l.length := by rw [HN.out]; exact hlt
      obtain ⟨g, o, rfl, hg, hcl⟩ := HA.out.pos (by omega)
      obtain ⟨B, cc, c0, _⟩ := hcl k hkl
      have z0 := (HB.out.cell (p := ⟨g, o + k * 6, none⟩) hg).trans c0
      have HY := Lib.hid (fun (h : isId i l[k] = true) => fnd_yes hkl h HM.out)
      have HX := Lib.hid (fun (h : isId i l[k] = false) => HM.out.succ hkl h)
      clear hcl c0
      unfold isId at HY HX
      generalize l[k].id = v at z0 HY HX
      by_cases hv : (v == i) = true
      · have HE := Lib.hid (HY.out hv)
        clear HY HX
        go_wp2
        go_ret
        exact ⟨by rw [← HE.out]; rfl, HB.out⟩
      · have hv' : (v == i) = false := by simpa using hv
        have HE := Lib.hid (HX.out hv')
        clear HY HX hv
        go_wp2
        go_roundw
        case rel => exact ⟨k + 1, by omega, by go_num, HE, HB⟩
        case measure => simp [intOf]; omega
    · obtain rfl : k = n := by omega
      have HE := Lib.hid (fnd_no (p := isId i) (l := l) fun j h => HM.out j h (by rw [← HN.out]; exact h))
      go_wp2
      go_ret
      exact ⟨by rw [HE.out]; rfl, HB.out⟩

set_option maxRecDepth 100000 in
set_option maxHeartbeats 8000000 in
theorem rfindname_any (l : List St) (n : Nat) (hn : l.length = n) (h1000 : n ≤ 1000) (A : Option Addr) (c : Nat) (i : Int) (s : ByteArray) (w : World) (hA : LsAt w A l) :
    Calls Try.prog 22 #[.slice A n c, .int .i64 i, .string s] w fun e w' => e = .returned (.int .i64 (fnd (isNm i s) l)) ∧ Below w.heap.size w w' := by
  have HN := Lib.hid hn
  have HA := Lib.hid hA
  clear hn hA
  go_enter Try.func22, Try.ntmps22
  go_wp2
  go_loopw [7] (fun s5 wr => ∃ k : Nat, k ≤ n ∧ s5 = .int .i64 (k : Nat) ∧ Hid (Before (isNm i s) l k) ∧ Hid (Below w.heap.size w wr)) (fun s5 _ => n - (intOf s5).toNat)
  case atStart => exact ⟨0, Nat.zero_le _, rfl, Lib.hid (Before.zero _ _), Lib.hid (Below.refl _ _)⟩
  case round =>
    obtain ⟨k, hk, rfl, HM, HB⟩ := hrel
    by_cases hlt : k < n
    · have hkl : k < l.length := by rw [HN.out]; exact hlt
      obtain ⟨g, o, rfl, hg, hcl⟩ := HA.out.pos (by omega)
      obtain ⟨B, cc, _, c1, c2, _⟩ := hcl k hkl
      have z1 := (HB.out.cell (p := ⟨g, o + k * 6 + 1, none⟩) hg).trans c1
      have z2 := (HB.out.cell (p := ⟨g, o + k * 6 + 2, none⟩) hg).trans c2
      have HY := Lib.hid (fun (h : isNm i s l[k] = true) => fnd_yes hkl h HM.out)
      have HX := Lib.hid (fun (h : isNm i s l[k] = false) => HM.out.succ hkl h)
      clear hcl c1 c2
      unfold isNm at HY HX
      generalize l[k].kind = v at z1 HY HX
      generalize l[k].name = u at z2 HY HX
      by_cases hv : (v == i) = true
      · by_cases hu : (u.toList == s.toList) = true
        · have HE := Lib.hid (HY.out (by rw [hv, hu]; rfl))
          clear HY HX
          go_wp2
          go_ret
          exact ⟨by rw [← HE.out]; rfl, HB.out⟩
        · have hu' : (u.toList == s.toList) = false := by simpa using hu
          have HE := Lib.hid (HX.out (by rw [hv, hu']; rfl))
          clear HY HX hu
          go_wp2
          go_roundw
          case rel => exact ⟨k + 1, by omega, by go_num, HE, HB⟩
          case measure => simp [intOf]; omega
      · have hv' : (v == i) = false := by simpa using hv
        have HE := Lib.hid (HX.out (by rw [hv']; rfl))
        clear HY HX hv
        go_wp2
        go_roundw
        case rel => exact ⟨k + 1, by omega, by go_num, HE, HB⟩
        case measure => simp [intOf]; omega
    · obtain rfl : k = n := by omega
      have HE := Lib.hid (fnd_no (p := isNm i s) (l := l) fun j h => HM.out j h (by rw [← HN.out]; exact h))
      go_wp2
      go_ret
      exact ⟨by rw [HE.out]; rfl, HB.out⟩

abbrev stV (x : St) (B : Option Addr) (c : Nat) : Value := .agg #[.int .i64 x.id, .int .i64 x.kind, .string x.name, .int .i64 x.base, .int .i64 x.next, .slice B x.props.length c]
set_option maxRecDepth 100000 in
set_option maxHeartbeats 8000000 in
theorem isnm_any (a1 a2 a4 a5 : Int) (a3 : ByteArray) (B : Option Addr) (m c : Nat) (i : Int) (s : ByteArray) (b1 b2 : Nat) (w : World) (h1 : w.cell? ⟨b1, 0, none⟩ = some (.int .i64 i)) (h2 : w.cell? ⟨b2, 0, none⟩ = some (.string s)) :
    Calls Try.prog 49 #[.agg #[.int .i64 a1, .int .i64 a2, .string a3, .int .i64 a4, .int .i64 a5, .slice B m c], .pointer (some ⟨b1, 0, none⟩), .pointer (some ⟨b2, 0, none⟩)] w fun e w' => e = .returned (.bool (a2 == i && a3.toList == s.toList)) ∧ Below w.heap.size w w' := by
  have hb1 : b1 < w.heap.size := World.block_lt_of_cell? w ⟨b1, 0, none⟩ h1
  have hb2 : b2 < w.heap.size := World.block_lt_of_cell? w ⟨b2, 0, none⟩ h2
  have B0 := (Below.refl w.heap.size w).alloc (Nat.le_refl _) (.cells #[.int .i64 a1, .int .i64 a2, .string a3, .int .i64 a4, .int .i64 a5, .slice B m c] 28)
  have z1 := (B0.cell (p := ⟨b1, 0, none⟩) hb1).trans h1
  have z2 := (B0.cell (p := ⟨b2, 0, none⟩) hb2).trans h2
  have HB := Lib.hid B0
  clear B0 h1 h2
  go_enter Try.func49, Try.ntmps49
  by_cases hv : (a2 == i) = true
  · by_cases hu : (a3.toList == s.toList) = true
    · go_wp2
      go_ret
      exact ⟨ret_bool' (by rw [hv, hu]; rfl), HB.out⟩
    · have hu' : (a3.toList == s.toList) = false := by simpa using hu
      clear hu
      go_wp2
      go_ret
      exact ⟨ret_bool' (by rw [hv, hu']; rfl), HB.out⟩
  · have hv' : (a2 == i) = false := by simpa using hv
    clear hv
    go_wp2
    go_ret
    exact ⟨ret_bool' (by rw [hv']; rfl), HB.out⟩
set_option maxRecDepth 100000 in
set_option maxHeartbeats 8000000 in
theorem indexname_any (l : List St) (n : Nat) (hn : l.length = n) (h1000 : n ≤ 1000) (A : Option Addr) (c : Nat) (i : Int) (s : ByteArray) (b1 b2 : Nat) (w : World) (hA : LsAt w A l) (h1 : w.cell? ⟨b1, 0, none⟩ = some (.int .i64 i)) (h2 : w.cell? ⟨b2, 0, none⟩ = some (.string s)) :
    Calls Try.prog 48 #[.slice A n c, .func (.func 49) #[] #[.pointer (some ⟨b1, 0, none⟩), .pointer (some ⟨b2, 0, none⟩)]] w fun e w' => e = .returned (.int .i64 (fnd (isNm i s) l)) ∧ Below w.heap.size w w' := by
  have hb1 : b1 < w.heap.size := World.block_lt_of_cell? w ⟨b1, 0, none⟩ h1
  have hb2 : b2 < w.heap.size := World.block_lt_of_cell? w ⟨b2, 0, none⟩ h2
  have HN := Lib.hid hn
  have HA := Lib.hid hA
  have CB := Lib.hid (fun a1 a2 a4 a5 a3 B m c w' (hb : Below w.heap.size w w') => isnm_any a1 a2 a4 a5 a3 B m c i s b1 b2 w' ((hb.cell (p := ⟨b1, 0, none⟩) hb1).trans h1) ((hb.cell (p := ⟨b2, 0, none⟩) hb2).trans h2))
  clear hn hA h1 h2
  go_enter Try.func48, Try.ntmps48
  go_wp2_with fail
  go_loopw [5, 8] (fun _ s8 wr => ∃ k : Nat, k ≤ n ∧ s8 = .int .i64 (k : Nat) ∧ Hid (Before (isNm i s) l k) ∧ Hid (Below w.heap.size w wr)) (fun _ s8 _ => n - (intOf s8).toNat)
  case atStart => exact ⟨0, Nat.zero_le _, rfl, Lib.hid (Before.zero _ _), Lib.hid (Below.refl _ _)⟩
  case round =>
    obtain ⟨k, hk, rfl, HM, HB⟩ := hrel
    by_cases hlt : k < n
    · have hkl : k < l.length := by rw [HN.out]; exact hlt
      obtain ⟨g, o, rfl, hg, hcl⟩ := HA.out.pos (by omega)
      obtain ⟨B, cc, z0, z1, z2, z3, z4, z5, _⟩ := (hcl k hkl)
      replace z0 := (HB.out.cell (p := ⟨g, o + k * 6, none⟩) hg).trans z0
      replace z1 := (HB.out.cell (p := ⟨g, o + k * 6 + 1, none⟩) hg).trans z1
      replace z2 := (HB.out.cell (p := ⟨g, o + k * 6 + 2, none⟩) hg).trans z2
      replace z3 := (HB.out.cell (p := ⟨g, o + k * 6 + 3, none⟩) hg).trans z3
      replace z4 := (HB.out.cell (p := ⟨g, o + k * 6 + 4, none⟩) hg).trans z4
      replace z5 := (HB.out.cell (p := ⟨g, o + k * 6 + 5, none⟩) hg).trans z5
      have HY := Lib.hid (fun (h : isNm i s l[k] = true) => fnd_yes hkl h HM.out)
      have HX := Lib.hid (fun (h : isNm i s l[k] = false) => HM.out.succ hkl h)
      have hs := HB.out.size
      clear hcl
      unfold isNm at HY HX
      generalize l[k] = x at z0 z1 z2 z3 z4 z5 HY HX
      obtain ⟨a1, a2, a3, a4, a5, ps⟩ := x
      dsimp only at z0 z1 z2 z3 z4 z5 HY HX
      have cb := CB.out a1 a2 a4 a5 a3 B ps.length cc wr HB.out
      by_cases hv : (a2 == i && a3.toList == s.toList) = true
      · have HE := Lib.hid (HY.out hv)
        rw [hv] at cb
        clear HY HX hv
        go_wp2_with fail
        (with_reducible refine cb.mono ?_)
        rintro e w7 ⟨rfl, k7⟩
        have K7 := Go.Lib.hid (HB.out.trans (k7.mono hs))
        clear cb k7
        go_wp2
        go_ret
        exact ⟨by rw [← HE.out]; rfl, K7.out⟩
      · have hv' : (a2 == i && a3.toList == s.toList) = false := by simpa using hv
        rw [hv'] at cb
        have HE := Lib.hid (HX.out hv')
        clear HY HX hv hv'
        go_wp2_with fail
        (with_reducible refine cb.mono ?_)
        rintro e w7 ⟨rfl, k7⟩
        have K7 := Go.Lib.hid (HB.out.trans (k7.mono hs))
        clear cb k7 z0 z1 z2 z3 z4 z5
        go_wp2
        go_roundw
        case rel => exact ⟨k + 1, by omega, by go_num, HE, K7⟩
        case measure => simp [intOf]; omega
    · obtain rfl : k = n := by omega
      have HE := Lib.hid (fnd_no (p := isNm i s) (l := l) fun j h => HM.out j h (by rw [← HN.out]; exact h))
      go_wp2
      go_ret
      exact ⟨by rw [HE.out]; rfl, HB.out⟩
set_option maxRecDepth 100000 in
set_option maxHeartbeats 8000000 in
theorem findname_any (l : List St) (n : Nat) (hn : l.length = n) (h1000 : n ≤ 1000) (A : Option Addr) (c : Nat) (i : Int) (s : ByteArray) (w : World) (hA : LsAt w A l) :
    Calls Try.prog 20 #[.slice A n c, .int .i64 i, .string s] w fun e w' => e = .returned (.tuple #[.int .i64 (max (fnd (isNm i s) l) 0), .bool (decide (0 ≤ fnd (isNm i s) l))]) ∧ Below w.heap.size w w' := by
  have B0 := ((Below.refl w.heap.size w).alloc (Nat.le_refl _) (.cells #[.int .i64 i] 3)).alloc (by simp) (.cells #[.string s] 9)
  have cI := indexname_any l n hn h1000 A c i s w.heap.size (w.heap.size + 1) ((w.alloc (.cells #[.int .i64 i] 3)).alloc (.cells #[.string s] 9)) (hA.below B0) (((Boxed.new w 3 (.int .i64 i)).alloc _).cell) (by have := (Boxed.new (w.alloc (.cells #[.int .i64 i] 3)) 9 (.string s)).cell; rw [World.size_alloc] at this; exact this)
  clear hn hA
  generalize fnd (isNm i s) l = v at *
  go_enter Try.func20, Try.ntmps20
  go_wp2_with fail
  (with_reducible refine cI.mono ?_)
  rintro e w7 ⟨rfl, k7⟩
  have K7 := Go.Lib.hid (B0.trans (k7.mono (by simp; omega)))
  clear cI k7 B0
  by_cases hv : 0 ≤ v
  · have e1 : decide (0 ≤ v) = true := by simpa using hv
    have e2 : max v 0 = v := by omega
    have HM := Lib.hid e2
    clear e2
    go_wp2
    go_ret2
    exact ⟨by rw [HM.out, e1]; rfl, K7.out⟩
  · have e1 : decide (0 ≤ v) = false := by simpa using hv
    have e2 : max v 0 = 0 := by omega
    have HM := Lib.hid e2
    clear e2
    go_wp2
    go_ret2
    exact ⟨by rw [HM.out, e1]; rfl, K7.out⟩
end Go.Proofs.Ytbkpokipibgdfaa
