/- Layer 22: sets of numbers and of strings, as maps to bools; setOf (40, 81). -/
import Derived.Test.YtmpklkhjipclmaaV5
import Derived.StringKeys
import Derived.Maps.Own
import Derived.Maps.OwnSet
import Derived.Maps.Views
namespace Go.Proofs.Ytmpklkhjipclmaa
open Go.RowKit Go.Lib Go.Maps
set_option linter.unusedVariables false

def I64 (x : Int) : Prop := -9223372036854775808 ≤ x ∧ x ≤ 9223372036854775807
theorem i64_wf {x : Int} (h : I64 x) : (Lit.int .i64 x).wf = true := by
  unfold I64 at h
  simp [Lit.wf, IntKind.bits, IntKind.signed, IntKind.min, IntKind.max]
  omega
theorem key_i {x : Int} (h : I64 x) : keyOf Try.prog 3 (.int .i64 x) = some (.int .i64 x) := keyOf_int_mk Try.underlying3 (i64_wf h)
theorem key_s {s : ByteArray} (h : s.size ≤ maxLen) : keyOf Try.prog 9 (.string s) = some (.string s.data.toList) := WideMaps.keyOf_string_mk Try.underlying9 h
set_option maxRecDepth 100000 in
theorem bool_inv {v : Value} {z : DataW Unit × List MemPlace} (h : plainElem Try.prog 4 v = some z) : ∃ x, v = .bool x ∧ z = (.lit (.bool x), []) := by
  unfold plainElem at h
  rw [Try.underlying4] at h
  cases v <;> simp at h
  exact ⟨_, rfl, h.symm⟩
theorem has_size {H : Type} {D : DataW H} {k : Lit} (h : has D k = true) : size D ≠ 0 := by
  cases D with
  | map es =>
    intro hs
    have : es = [] := List.eq_nil_of_length_eq_zero hs
    subst this
    cases h
  | _ => cases h
instance : LawfulBEq ByteArray where
  eq_of_beq := by
    intro a b h
    by_cases e : a = b
    · exact e
    · have h2 := str_neB e
      rw [← Go.beq_toListBytes, h] at h2
      cases h2
  rfl := by
    intro a
    rw [Go.beq_toListBytes]
    exact beq_self_eq_true a.toList
theorem u8_inj {a b : ByteArray} (h : a.data.toList = b.data.toList) : a = b := by
  obtain ⟨⟨x⟩⟩ := a
  obtain ⟨⟨y⟩⟩ := b
  simpa using h

/-- A set of numbers, a map to bools. -/
def SetI (w : World) (b n : Nat) (l : List Int) : Prop := ∃ D : DataW Unit, w.ownsMap Try.prog 3 (plainElem Try.prog 4) b n D ∧
  (∀ a : Int, I64 a → has D (.int .i64 a) = decide (a ∈ l) ∧ D.atKey (.int .i64 a) (.lit (.bool false)) = .lit (.bool (decide (a ∈ l)))) ∧ (l = [] → D = .map []) ∧ (∀ a ∈ l, I64 a)
theorem SetI.new (w : World) : SetI (w.alloc (.map #[] 0)) w.heap.size 0 [] := ⟨.map [], World.ownsMap_made w _ _ _, fun a _ => ⟨by simp [has], WideAt.atKey_none _ (by simp)⟩, fun _ => rfl, fun a h => by cases h⟩
theorem SetI.look {w : World} {b n : Nat} {l : List Int} (h : SetI w b n l) {a : Int} (ha : I64 a) : (Instr.lookup 71 (.map (some b)) (.int .i64 a) false).run Try.prog w = .ok (.bool (decide (a ∈ l))) w := by
  obtain ⟨D, hD, hf, _⟩ := h
  obtain ⟨v, ps, hr, hv⟩ := hD.lookup (int_keyed Try.underlying3) Try.underlying71 (Try.zeroValue4 w) (plainElem_bool Try.underlying4 false) (key_i ha)
  rw [(hf a ha).2] at hv
  obtain ⟨x, rfl, hx⟩ := bool_inv hv
  simp only [Prod.mk.injEq, DataW.lit.injEq, Lit.bool.injEq] at hx
  rw [hx.1]; exact hr
theorem SetI.put {w : World} {b n : Nat} {l : List Int} (h : SetI w b n l) (hn : n < maxLen) {a : Int} (ha : I64 a) :
    ∃ w', (Instr.mapUpdate 71 (.map (some b)) (.int .i64 a) (.bool true)).run Try.prog w = .ok () w' ∧ SetI w' b (n + 1) (l ++ [a]) ∧ w.grownBy w' (some b) := by
  obtain ⟨D, hD, hf, hl, hi⟩ := h
  obtain ⟨w', h1, h2, h3⟩ := hD.update (int_keyed Try.underlying3) Try.underlying71 hn (key_i ha) (plainElem_bool Try.underlying4 true)
  refine ⟨w', h1, ⟨_, h2, fun z hz => ?_, fun e => by simp at e, fun x hx => ?_⟩, h3⟩
  · by_cases e : z = a
    · subst e
      constructor
      · rw [has_put_same hD.isMap ((int_keyed Try.underlying3).key (key_i hz))]
        simp
      · rw [atKey_put_same hD.isMap ((int_keyed Try.underlying3).key (key_i hz))]
        simp
    · have hne : (Lit.int .i64 z) ≠ (Lit.int .i64 a) := by simpa using e
      obtain ⟨g1, g2⟩ := hf z hz
      constructor
      · rw [has_put_other hne, g1]; simp [e]
      · rw [atKey_put_other hne, g2]; simp [e]
  · rcases List.mem_append.1 hx with hx | hx
    · exact hi x hx
    · rw [List.mem_singleton] at hx; subst hx; exact ha
theorem SetI.len {w : World} {b n : Nat} {l : List Int} (h : SetI w b n l) : ∃ s : Nat, s ≤ n ∧ (s = 0 ↔ l = []) ∧ ∀ ty, (Builtin.len_ #[71] ty #[.map (some b)]).run Try.prog w = .ok (.int .i64 (s : Nat)) w := by
  obtain ⟨D, hD, hf, hl, hi⟩ := h
  refine ⟨size D, hD.size_le, ⟨fun h0 => ?_, fun e => by rw [hl e]; rfl⟩, fun ty => hD.len Try.underlying71 ty⟩
  cases l with
  | nil => rfl
  | cons x l => exact absurd h0 (has_size (k := Lit.int .i64 x) (by rw [(hf x (hi x (by simp))).1]; simp))
theorem SetI.lens {w : World} {b n : Nat} {l : List Int} (h : SetI w b n l) : ∃ s : Nat, (s = 0 ↔ l = []) ∧ ∀ w', Below w.heap.size w w' → ∀ ty, (Builtin.len_ #[71] ty #[.map (some b)]).run Try.prog w' = .ok (.int .i64 (s : Nat)) w' := by
  obtain ⟨D, hD, hf, hl, hi⟩ := h
  refine ⟨size D, ⟨fun h0 => ?_, fun e => by rw [hl e]; rfl⟩, fun w' hb ty => ?_⟩
  · cases l with
    | nil => rfl
    | cons x l => exact absurd h0 (has_size (k := Lit.int .i64 x) (by rw [(hf x (hi x (by simp))).1]; simp))
  · have hlt := hD.lt
    obtain ⟨es, clock, h1, h2⟩ := hD
    have hD' : w'.ownsMap Try.prog 3 (plainElem Try.prog 4) b n D := ⟨es, clock, (hb.block b hlt).trans h1, h2⟩
    exact hD'.len Try.underlying71 ty
theorem SetI.kept {w w' : World} {b n : Nat} {l : List Int} (h : SetI w b n l) {row : Option Nat} (hg : w.grownBy w' row) (hne : some b ≠ row) : SetI w' b n l := by
  obtain ⟨D, hD, hf⟩ := h
  exact ⟨D, hD.kept hg hne, hf⟩
theorem SetI.lt {w : World} {b n : Nat} {l : List Int} (h : SetI w b n l) : b < w.heap.size := by obtain ⟨D, hD, _⟩ := h; exact hD.lt
theorem SetI.below {w w' : World} {b n : Nat} {l : List Int} (h : SetI w b n l) {m : Nat} (hm : b < m) (hb : Below m w w') : SetI w' b n l := by
  have hlt := h.lt
  obtain ⟨D, ⟨es, clock, h1, h2⟩, hf⟩ := h
  exact ⟨D, ⟨es, clock, (hb.block b hm).trans h1, h2⟩, hf⟩
theorem SetI.mono {w : World} {b n n' : Nat} {l : List Int} (h : SetI w b n l) (e : n ≤ n') : SetI w b n' l := by
  obtain ⟨D, hD, hf⟩ := h
  exact ⟨D, hD.mono e, hf⟩

/-- A set of strings, a map to bools. -/
def SetS (w : World) (b n : Nat) (l : List ByteArray) : Prop := ∃ D : DataW Unit, w.ownsMap Try.prog 9 (plainElem Try.prog 4) b n D ∧
  (∀ a : ByteArray, a.size ≤ maxLen → has D (.string a.data.toList) = decide (a ∈ l) ∧ D.atKey (.string a.data.toList) (.lit (.bool false)) = .lit (.bool (decide (a ∈ l)))) ∧ (l = [] → D = .map []) ∧ (∀ a ∈ l, a.size ≤ maxLen)
theorem SetS.new (w : World) : SetS (w.alloc (.map #[] 0)) w.heap.size 0 [] := ⟨.map [], World.ownsMap_made w _ _ _, fun a _ => ⟨by simp [has], WideAt.atKey_none _ (by simp)⟩, fun _ => rfl, fun a h => by cases h⟩
theorem SetS.look {w : World} {b n : Nat} {l : List ByteArray} (h : SetS w b n l) {a : ByteArray} (ha : a.size ≤ maxLen) : (Instr.lookup 110 (.map (some b)) (.string a) false).run Try.prog w = .ok (.bool (decide (a ∈ l))) w := by
  obtain ⟨D, hD, hf, _⟩ := h
  obtain ⟨v, ps, hr, hv⟩ := hD.lookup (string_keyed Try.underlying9) Try.underlying110 (Try.zeroValue4 w) (plainElem_bool Try.underlying4 false) (key_s ha)
  rw [(hf a ha).2] at hv
  obtain ⟨x, rfl, hx⟩ := bool_inv hv
  simp only [Prod.mk.injEq, DataW.lit.injEq, Lit.bool.injEq] at hx
  rw [hx.1]; exact hr
theorem SetS.put {w : World} {b n : Nat} {l : List ByteArray} (h : SetS w b n l) (hn : n < maxLen) {a : ByteArray} (ha : a.size ≤ maxLen) :
    ∃ w', (Instr.mapUpdate 110 (.map (some b)) (.string a) (.bool true)).run Try.prog w = .ok () w' ∧ SetS w' b (n + 1) (l ++ [a]) ∧ w.grownBy w' (some b) := by
  obtain ⟨D, hD, hf, hl, hi⟩ := h
  obtain ⟨w', h1, h2, h3⟩ := hD.update (string_keyed Try.underlying9) Try.underlying110 hn (key_s ha) (plainElem_bool Try.underlying4 true)
  refine ⟨w', h1, ⟨_, h2, fun z hz => ?_, fun e => by simp at e, fun x hx => ?_⟩, h3⟩
  · by_cases e : z = a
    · subst e
      constructor
      · rw [has_put_same hD.isMap ((string_keyed Try.underlying9).key (key_s hz))]
        simp
      · rw [atKey_put_same hD.isMap ((string_keyed Try.underlying9).key (key_s hz))]
        simp
    · have hne : (Lit.string z.data.toList) ≠ (Lit.string a.data.toList) := fun h => e (u8_inj (by simpa using h))
      obtain ⟨g1, g2⟩ := hf z hz
      constructor
      · rw [has_put_other hne, g1]; simp [e]
      · rw [atKey_put_other hne, g2]; simp [e]
  · rcases List.mem_append.1 hx with hx | hx
    · exact hi x hx
    · rw [List.mem_singleton] at hx; subst hx; exact ha
theorem SetS.len {w : World} {b n : Nat} {l : List ByteArray} (h : SetS w b n l) : ∃ s : Nat, s ≤ n ∧ (s = 0 ↔ l = []) ∧ ∀ ty, (Builtin.len_ #[110] ty #[.map (some b)]).run Try.prog w = .ok (.int .i64 (s : Nat)) w := by
  obtain ⟨D, hD, hf, hl, hi⟩ := h
  refine ⟨size D, hD.size_le, ⟨fun h0 => ?_, fun e => by rw [hl e]; rfl⟩, fun ty => hD.len Try.underlying110 ty⟩
  cases l with
  | nil => rfl
  | cons x l => exact absurd h0 (has_size (k := Lit.string x.data.toList) (by rw [(hf x (hi x (by simp))).1]; simp))
theorem SetS.lens {w : World} {b n : Nat} {l : List ByteArray} (h : SetS w b n l) : ∃ s : Nat, (s = 0 ↔ l = []) ∧ ∀ w', Below w.heap.size w w' → ∀ ty, (Builtin.len_ #[110] ty #[.map (some b)]).run Try.prog w' = .ok (.int .i64 (s : Nat)) w' := by
  obtain ⟨D, hD, hf, hl, hi⟩ := h
  refine ⟨size D, ⟨fun h0 => ?_, fun e => by rw [hl e]; rfl⟩, fun w' hb ty => ?_⟩
  · cases l with
    | nil => rfl
    | cons x l => exact absurd h0 (has_size (k := Lit.string x.data.toList) (by rw [(hf x (hi x (by simp))).1]; simp))
  · have hlt := hD.lt
    obtain ⟨es, clock, h1, h2⟩ := hD
    have hD' : w'.ownsMap Try.prog 9 (plainElem Try.prog 4) b n D := ⟨es, clock, (hb.block b hlt).trans h1, h2⟩
    exact hD'.len Try.underlying110 ty
theorem SetS.kept {w w' : World} {b n : Nat} {l : List ByteArray} (h : SetS w b n l) {row : Option Nat} (hg : w.grownBy w' row) (hne : some b ≠ row) : SetS w' b n l := by
  obtain ⟨D, hD, hf⟩ := h
  exact ⟨D, hD.kept hg hne, hf⟩
theorem SetS.lt {w : World} {b n : Nat} {l : List ByteArray} (h : SetS w b n l) : b < w.heap.size := by obtain ⟨D, hD, _⟩ := h; exact hD.lt
theorem SetS.below {w w' : World} {b n : Nat} {l : List ByteArray} (h : SetS w b n l) {m : Nat} (hm : b < m) (hb : Below m w w') : SetS w' b n l := by
  have hlt := h.lt
  obtain ⟨D, ⟨es, clock, h1, h2⟩, hf⟩ := h
  exact ⟨D, ⟨es, clock, (hb.block b hm).trans h1, h2⟩, hf⟩
theorem SetS.mono {w : World} {b n n' : Nat} {l : List ByteArray} (h : SetS w b n l) (e : n ≤ n') : SetS w b n' l := by
  obtain ⟨D, hD, hf⟩ := h
  exact ⟨D, hD.mono e, hf⟩

theorem make71 (m : Nat) (w : World) : (Instr.makeMap 71 (some (.int .i64 (m : Nat)))).run Try.prog w = .ok (.map (some w.heap.size)) (w.alloc (.map #[] 0)) := by
  simp [Instr.makeMap, run_underlying Try.underlying71, Result.andThen]
  rfl
theorem make110 (m : Nat) (w : World) : (Instr.makeMap 110 (some (.int .i64 (m : Nat)))).run Try.prog w = .ok (.map (some w.heap.size)) (w.alloc (.map #[] 0)) := by
  simp [Instr.makeMap, run_underlying Try.underlying110, Result.andThen]
  rfl
/-- Strings in memory. -/
def SsAt (w : World) (A : Option Addr) (l : List ByteArray) : Prop := l = [] ∨ ∃ g o, A = some ⟨g, o, none⟩ ∧ g < w.heap.size ∧ ∀ k (h : k < l.length), w.cell? ⟨g, o + k, none⟩ = some (.string l[k])
theorem SsAt.below {w w' : World} {A : Option Addr} {l : List ByteArray} (h : SsAt w A l) (hb : Below w.heap.size w w') : SsAt w' A l := by
  rcases h with h | ⟨g, o, h1, h2, h3⟩
  · exact .inl h
  · exact .inr ⟨g, o, h1, Nat.lt_of_lt_of_le h2 hb.size, fun k hk => (hb.cell (p := ⟨g, o + k, none⟩) h2).trans (h3 k hk)⟩
theorem SsAt.pos {w : World} {A : Option Addr} {l : List ByteArray} (h : SsAt w A l) (hp : 0 < l.length) : ∃ g o, A = some ⟨g, o, none⟩ ∧ g < w.heap.size ∧ ∀ k (h : k < l.length), w.cell? ⟨g, o + k, none⟩ = some (.string l[k]) := by
  rcases h with h | h
  · rw [h] at hp; exact absurd hp (Nat.lt_irrefl _)
  · exact h
theorem SsAt.take {w : World} {A : Option Addr} {l : List ByteArray} (h : SsAt w A l) (m : Nat) : SsAt w A (l.take m) := by
  rcases h with h | ⟨g, o, h1, h2, h3⟩
  · left; rw [h]; exact List.take_nil
  · refine .inr ⟨g, o, h1, h2, fun k hk => ?_⟩
    rw [List.getElem_take]
    exact h3 k (by rw [List.length_take] at hk; omega)
def MapRet (S : World → Nat → Nat → Prop) (w : World) (e : Ending) (w' : World) : Prop := ∃ b n, e = .returned (.map (some b)) ∧ w.heap.size ≤ b ∧ S w' b n ∧ n ≤ 1000 ∧ Below w.heap.size w w'

set_option maxRecDepth 100000 in
set_option maxHeartbeats 8000000 in
theorem setofi_any (l : List Int) (n : Nat) (hn : l.length = n) (h1000 : n ≤ 1000) (hok : ∀ a ∈ l, I64 a) (A : Option Addr) (c : Nat) (w : World) (hA : NsAt w A l) :
    Calls Try.prog 40 #[.slice A n c] w (MapRet (fun w' b m => SetI w' b m l) w) := by
  have HN := Lib.hid hn
  have HA := Lib.hid hA
  have HOK := Lib.hid hok
  have hmk := fun (w : World) => make71 n w
  have B0 := Lib.hid ((Below.refl w.heap.size w).alloc (Nat.le_refl _) (.map #[] 0))
  have S0 := Lib.hid (SetI.new w)
  have hb : w.heap.size ≤ w.heap.size := Nat.le_refl _
  clear hn hA hok
  go_enter Try.func40, Try.ntmps40
  go_wp2_with fail
  generalize hB : w.heap.size = b0 at S0 hb ⊢
  have HBB := Lib.hid hB
  clear hB
  go_loopw [11] (fun s5 wr => ∃ k : Nat, k ≤ n ∧ s5 = .int .i64 (k : Nat) ∧ Hid (SetI wr b0 k (l.take k)) ∧ Hid (Below w.heap.size w wr)) (fun s5 _ => n - (intOf s5).toNat)
  case atStart => exact ⟨0, Nat.zero_le _, rfl, S0, B0⟩
  case round =>
    clear S0 B0
    obtain ⟨k, hk, rfl, HM, HB⟩ := hrel
    by_cases hlt : k < n
    · have hkl : k < l.length := by rw [HN.out]; exact hlt
      obtain ⟨g, o, rfl, hg, hcl⟩ := HA.out.pos (by omega)
      have z0 := (HB.out.cell (p := ⟨g, o + k, none⟩) hg).trans (hcl k hkl)
      have f1 : (k : Int) < (n : Int) := by omega
      obtain ⟨w5, hru, hS5, hg5⟩ := HM.out.put (by unfold maxLen; omega) (HOK.out _ (List.getElem_mem hkl))
      rw [← List.take_succ_eq_append_getElem hkl] at hS5
      have H5 := Lib.hid hS5
      have B5 := Lib.hid (HB.out.grown hg5 HB.out.size (fun e h => by cases h; rw [HBB.out]; exact Nat.le_refl _))
      clear hcl hS5 hg5
      generalize l[k] = v at z0 hru
      go_wp2
      go_roundw
      case rel => exact ⟨k + 1, by omega, by go_num, H5, B5⟩
      case measure => simp [intOf]; omega
    · obtain rfl : k = n := by omega
      have HE := Lib.hid (by have := HM.out; rw [List.take_of_length_le (by rw [HN.out]; exact Nat.le_refl _)] at this; exact this : SetI wr b0 k l)
      go_wp2
      go_ret
      exact ⟨b0, k, rfl, by rw [HBB.out]; exact Nat.le_refl _, HE.out, h1000, HB.out⟩

set_option maxRecDepth 100000 in
set_option maxHeartbeats 8000000 in
theorem setofs_any (l : List ByteArray) (n : Nat) (hn : l.length = n) (h1000 : n ≤ 1000) (hok : ∀ a ∈ l, a.size ≤ maxLen) (A : Option Addr) (c : Nat) (w : World) (hA : SsAt w A l) :
    Calls Try.prog 81 #[.slice A n c] w (MapRet (fun w' b m => SetS w' b m l) w) := by
  have HN := Lib.hid hn
  have HA := Lib.hid hA
  have HOK := Lib.hid hok
  have hmk := fun (w : World) => make110 n w
  have B0 := Lib.hid ((Below.refl w.heap.size w).alloc (Nat.le_refl _) (.map #[] 0))
  have S0 := Lib.hid (SetS.new w)
  have hb : w.heap.size ≤ w.heap.size := Nat.le_refl _
  clear hn hA hok
  go_enter Try.func81, Try.ntmps81
  go_wp2_with fail
  generalize hB : w.heap.size = b0 at S0 hb ⊢
  have HBB := Lib.hid hB
  clear hB
  go_loopw [11] (fun s5 wr => ∃ k : Nat, k ≤ n ∧ s5 = .int .i64 (k : Nat) ∧ Hid (SetS wr b0 k (l.take k)) ∧ Hid (Below w.heap.size w wr)) (fun s5 _ => n - (intOf s5).toNat)
  case atStart => exact ⟨0, Nat.zero_le _, rfl, S0, B0⟩
  case round =>
    clear S0 B0
    obtain ⟨k, hk, rfl, HM, HB⟩ := hrel
    by_cases hlt : k < n
    · have hkl : k < l.length := by rw [HN.out]; exact hlt
      obtain ⟨g, o, rfl, hg, hcl⟩ := HA.out.pos (by omega)
      have z0 := (HB.out.cell (p := ⟨g, o + k, none⟩) hg).trans (hcl k hkl)
      have f1 : (k : Int) < (n : Int) := by omega
      obtain ⟨w5, hru, hS5, hg5⟩ := HM.out.put (by unfold maxLen; omega) (HOK.out _ (List.getElem_mem hkl))
      rw [← List.take_succ_eq_append_getElem hkl] at hS5
      have H5 := Lib.hid hS5
      have B5 := Lib.hid (HB.out.grown hg5 HB.out.size (fun e h => by cases h; rw [HBB.out]; exact Nat.le_refl _))
      clear hcl hS5 hg5
      generalize l[k] = v at z0 hru
      go_wp2
      go_roundw
      case rel => exact ⟨k + 1, by omega, by go_num, H5, B5⟩
      case measure => simp [intOf]; omega
    · obtain rfl : k = n := by omega
      have HE := Lib.hid (by have := HM.out; rw [List.take_of_length_le (by rw [HN.out]; exact Nat.le_refl _)] at this; exact this : SetS wr b0 k l)
      go_wp2
      go_ret
      exact ⟨b0, k, rfl, by rw [HBB.out]; exact Nat.le_refl _, HE.out, h1000, HB.out⟩
end Go.Proofs.Ytmpklkhjipclmaa
