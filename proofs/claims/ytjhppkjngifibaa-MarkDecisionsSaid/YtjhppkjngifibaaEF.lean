/- Layer 23: sets of numbers; sorted keys. -/
import Derived.Test.YtjhppkjngifibaaE4
import Derived.Test.YtjhppkjngifibaaSk
import Derived.Maps.OwnSet
import Derived.Maps.Views
import Derived.Lib.SlKeysI
import Derived.Sort.WalkB2
import Derived.Sort.WalkB12
namespace Go.Proofs.Ytjhppkjngifibaa
open Go.RowKit Go.Lib
set_option linter.unusedVariables false

open Go.Maps Go.Sort Go.Shelf
def I64 (x : Int) : Prop := -9223372036854775808 ≤ x ∧ x ≤ 9223372036854775807
theorem i64_wf {x : Int} (h : I64 x) : (Lit.int .i64 x).wf = true := by
  unfold I64 at h
  simp [Lit.wf, IntKind.bits, IntKind.signed, IntKind.min, IntKind.max]
  omega
theorem key_i {x : Int} (h : I64 x) : keyOf Try.prog 3 (.int .i64 x) = some (.int .i64 x) := keyOf_int_mk Try.underlying3 (i64_wf h)
set_option maxRecDepth 100000 in
theorem bool_inv {v : Value} {z : DataW Unit × List MemPlace} (h : plainElem Try.prog 4 v = some z) : ∃ x, v = .bool x ∧ z = (.lit (.bool x), []) := by
  unfold plainElem at h
  rw [Try.underlying4] at h
  cases v <;> simp at h
  exact ⟨_, rfl, h.symm⟩
theorem has_size {H : Type} {D : DataW H} {k : Lit} (h : has D k = true) : size D ≠ 0 := by
  cases D with
  | map es =>
    intro hs
    have : es = [] := List.eq_nil_of_length_eq_zero hs
    subst this
    cases h
  | _ => cases h
/-- A set of numbers, a map to bools. -/
def SetI (w : World) (b n : Nat) (l : List Int) : Prop := ∃ D : DataW Unit, w.ownsMap Try.prog 3 (plainElem Try.prog 4) b n D ∧
  (∀ a : Int, I64 a → has D (.int .i64 a) = decide (a ∈ l) ∧ D.atKey (.int .i64 a) (.lit (.bool false)) = .lit (.bool (decide (a ∈ l)))) ∧ (l = [] → D = .map []) ∧ (∀ a ∈ l, I64 a)
theorem SetI.new (w : World) : SetI (w.alloc (.map #[] 0)) w.heap.size 0 [] := ⟨.map [], World.ownsMap_made w _ _ _, fun a _ => ⟨by simp [has], WideAt.atKey_none _ (by simp)⟩, fun _ => rfl, fun a h => by cases h⟩
theorem SetI.look {w : World} {b n : Nat} {l : List Int} (h : SetI w b n l) {a : Int} (ha : I64 a) : (Instr.lookup 121 (.map (some b)) (.int .i64 a) false).run Try.prog w = .ok (.bool (decide (a ∈ l))) w := by
  obtain ⟨D, hD, hf, _⟩ := h
  obtain ⟨v, ps, hr, hv⟩ := hD.lookup (int_keyed Try.underlying3) Try.underlying121 (Try.zeroValue4 w) (plainElem_bool Try.underlying4 false) (key_i ha)
  rw [(hf a ha).2] at hv
  obtain ⟨x, rfl, hx⟩ := bool_inv hv
  simp only [Prod.mk.injEq, DataW.lit.injEq, Lit.bool.injEq] at hx
  rw [hx.1]; exact hr
theorem SetI.put {w : World} {b n : Nat} {l : List Int} (h : SetI w b n l) (hn : n < maxLen) {a : Int} (ha : I64 a) :
    ∃ w', (Instr.mapUpdate 121 (.map (some b)) (.int .i64 a) (.bool true)).run Try.prog w = .ok () w' ∧ SetI w' b (n + 1) (l ++ [a]) ∧ w.grownBy w' (some b) := by
  obtain ⟨D, hD, hf, hl, hi⟩ := h
  obtain ⟨w', h1, h2, h3⟩ := hD.update (int_keyed Try.underlying3) Try.underlying121 hn (key_i ha) (plainElem_bool Try.underlying4 true)
  refine ⟨w', h1, ⟨_, h2, fun z hz => ?_, fun e => by simp at e, fun x hx => ?_⟩, h3⟩
  · by_cases e : z = a
    · subst e
      constructor
      · rw [has_put_same hD.isMap ((int_keyed Try.underlying3).key (key_i hz))]
        simp
      · rw [atKey_put_same hD.isMap ((int_keyed Try.underlying3).key (key_i hz))]
        simp
    · have hne : (Lit.int .i64 z) ≠ (Lit.int .i64 a) := by simpa using e
      obtain ⟨g1, g2⟩ := hf z hz
      constructor
      · rw [has_put_other hne, g1]; simp [e]
      · rw [atKey_put_other hne, g2]; simp [e]
  · rcases List.mem_append.1 hx with hx | hx
    · exact hi x hx
    · rw [List.mem_singleton] at hx; subst hx; exact ha
theorem SetI.len {w : World} {b n : Nat} {l : List Int} (h : SetI w b n l) : ∃ s : Nat, s ≤ n ∧ (s = 0 ↔ l = []) ∧ ∀ ty, (Builtin.len_ #[121] ty #[.map (some b)]).run Try.prog w = .ok (.int .i64 (s : Nat)) w := by
  obtain ⟨D, hD, hf, hl, hi⟩ := h
  refine ⟨size D, hD.size_le, ⟨fun h0 => ?_, fun e => by rw [hl e]; rfl⟩, fun ty => hD.len Try.underlying121 ty⟩
  cases l with
  | nil => rfl
  | cons x l => exact absurd h0 (has_size (k := Lit.int .i64 x) (by rw [(hf x (hi x (by simp))).1]; simp))
theorem SetI.kept {w w' : World} {b n : Nat} {l : List Int} (h : SetI w b n l) {row : Option Nat} (hg : w.grownBy w' row) (hne : some b ≠ row) : SetI w' b n l := by
  obtain ⟨D, hD, hf⟩ := h
  exact ⟨D, hD.kept hg hne, hf⟩
theorem SetI.lt {w : World} {b n : Nat} {l : List Int} (h : SetI w b n l) : b < w.heap.size := by obtain ⟨D, hD, _⟩ := h; exact hD.lt
theorem SetI.below {w w' : World} {b n : Nat} {l : List Int} (h : SetI w b n l) {m : Nat} (hm : b < m) (hb : Below m w w') : SetI w' b n l := by
  have hlt := h.lt
  obtain ⟨D, ⟨es, clock, h1, h2⟩, hf⟩ := h
  exact ⟨D, ⟨es, clock, (hb.block b hm).trans h1, h2⟩, hf⟩
theorem SetI.mono {w : World} {b n n' : Nat} {l : List Int} (h : SetI w b n l) (e : n ≤ n') : SetI w b n' l := by
  obtain ⟨D, hD, hf⟩ := h
  exact ⟨D, hD.mono e, hf⟩

/-- One more number in its place, once. -/
def insU (L : List Int) (n : Int) : List Int := if n ∈ L then L else L.filter (fun x => decide (x < n)) ++ n :: L.filter (fun x => decide (n < x))
theorem insU_mem (L : List Int) (n x : Int) : x ∈ insU L n ↔ x ∈ L ∨ x = n := by
  unfold insU
  split
  · rename_i h
    constructor
    · exact .inl
    · rintro (h1 | rfl)
      · exact h1
      · exact h
  · rename_i h
    simp only [List.mem_append, List.mem_cons, List.mem_filter, decide_eq_true_eq]
    constructor
    · rintro (⟨h1, _⟩ | rfl | ⟨h1, _⟩)
      · exact .inl h1
      · exact .inr rfl
      · exact .inl h1
    · rintro (h1 | rfl)
      · rcases Int.lt_trichotomy x n with h2 | h2 | h2
        · exact .inl ⟨h1, h2⟩
        · exact .inr (.inl h2)
        · exact .inr (.inr ⟨h1, h2⟩)
      · exact .inr (.inl rfl)
theorem insU_srt {L : List Int} {n : Int} (h : L.Pairwise (· < ·)) : (insU L n).Pairwise (· < ·) := by
  unfold insU
  split
  · exact h
  · refine List.pairwise_append.2 ⟨h.filter _, List.pairwise_cons.2 ⟨fun a ha => by simpa using (List.mem_filter.1 ha).2, h.filter _⟩, fun a ha b hb => ?_⟩
    have h1 : a < n := by simpa using (List.mem_filter.1 ha).2
    rcases List.mem_cons.1 hb with rfl | hb
    · exact h1
    · have h2 : n < b := by simpa using (List.mem_filter.1 hb).2
      omega
/-- A list's numbers in order, each once. -/
def srtU (l : List Int) : List Int := l.foldl insU []
theorem srtU_snoc (l : List Int) (n : Int) : srtU (l ++ [n]) = insU (srtU l) n := by unfold srtU; rw [List.foldl_append]; rfl
theorem foldl_srt (l : List Int) : ∀ L : List Int, L.Pairwise (· < ·) → (l.foldl insU L).Pairwise (· < ·) ∧ ∀ x, x ∈ l.foldl insU L ↔ x ∈ L ∨ x ∈ l := by
  induction l with
  | nil => intro L h; exact ⟨h, fun x => by simp⟩
  | cons a l ih =>
    intro L h
    obtain ⟨h1, h2⟩ := ih (insU L a) (insU_srt h)
    refine ⟨h1, fun x => ?_⟩
    show x ∈ l.foldl insU (insU L a) ↔ _
    rw [h2 x, insU_mem, List.mem_cons, or_assoc]
theorem srtU_srt (l : List Int) : (srtU l).Pairwise (· < ·) := (foldl_srt l [] List.Pairwise.nil).1
theorem srtU_mem (l : List Int) (x : Int) : x ∈ srtU l ↔ x ∈ l := by rw [srtU, (foldl_srt l [] List.Pairwise.nil).2 x]; simp
theorem insU_len (L : List Int) (n : Int) : (insU L n).length ≤ L.length + 1 := by
  unfold insU
  split
  · omega
  · rename_i h
    rw [List.length_append, List.length_cons]
    have : (L.filter (fun x => decide (x < n))).length + (L.filter (fun x => decide (n < x))).length ≤ L.length := by
      clear h
      induction L with
      | nil => simp
      | cons a L ih =>
        rw [List.filter_cons, List.filter_cons]
        by_cases h1 : a < n
        · have h2 : ¬ n < a := by omega
          simp only [h1, h2, decide_true, decide_false, if_true, if_false, List.length_cons, Bool.false_eq_true]
          omega
        · simp only [h1, decide_false, Bool.false_eq_true, if_false]
          by_cases h2 : n < a
          · simp only [h2, decide_true, if_true, List.length_cons]; omega
          · simp only [h2, decide_false, Bool.false_eq_true, if_false, List.length_cons]; omega
    omega
theorem srtU_len (l : List Int) : (srtU l).length ≤ l.length := by
  have : ∀ (l L : List Int), (l.foldl insU L).length ≤ L.length + l.length := by
    intro l
    induction l with
    | nil => intro L; simp
    | cons a l ih => intro L; have := ih (insU L a); have := insU_len L a; simp only [List.foldl_cons, List.length_cons]; omega
  have h := this l []
  rw [List.length_nil, Nat.zero_add] at h
  exact h
theorem srtU_sort (l : List Int) : (srtU l).mergeSort leI = srtU l := by
  have tr : ∀ a b c : Int, leI a b = true → leI b c = true → leI a c = true := fun a b c h1 h2 => by simp only [leI, decide_eq_true_eq] at *; exact Int.le_trans h1 h2
  have to : ∀ a b : Int, (leI a b || leI b a) = true := fun a b => by simp only [leI, Bool.or_eq_true, decide_eq_true_eq]; exact Int.le_total a b
  refine List.Perm.eq_of_pairwise (le := fun a b => leI a b = true) (fun a b _ _ h1 h2 => ?_) (List.pairwise_mergeSort tr to _) ((srtU_srt l).imp (fun {a b} h => by simp only [leI, decide_eq_true_eq]; omega)) (List.mergeSort_perm _ leI)
  simp only [leI, decide_eq_true_eq] at h1 h2
  exact Int.le_antisymm h1 h2
theorem SetI.keys {w : World} {b n : Nat} {l : List Int} {D : DataW Unit} (hD : w.ownsMap Try.prog 3 (plainElem Try.prog 4) b n D) (hf : ∀ a : Int, I64 a → has D (.int .i64 a) = decide (a ∈ l)) (hi : ∀ a ∈ l, I64 a) : (srtU l).Perm (intKeys D) := by
  obtain ⟨es, rfl, hpw, _⟩ := hD.entries (int_keyed Try.underlying3)
  obtain ⟨es', hD', hko⟩ := hD.keysOf
  obtain rfl : es = es' := by simpa using hD'
  have hk : ∀ p ∈ es, ∃ x, p.1 = .int .i64 x ∧ I64 x := fun p hp => by
    obtain ⟨v, hv⟩ := hko p hp
    obtain ⟨x, _, hx, hw⟩ := Maps.keyOf_i64 Try.underlying3 hv
    exact ⟨x, hx, by simpa [Lit.wf, IntKind.bits, IntKind.signed, IntKind.min, IntKind.max, I64] using hw⟩
  refine perm_intKeys hpw (fun p hp => by obtain ⟨x, hx, _⟩ := hk p hp; exact ⟨x, hx⟩) ((srtU_srt l).imp (fun {a b} h => by omega)) (fun x => ?_)
  rw [srtU_mem]
  constructor
  · intro hx
    rw [hf x (hi x hx)]
    exact decide_eq_true hx
  · intro hx
    have h64 : I64 x := by
      rw [has_eq, List.any_eq_true] at hx
      obtain ⟨p, hp, hs⟩ := hx
      obtain ⟨y, hy, hy2⟩ := hk p hp
      rw [hy] at hs
      have e : y = x := by simpa [Lit.sameKey] using hs
      rw [← e]; exact hy2
    rw [hf x h64] at hx
    exact of_decide_eq_true hx
theorem sortsI (m : Nat) : AnyZI.SortsIn Try.prog Try.sorted86_ren Fence.wide m :=
  ⟨fun blk off cap ss W hH hblk hsz => callsIn_wide.2 (AnyM.slices_Sort_int Try.sort110 blk off cap ss W hH hblk hsz),
   fun p cap W => callsIn_wide.2 (AnyM.slices_Sort_int_none Try.sort110 p cap W)⟩
theorem keys87_any (mb : Option Nat) (W : World) : Calls Try.prog 87 #[.map mb] W fun e w' => e = .returned (.func (.func 111) #[] #[.pointer (some ⟨W.heap.size, 0, none⟩)]) ∧ w' = W.alloc (.cells #[.map mb] 121) :=
  (callsIn_wide (n := 5)).1 (AnyZI.keys_in Try.keys87 Fence.wide 5 trivial rfl mb W)
set_option maxHeartbeats 1000000 in
theorem sorted86_own {H : Type} (b nn : Nat) (D0 : DataW H) (R : Value → Option (DataW H × List MemPlace)) (w : World) (hown : w.ownsMap Try.prog 3 R b nn D0) (hmax : Maps.size D0 ≤ maxLen) (hbytes : Maps.size D0 * 8 ≤ 140737488355328) :
    Calls Try.prog 86 #[.func (.func 111) #[] #[.pointer (some ⟨w.heap.size, 0, none⟩)]] (w.alloc (.cells #[.map (some b)] 121)) fun e w' => ∃ (v : Value) (ss : List Int), e = .returned v ∧ ss.Perm (intKeys D0) ∧
      w'.ownsRow (w.alloc (.cells #[.map (some b)] 121)).heap.size 3 1 v ss.length ((ss.mergeSort (fun x y => decide (x ≤ y))).map encZ) ∧ (v = .slice none 0 0 ↔ ss = []) ∧ Below (w.alloc (.cells #[.map (some b)] 121)).heap.size (w.alloc (.cells #[.map (some b)] 121)) w' := by
  have hbl := hown.lt
  have hseq : SeqGives Fence.wide 2 Try.prog 111 #[.pointer (some ⟨w.heap.size, 0, none⟩)] encZ (fun ss => ss.Perm (intKeys D0)) (Maps.size D0) (w.alloc (.cells #[.map (some b)] 121)) :=
    AnyZI.keys_gives (ρ := Try.keys87_ren) { Try.keys87 with } Fence.wide _ trivial rfl (by omega) w.heap.size b nn D0 _ (by simp) (by simp) (by
      obtain ⟨es, clock, hb, Ft, hs, hD⟩ := hown
      exact ⟨es, clock, (Below.heap_alloc _ _ b hbl).trans hb, Ft, hs, hD⟩)
  exact (callsIn_wide (n := 5)).1 (AnyZI.sorted_in Try.sorted86 Fence.wide 5 trivial trivial trivial trivial rfl (by omega) (sortsI _) (enters_of Try.func110 (by kernel_rfl) rfl) 111 #[.pointer (some ⟨w.heap.size, 0, none⟩)] trivial (enters_of Try.func111 (by kernel_rfl) rfl) _ _ hmax hbytes _ hseq)
/-- Numbers in a row of one's own. -/
def OwN (base : Nat) (L : List Int) (w : World) (e : Ending) (w' : World) : Prop := ∃ A cb, e = .returned (.slice A L.length cb) ∧ w'.ownsRow base 3 1 (.slice A L.length cb) L.length (L.map encZ) ∧ Below w.heap.size w w'
theorem sorted86_any (b n : Nat) (l : List Int) (w : World) (hS : SetI w b n l) (h1000 : n ≤ 1000) :
    Calls Try.prog 86 #[.func (.func 111) #[] #[.pointer (some ⟨w.heap.size, 0, none⟩)]] (w.alloc (.cells #[.map (some b)] 121)) (OwN w.heap.size (srtU l) (w.alloc (.cells #[.map (some b)] 121))) := by
  obtain ⟨D, hD, hf, _, hi⟩ := hS
  have hp := SetI.keys hD (fun a ha => (hf a ha).1) hi
  have hsz := hD.size_le
  refine (sorted86_own b n D _ w hD (by unfold maxLen; omega) (by omega)).mono ?_
  rintro e w' ⟨v, ss, rfl, hss, hrow, _, hb⟩
  have e1 : ss.mergeSort (fun x y => decide (x ≤ y)) = srtU l := by
    rw [show (ss.mergeSort (fun x y => decide (x ≤ y))) = (srtU l).mergeSort leI from mergeSort_of_perm_i (hss.trans hp.symm)]
    exact srtU_sort l
  have e2 : ss.length = (srtU l).length := (hss.trans hp.symm).length_eq
  rw [e1, e2] at hrow
  rcases hrow.2 with ⟨hv, h0⟩ | ⟨g, cap, cur, hv, _⟩
  · exact ⟨none, 0, by rw [hv, h0], by have := own_lower hrow (b' := w.heap.size) (by simp); rw [hv, h0] at this; rw [h0]; exact this, hb⟩
  · exact ⟨_, cap, by rw [hv], by have := own_lower hrow (b' := w.heap.size) (by simp); rw [hv] at this; exact this, hb⟩
theorem make121n (w : World) : (Instr.makeMap 121 none).run Try.prog w = .ok (.map (some w.heap.size)) (w.alloc (.map #[] 0)) := by
  simp [Instr.makeMap, Result.andThen]
end Go.Proofs.Ytjhppkjngifibaa
