/- Layer 22: the sorted authors of a map of groups (54, 55). -/
import Derived.Test.YtmpklkhjipclmaaWC
import Derived.Test.YtmpklkhjipclmaaVB
namespace Go.Proofs.Ytmpklkhjipclmaa
open Go.RowKit Go.Lib Go.Maps Go.Sort Go.Shelf
set_option linter.unusedVariables false

theorem sortsS (m : Nat) : AnyZ.SortsIn Try.prog Try.sorted54_ren Fence.wide m :=
  ⟨fun blk off cap ss W hH hblk hsz => callsIn_wide.2 (AnyM.slices_Sort_string Try.sort76 blk off cap ss W hH hblk hsz),
   fun p cap W => callsIn_wide.2 (AnyM.slices_Sort_string_none Try.sort76 p cap W)⟩
theorem keys55_any (mb : Option Nat) (W : World) : Calls Try.prog 55 #[.map mb] W fun e w' => e = .returned (.func (.func 77) #[] #[.pointer (some ⟨W.heap.size, 0, none⟩)]) ∧ w' = W.alloc (.cells #[.map mb] 86) :=
  (callsIn_wide (n := 5)).1 (AnyZ.keys_in Try.keys55 Fence.wide 5 trivial rfl mb W)
set_option maxHeartbeats 1000000 in
theorem sorted54_own {H : Type} (b nn : Nat) (D0 : DataW H) (R : Value → Option (DataW H × List MemPlace)) (w : World) (hown : w.ownsMap Try.prog 9 R b nn D0) (hmax : Maps.size D0 ≤ maxLen) (hbytes : Maps.size D0 * 16 ≤ 140737488355328) :
    Calls Try.prog 54 #[.func (.func 77) #[] #[.pointer (some ⟨w.heap.size, 0, none⟩)]] (w.alloc (.cells #[.map (some b)] 86)) fun e w' => ∃ (v : Value) (ss : List (List UInt8)), e = .returned v ∧ ss.Perm (strKeys D0) ∧
      w'.ownsRow (w.alloc (.cells #[.map (some b)] 86)).heap.size 9 1 v ss.length ((ss.mergeSort (fun x y => decide (x ≤ y))).map encStr) ∧ (v = .slice none 0 0 ↔ ss = []) ∧ Below (w.alloc (.cells #[.map (some b)] 86)).heap.size (w.alloc (.cells #[.map (some b)] 86)) w' := by
  have hbl := hown.lt
  have hseq : SeqGives Fence.wide 2 Try.prog 77 #[.pointer (some ⟨w.heap.size, 0, none⟩)] encStr (fun ss => ss.Perm (strKeys D0)) (Maps.size D0) (w.alloc (.cells #[.map (some b)] 86)) :=
    AnyZ.keys_gives (ρ := Try.keys55_ren) { Try.keys55 with } Fence.wide _ trivial rfl (by omega) w.heap.size b nn D0 _ (by simp) (by simp) (by
      obtain ⟨es, clock, hb, Ft, hs, hD⟩ := hown
      exact ⟨es, clock, (Below.heap_alloc _ _ b hbl).trans hb, Ft, hs, hD⟩)
  exact (callsIn_wide (n := 5)).1 (AnyZ.sorted_in Try.sorted54 Fence.wide 5 trivial trivial trivial trivial rfl (by omega) (sortsS _) (enters_of Try.func76 (by kernel_rfl) rfl) 77 #[.pointer (some ⟨w.heap.size, 0, none⟩)] trivial (enters_of Try.func77 (by kernel_rfl) rfl) _ _ hmax hbytes _ hseq)
/-- The keys of a map of groups. -/
theorem GpM.keys {w : World} {b n : Nat} {l : List Rv} {D : DataW Value} (hD : w.ownsMap Try.prog 9 gpElem b n D) (hf : ∀ a : ByteArray, a.size ≤ maxLen → has D (.string a.data.toList) = decide (a ∈ l.map (·.author))) :
    (strKeys D).Nodup ∧ (∀ a : ByteArray, a.data.toList ∈ strKeys D → a.size ≤ maxLen ∧ a ∈ l.map (·.author)) ∧ (∀ a : ByteArray, a.size ≤ maxLen → a ∈ l.map (·.author) → a.data.toList ∈ strKeys D) := by
  obtain ⟨es, rfl, hpw, _⟩ := hD.entries (string_keyed Try.underlying9)
  obtain ⟨es', hD', hko⟩ := hD.keysOf
  obtain rfl : es = es' := by simpa using hD'
  have hk : ∀ p ∈ es, ∃ x : List UInt8, p.1 = .string x ∧ x.length ≤ maxLen := fun p hp => by
    obtain ⟨v, hv⟩ := hko p hp
    obtain ⟨x, _, hx, hw⟩ := Maps.keyOf_str Try.underlying9 hv
    exact ⟨x, hx, hw⟩
  have hmem : ∀ x, x ∈ strKeys (.map es) ↔ has (.map es) (.string x) = true := fun x => by
    rw [has_eq, List.any_eq_true]
    show x ∈ es.map (fun p => strOf p.1) ↔ _
    rw [List.mem_map]
    constructor
    · rintro ⟨p, hp', rfl⟩
      obtain ⟨a, ha, _⟩ := hk p hp'
      exact ⟨p, hp', by rw [ha]; simp [Lit.sameKey, strOf]⟩
    · rintro ⟨p, hp', hs⟩
      obtain ⟨a, ha, _⟩ := hk p hp'
      rw [ha] at hs
      exact ⟨p, hp', by rw [ha]; simpa [Lit.sameKey, strOf] using hs⟩
  have hlen : ∀ a : ByteArray, a.data.toList ∈ strKeys (.map es) → a.size ≤ maxLen := fun a h => by
    have h' : a.data.toList ∈ es.map (fun p => strOf p.1) := h
    rw [List.mem_map] at h'
    obtain ⟨p, hp, he⟩ := h'
    obtain ⟨x, hx, hw⟩ := hk p hp
    rw [hx] at he
    have he' : x = a.data.toList := he
    rw [he', Array.length_toList] at hw
    exact hw
  refine ⟨?_, fun a h => ⟨hlen a h, ?_⟩, fun a ha h => ?_⟩
  · show (es.map fun p => strOf p.1).Nodup
    refine List.pairwise_map.2 (hpw.imp_of_mem fun {p q} hp' hq' hne e => hne ?_)
    obtain ⟨a, ha, _⟩ := hk p hp'
    obtain ⟨b, hb, _⟩ := hk q hq'
    rw [ha, hb] at e ⊢
    exact congrArg _ e
  · have h1 := (hmem _).1 h
    rw [hf a (hlen a h)] at h1
    exact of_decide_eq_true h1
  · rw [hmem, hf a ha]
    exact decide_eq_true h
/-- Authors in a row of one's own. -/
def KsR (base : Nat) (l : List Rv) (w : World) (e : Ending) (w' : World) : Prop := ∃ (A : Option Addr) (cb : Nat) (ks : List ByteArray), e = .returned (.slice A ks.length cb) ∧ w'.ownsRow base 9 1 (.slice A ks.length cb) ks.length (ks.map Value.string) ∧
  ks.Pairwise (fun a b => a.data.toList < b.data.toList) ∧ (∀ a ∈ ks, a.size ≤ maxLen ∧ a ∈ l.map (·.author)) ∧ (∀ a : ByteArray, a.size ≤ maxLen → a ∈ l.map (·.author) → a ∈ ks) ∧ ks.length ≤ 1000 ∧ Below w.heap.size w w'
theorem sorted54_any (b n : Nat) (l : List Rv) (w : World) (hS : GpM w b n l) (h1000 : n ≤ 1000) :
    Calls Try.prog 54 #[.func (.func 77) #[] #[.pointer (some ⟨w.heap.size, 0, none⟩)]] (w.alloc (.cells #[.map (some b)] 86)) (KsR w.heap.size l (w.alloc (.cells #[.map (some b)] 86))) := by
  obtain ⟨D, hD, hf⟩ := hS
  obtain ⟨k1, k2, k3⟩ := GpM.keys hD (fun a ha => (hf a ha).1)
  have hsz := hD.size_le
  have hkl : (strKeys D).length = Maps.size D := by
    obtain ⟨es, rfl, _⟩ := hD.entries (string_keyed Try.underlying9)
    show (es.map fun p => strOf p.1).length = es.length
    rw [List.length_map]
  refine (sorted54_own b n D _ w hD (by unfold maxLen; omega) (by omega)).mono ?_
  rintro e w' ⟨v, ss, rfl, hss, hrow, _, hb⟩
  have hp : (ss.mergeSort leB).Perm (strKeys D) := (List.mergeSort_perm ss leB).trans hss
  have hlen : ss.length = (ss.mergeSort leB).length := (List.mergeSort_perm ss leB).length_eq.symm
  have hrow' : w'.ownsRow (w.alloc (.cells #[.map (some b)] 86)).heap.size 9 1 v (ss.mergeSort leB).length (((ss.mergeSort leB).map (fun x => (⟨x.toArray⟩ : ByteArray))).map Value.string) := by
    have h := hrow
    rw [hlen] at h
    rw [List.map_map]
    exact h
  have tr : ∀ a b c : List UInt8, leB a b = true → leB b c = true → leB a c = true := fun a b c h1 h2 => by simp only [leB, decide_eq_true_eq] at *; exact List.le_trans h1 h2
  have tt : ∀ a b : List UInt8, (leB a b || leB b a) = true := fun a b => by simp only [leB, Bool.or_eq_true, decide_eq_true_eq]; exact List.le_total a b
  have hpw : (ss.mergeSort leB).Pairwise (fun a b => a < b) := by
    have h1 := List.pairwise_mergeSort tr tt ss
    have h2 : (ss.mergeSort leB).Nodup := hp.nodup_iff.2 k1
    refine (h1.and h2).imp fun {a b} h => ?_
    have h3 : a ≤ b := by simpa [leB] using h.1
    rcases List.le_iff_lt_or_eq.1 h3 with h4 | h4
    · exact h4
    · exact absurd h4 h.2
  have hmem : ∀ a : ByteArray, a ∈ (ss.mergeSort leB).map (fun x => (⟨x.toArray⟩ : ByteArray)) ↔ a.data.toList ∈ strKeys D := fun a => by
    rw [List.mem_map, ← hp.mem_iff]
    constructor
    · rintro ⟨x, hx, rfl⟩; simpa using hx
    · intro h; exact ⟨_, h, by simp⟩
  have hl2 : ((ss.mergeSort leB).map (fun x => (⟨x.toArray⟩ : ByteArray))).length = (ss.mergeSort leB).length := List.length_map _
  have hform : ∃ A cb, v = .slice A (ss.mergeSort leB).length cb := own_form hrow'
  obtain ⟨A, cb, rfl⟩ := hform
  refine ⟨A, cb, (ss.mergeSort leB).map (fun x => (⟨x.toArray⟩ : ByteArray)), by rw [hl2], by rw [hl2]; exact own_lower hrow' (by simp), ?_, fun a ha => k2 a ((hmem a).1 ha), fun a ha h => (hmem a).2 (k3 a ha h), by rw [hl2, hp.length_eq]; omega, hb⟩
  refine List.pairwise_map.2 (hpw.imp fun {a b} h => ?_)
  simpa using h
end Go.Proofs.Ytmpklkhjipclmaa
