import Derived.Test.YtigbmhddkcgjfaaDoorRf
import Derived.Test.YtigbmhddkcgjfaaDoorUd
import Derived.Test.YtigbmhddkcgjfaaDoorGe
import Derived.Test.YtigbmhddkcgjfaaDoorCl
import Derived.Test.YtigbmhddkcgjfaaDoorSv
import Derived.Lib.OthersKept
namespace Go.Proofs.YtigbmhddkcgjfaaDoor
open Go.RowKit Go.Lib
open Gc U

/-- The iterator's own types of cells: the table's, the state's. -/
def TT (t : TypeId) : Bool := t == 73 || t == 85

theorem grown_below {n : Nat} {W W' : World} (h : Below n W W') (hn : n = W.heap.size) : W.grownBy W' none :=
  ⟨h.os, h.tape, h.output, h.size, fun k hk _ => h.block k (by omega)⟩
theorem grown_iterAt (W : World) (k : Nat) (s : ByteArray) (p : Nat) : W.grownBy (W.iterAt k s p) (some k) :=
  ⟨rfl, rfl, rfl, by rw [iterAt_size]; exact Nat.le_refl _, fun i _ h => iterAt_other W k i s p (fun e => h (by rw [e]))⟩

/-- What holds within a round of the iterator: its table, its state, the string's iterator, the string's box; what its caller says. -/
structure Mid (l : List Span) (s : ByteArray) (Bs g gs gi : Nat) (J : List (Nat × Nat) → World → Prop) (st : St) (pos : Nat) (pre : List (Nat × Nat)) (W : World) : Prop where
  tab : W.heap[g]? = some (.cells (rowOf l) 73 (0, 0))
  st : StAt W gs st
  it : W.heap[gi]? = some (.stringIter s pos)
  str : W.heap[Bs]? = some (.cells #[.string s] 9 (0, 0))
  inj : J pre W

section
variable {l : List Span} {s : ByteArray} {Bs g gs gi B : Nat} {J : List (Nat × Nat) → World → Prop} {st : St} {pos : Nat} {pre : List (Nat × Nat)} {W W' : World}

theorem Mid.turn (h : Mid l s Bs g gs gi J st pos pre W) (hJ : AbT TT B J) {row : Option Nat} (hg : W.grownBy W' row) (hr : row = none ∨ (row = some gs ∧ B ≤ gs ∧ ∃ st', StAt W' gs st') ∨ (row = some gi ∧ B ≤ gi)) : J pre W' := by
  refine hJ pre W W' row h.inj hg fun r e => ?_
  rcases hr with rfl | ⟨rfl, hb, _⟩ | ⟨rfl, hb⟩
  · cases e
  · cases e; exact ⟨hb, _, h.st, rfl⟩
  · cases e; exact ⟨hb, _, h.it, rfl⟩

theorem Mid.below (h : Mid l s Bs g gs gi J st pos pre W) (hJ : AbT TT B J) (hb : Below W.heap.size W W') : Mid l s Bs g gs gi J st pos pre W' := by
  have key : ∀ (k : Nat) (o : Obj), W.heap[k]? = some o → W'.heap[k]? = some o := fun k o hk => (hb.block k (Array.getElem?_eq_some_iff.1 hk).1).trans hk
  exact ⟨key _ _ h.tab, key _ _ h.st, key _ _ h.it, key _ _ h.str, h.turn hJ (grown_below hb rfl) (.inl rfl)⟩

theorem Mid.next (h : Mid l s Bs g gs gi J st pos pre W) (hJ : AbT TT B J) (hB : B ≤ gi) (p : Nat) : Mid l s Bs g gs gi J st p pre (W.iterAt gi s p) := by
  have key : ∀ (k : Nat) (o : Obj), W.heap[k]? = some o → (∀ t q, o ≠ .stringIter t q) → (W.iterAt gi s p).heap[k]? = some o := fun k o hk hne => by
    rw [iterAt_other W gi k s p (fun e => by subst e; rw [h.it] at hk; exact hne _ _ (Option.some.inj hk).symm)]; exact hk
  exact ⟨key _ _ h.tab (fun _ _ e => by cases e), key _ _ h.st (fun _ _ e => by cases e), iterAt_heap W gi s pos p h.it, key _ _ h.str (fun _ _ e => by cases e), h.turn hJ (grown_iterAt W gi s p) (.inr (.inr ⟨rfl, hB⟩))⟩

theorem Mid.add (h : Mid l s Bs g gs gi J st pos pre W) (hJ : AbT TT B J) (hB : B ≤ gs) {st' : St} (hs : StAt W' gs st') (hg : W.grownBy W' (some gs)) : Mid l s Bs g gs gi J st' pos pre W' := by
  have key : ∀ (k : Nat) (o : Obj), W.heap[k]? = some o → (∀ c z, o ≠ .cells c 85 z) → W'.heap[k]? = some o := fun k o hk hne => by
    rw [hg.block k (Array.getElem?_eq_some_iff.1 hk).1 (fun e => ?_)]; exact hk
    cases e
    have h1 := h.st
    unfold StAt at h1
    rw [h1] at hk
    exact hne _ _ (Option.some.inj hk).symm
  exact ⟨key _ _ h.tab (fun _ _ e => by cases e), hs, key _ _ h.it (fun _ _ e => by cases e), key _ _ h.str (fun _ _ e => by cases e), h.turn hJ hg (.inr (.inl ⟨rfl, hB, _, hs⟩))⟩

theorem Mid.yield (h : Mid l s Bs g gs gi J st pos pre W) (hk : Kpt TT Bs W W') {pre' : List (Nat × Nat)} (hJ' : J pre' W') : Mid l s Bs g gs gi J st pos pre' W' :=
  ⟨hk.same _ _ h.tab rfl, hk.same _ _ h.st rfl, hk.same _ _ h.it rfl, hk.str.trans h.str, hJ'⟩

theorem Mid.cell (h : Mid l s Bs g gs gi J st pos pre W) : W.cell? ⟨Bs, 0, none⟩ = some (.string s) := by
  have := h.str
  simp [World.cell?, this]
theorem row_of_obj {l : List Span} {t : TypeId} (h : W.heap[g]? = some (.cells (rowOf l) t (0, 0))) : Row W g l := by
  refine ⟨(Array.getElem?_eq_some_iff.1 h).1, fun k hk => ?_⟩
  have h0 := rowOf_get l k hk 0 (by decide)
  have h1 := rowOf_get l k hk 1 (by decide)
  have h2 := rowOf_get l k hk 2 (by decide)
  simp only [Nat.add_zero, List.getElem?_cons_zero, List.getElem?_cons_succ] at h0 h1 h2
  refine ⟨?_, ?_, ?_⟩
  · simp [World.cell?, h, h0]
  · simp [World.cell?, h, h1]
  · simp [World.cell?, h, h2]
end

def GetsObj (l : List Span) (w : World) (e : Ending) (w' : World) : Prop :=
  ∃ g, e = .returned (.slice (some ⟨g, 0, none⟩) l.length l.length) ∧ w'.heap[g]? = some (.cells (rowOf l) 73 (0, 0)) ∧ Below w.heap.size w w' ∧ w.heap.size ≤ g
theorem table_obj (w : World) : Calls Tryd.prog 32 #[] w (GetsObj tabA w) := (classTable_any w).mono fun e w' ⟨h1, h2⟩ => by
  subst h1; subst h2
  exact ⟨w.heap.size, rfl, World.alloc_heap_new w _, (Below.refl _ _).alloc (Nat.le_refl _) _, Nat.le_refl _⟩

/-! ### the loop's arithmetic -/
def clsOf (cf : Int → Int) (P : List Nat) : List Int := P.map fun p : Nat => cf (p : Int)
/-- Behind k points, j the beginning of the cluster under way, pre what has come. -/
def Rest (cf : Int → Int) (P : List Nat) (k j : Nat) (pre : List (Nat × Nat)) : Prop :=
  k ≤ P.length ∧ j ≤ k ∧ (0 < k → j < k) ∧ cls (clsOf cf P) = pre ++ clGo (clsOf cf (P.take k)).reverse j k (clsOf cf (P.drop k))
theorem Rest.zero (cf : Int → Int) (P : List Nat) : Rest cf P 0 0 [] := ⟨Nat.zero_le _, Nat.le_refl _, fun h => absurd h (Nat.lt_irrefl _), rfl⟩
theorem rev_succ (cf : Int → Int) (P : List Nat) (k : Nat) (h : k < P.length) : (clsOf cf (P.take (k + 1))).reverse = cf (P[k] : Nat) :: (clsOf cf (P.take k)).reverse := by
  unfold clsOf
  rw [List.take_succ_eq_append_getElem h, List.map_append, List.reverse_append]
  rfl
theorem drop_cls (cf : Int → Int) (P : List Nat) (k : Nat) (h : k < P.length) : clsOf cf (P.drop k) = cf (P[k] : Nat) :: clsOf cf (P.drop (k + 1)) := by
  unfold clsOf
  rw [List.drop_eq_getElem_cons h]; rfl
theorem Rest.cut {cf : Int → Int} {P : List Nat} {k j : Nat} {pre : List (Nat × Nat)} (h : Rest cf P k j pre) (hk : k < P.length) (h0 : 0 < k) (hb : refB (clsOf cf (P.take k)).reverse (cf (P[k] : Nat)) = true) : Rest cf P (k + 1) k (pre ++ [(j, k)]) := by
  obtain ⟨h1, h2, h3, h4⟩ := h
  refine ⟨by omega, by omega, fun _ => by omega, ?_⟩
  rw [h4, drop_cls cf P k hk, rev_succ cf P k hk]
  conv => lhs; unfold clGo
  rw [if_pos ⟨h0, hb⟩, List.append_assoc]; rfl
theorem Rest.go {cf : Int → Int} {P : List Nat} {k j : Nat} {pre : List (Nat × Nat)} (h : Rest cf P k j pre) (hk : k < P.length) (hb : k = 0 ∨ refB (clsOf cf (P.take k)).reverse (cf (P[k] : Nat)) = false) : Rest cf P (k + 1) j pre := by
  obtain ⟨h1, h2, h3, h4⟩ := h
  refine ⟨by omega, by omega, fun _ => by rcases Nat.eq_zero_or_pos k with h | h <;> omega, ?_⟩
  rw [h4, drop_cls cf P k hk, rev_succ cf P k hk]
  conv => lhs; unfold clGo
  rw [if_neg]
  rintro ⟨h5, h6⟩
  rcases hb with hb | hb
  · omega
  · rw [hb] at h6; cases h6
theorem Rest.end {cf : Int → Int} {P : List Nat} {j : Nat} {pre : List (Nat × Nat)} (h : Rest cf P P.length j pre) (h0 : 0 < P.length) : cls (clsOf cf P) = pre ++ [(j, P.length)] := by
  rw [h.2.2.2, List.drop_length]
  show pre ++ clGo _ j P.length [] = _
  unfold clGo
  rw [if_pos h0]
theorem Rest.none {cf : Int → Int} {P : List Nat} {j : Nat} {pre : List (Nat × Nat)} (h : Rest cf P P.length j pre) (h0 : P.length = 0) : cls (clsOf cf P) = pre := by
  rw [h.2.2.2, List.drop_length]
  show pre ++ clGo _ j P.length [] = _
  unfold clGo
  rw [if_neg (by omega), List.append_nil]
theorem Rest.short {cf : Int → Int} {P : List Nat} {k j : Nat} {pre : List (Nat × Nat)} (h : Rest cf P k j pre) (hb : 0 < k) : pre.length < (cls (clsOf cf P)).length := by
  rw [h.2.2.2, List.length_append]
  have := clGo_up (clsOf cf (P.drop k)) (clsOf cf (P.take k)).reverse j k (h.2.2.1 hb)
  have h2 : 0 < (clGo (clsOf cf (P.take k)).reverse j k (clsOf cf (P.drop k))).length := List.length_pos_iff.2 this.2.1
  omega
theorem Rest.cutPre {cf : Int → Int} {P : List Nat} {k j : Nat} {pre : List (Nat × Nat)} (h : Rest cf P k j pre) : pre <+: cls (clsOf cf P) := ⟨_, h.2.2.2.symm⟩
/-- The rune that the range hands over, and where it goes on. -/
theorem rune_at {s : ByteArray} {P : List Nat} (hP : Pts P) (hs : s.data.toList = U.bytes P) (k : Nat) (hk : k < P.length) : off P k < s.size ∧ (Utf8.decode s (off P k)).1 = P[k] ∧ off P k + (Utf8.decode s (off P k)).2 = off P (k + 1) := by
  have hsz : s.size = (U.bytes P).length := by rw [← hs]; simp
  have h1 := off_lt P k P.length hk (Nat.le_refl _)
  rw [off_end] at h1
  have h4 := drop_off P [] k
  rw [List.append_nil, List.append_nil] at h4
  rw [decode_drop, hs, h4, drop_cons P k hk, decN_enc _ (hP.get k hk)]
  exact ⟨by omega, rfl, (off_succ P k hk).symm⟩
end Go.Proofs.YtigbmhddkcgjfaaDoor
