/- Layer 5: a map and its values in memory, what an operation leaves of both; operations as they come in. -/
import Derived.Test.YtioehncdkdfcmaaW3
import Derived.Test.YtioehncdkdfcmaaI4
namespace Go.Proofs.Ytioehncdkdfcmaa
open Go.RowKit Go.Lib Im

/-- A map whose blocks lie at or above base. -/
def CM (base : Nat) (w : World) (b : Nat) (R : List Rn) : Prop := ∃ g, MpG w b g R ∧ base ≤ b ∧ base ≤ g ∧ (g = b ∨ ∃ cs, w.heap[g]? = some (.cells cs 34 (0, 0)))
theorem mpG_row {w : World} {b g : Nat} {R : List Rn} (h : MpG w b g R) : ∃ g0, MpG w b g0 R ∧ (g0 = b ∨ g0 = g ∧ ∃ cs, w.heap[g0]? = some (.cells cs 34 (0, 0))) := by
  obtain ⟨A, c, h1, h2, h3⟩ := h
  rcases h2.2 with ⟨e, _⟩ | ⟨k, _, cur, e, _, hk, _⟩
  · injection e with e _ _
    subst e
    exact ⟨b, ⟨none, c, h1, h2, fun k e => by cases e⟩, .inl rfl⟩
  · injection e with e _ _
    subst e
    have := h3 k rfl
    subst this
    exact ⟨k, ⟨_, c, h1, h2, h3⟩, .inr ⟨rfl, cur, hk⟩⟩
theorem CM.of {base : Nat} {w : World} {b g : Nat} {R : List Rn} (h : MpG w b g R) (hb : base ≤ b) (hg : base ≤ g) : CM base w b R := by
  obtain ⟨g0, h1, h2⟩ := mpG_row h
  rcases h2 with rfl | ⟨rfl, h2⟩
  · exact ⟨_, h1, hb, hb, .inl rfl⟩
  · exact ⟨_, h1, hb, hg, .inr h2⟩
theorem CM.below {base : Nat} {w w' : World} {b : Nat} {R : List Rn} (h : CM base w b R) (hb : Below w.heap.size w w') : CM base w' b R := by
  obtain ⟨g, h1, h2, h3, _⟩ := h
  exact CM.of (mpG_below h1 hb) h2 h3
/-- What neither a map nor runs are made of keeps. -/
def Kc (w w' : World) : Prop := ∀ (k : Nat) (cs : Array Value) (t : TypeId) (z : Nat × Nat), w.heap[k]? = some (Obj.cells cs t z) → t ≠ 84 → t ≠ 34 → w'.heap[k]? = w.heap[k]?
theorem ObjAt.kc {w w' : World} {k : Nat} {c : Array Value} {t : TypeId} (h : ObjAt w k c t) (hk : Kc w w') (h1 : t ≠ 84) (h2 : t ≠ 34) : ObjAt w' k c t := (hk k c t _ h h1 h2).trans h
theorem own_kc {w w' : World} {B n size : Nat} {t : TypeId} {v : Value} {xs : List Value} (ho : w.ownsRow B t size v n xs) (hk : Kc w w') (h1 : t ≠ 84) (h2 : t ≠ 34) : w'.ownsRow B t size v n xs := by
  obtain ⟨q1, q2⟩ := ho
  refine ⟨q1, ?_⟩
  rcases q2 with q2 | ⟨k, cap, cur, e, hB, hg, r⟩
  · exact .inl q2
  · exact .inr ⟨k, cap, cur, e, hB, (hk k _ _ _ hg h1 h2).trans hg, r⟩
/-- What an operation on a map leaves: the map, and all lists of integers; nothing below base turns. -/
theorem CM.step {base : Nat} {w w' : World} {b : Nat} {g : Nat} {R R' : List Rn} (h1 : MpG w b g R) (h2 : base ≤ b) (h3 : base ≤ g) (h4 : g = b ∨ ∃ cs, w.heap[g]? = some (.cells cs 34 (0, 0))) (H : MpR w b g R' w') : CM base w' b R' ∧ (base ≤ w.heap.size → Below base w w') ∧
    Kc w w' := by
  obtain ⟨g', k1, k2, k3⟩ := H
  obtain ⟨A, c, hbx, _, _⟩ := h1
  refine ⟨?_, fun hs => k2.below h2 h3 hs, fun k cs t z hk ht1 ht2 => ?_⟩
  · rcases k3 with rfl | k3
    · exact CM.of k1 h2 h3
    · exact CM.of k1 h2 (by have := hbx.lt; omega)
  · refine k2.2 k ((Array.getElem?_eq_some_iff.1 hk).1) ?_ ?_
    · intro e
      subst e
      have := (show w.heap[k]? = _ from hbx).symm.trans hk
      simp at this
      exact ht1 this.2.1.symm
    · intro e
      subst e
      rcases h4 with rfl | ⟨cs', h4⟩
      · have := (show w.heap[k]? = _ from hbx).symm.trans hk
        simp at this
        exact ht1 this.2.1.symm
      · have := h4.symm.trans hk
        simp at this
        exact ht2 this.2.1.symm
/-- A map and its values. -/
def PS (w wr : World) (b : Nat) (A : Option Addr) (n c : Nat) (l l' : List Int) : Prop := CM w.heap.size wr b (runs l) ∧ wr.ownsRow w.heap.size 3 1 (.slice A n c) n (intsV l') ∧ l'.length = n ∧ Below w.heap.size w wr
theorem PS.below {w wr w' : World} {b : Nat} {A : Option Addr} {n c : Nat} {l l' : List Int} (h : PS w wr b A n c l l') (hb : Below wr.heap.size wr w') : PS w w' b A n c l l' :=
  ⟨h.1.below hb, row_below h.2.1 hb, h.2.2.1, h.2.2.2.trans (hb.mono h.2.2.2.size)⟩
theorem PS.map {w wr : World} {b : Nat} {A : Option Addr} {n c : Nat} {l l' : List Int} (h : PS w wr b A n c l l') : ∃ g, MpG wr b g (runs l) ∧ w.heap.size ≤ b ∧ w.heap.size ≤ g ∧ ∀ l2 w', MpR wr b g (runs l2) w' → PS w w' b A n c l2 l' ∧ Kc wr w' := by
  obtain ⟨⟨g, h1, h2, h3, h4⟩, k1, k2, k3⟩ := h
  refine ⟨g, h1, h2, h3, fun l2 w' H => ?_⟩
  obtain ⟨j1, j2, j3⟩ := CM.step h1 h2 h3 h4 H
  exact ⟨⟨j1, own_kc k1 j3 (by decide) (by decide), k2, k3.trans (j2 k3.size)⟩, j3⟩
theorem PS.list {w wr w' : World} {b : Nat} {A B : Option Addr} {n c m c' : Nat} {l l' l2 : List Int} (h : PS w wr b A n c l l') (ho : w'.ownsRow wr.heap.size 3 1 (.slice B m c') m (intsV l2)) (hm : l2.length = m) (hb : Below wr.heap.size wr w') : PS w w' b B m c' l l2 :=
  ⟨h.1.below hb, own_lower ho h.2.2.2.size, hm, h.2.2.2.trans (hb.mono h.2.2.2.size)⟩
theorem PS.lower {w w0 wr : World} {b : Nat} {A : Option Addr} {n c : Nat} {l l' : List Int} (h : PS w0 wr b A n c l l') (hb : Below w.heap.size w w0) : PS w wr b A n c l l' := by
  obtain ⟨⟨g, h1, h2, h3, h4⟩, k1, k2, k3⟩ := h
  have := hb.size
  exact ⟨⟨g, h1, by omega, by omega, h4⟩, own_lower k1 this, k2, hb.trans (k3.mono this)⟩
theorem mp_all (fn : Int → Int) (l : List Int) {f t : Nat} (hft : f ≤ t) : mp fn l f (t - f) = l.take f ++ ((l.drop f).take (t - f)).map fn ++ l.drop t := by
  unfold mp
  rw [List.append_assoc, List.drop_drop, show f + (t - f) = t by omega]
theorem set_mp {l : List Int} {f t : Nat} (v : Int) (hft : f ≤ t) (htn : t ≤ l.length) : setL l f t v = mp (fun _ => v) l f (t - f) := by
  unfold setL
  rw [if_pos ⟨by omega, by omega, by omega⟩, mp_all _ _ hft, show ((t : Int) - (f : Int)).toNat = t - f by omega, Int.toNat_natCast, Int.toNat_natCast]
  congr 2
  apply List.ext_getElem
  · simp; omega
  · intro i h1 h2
    simp
theorem add_mp {l : List Int} {f t : Nat} (v : Int) (hft : f ≤ t) (htn : t ≤ l.length) : addL l f t v = mp (adI v) l f (t - f) := by
  unfold addL
  rw [if_pos ⟨by omega, by omega, by omega⟩, mp_all _ _ hft, show ((t : Int) - (f : Int)).toNat = t - f by omega, Int.toNat_natCast, Int.toNat_natCast]
/-- Set, Add, Splice on a map with its values. -/
def SetP (w0 w : World) (b : Nat) (A : Option Addr) (n c : Nat) (l l' : List Int) (f t v : Int) (e : Ending) (w' : World) : Prop := e = .returned (.int .i64 (chkR l.length f t)) ∧ PS w0 w' b A n c (setL l f t v) l' ∧ Kc w w'
theorem set_ps {w0 w : World} {b : Nat} {A : Option Addr} {n c : Nat} {l l' : List Int} (h : PS w0 w b A n c l l') (f t v : Int) (hl : l.length ≤ 400000) : Calls Try.prog 27 #[.pointer (some ⟨b, 0, none⟩), .int .i64 f, .int .i64 t, .int .i64 v] w (SetP w0 w b A n c l l' f t v) := by
  obtain ⟨g, h1, _, _, H⟩ := h.map
  refine (set_any b g l f t v w h1 hl).mono ?_
  rintro e w' ⟨rfl, hm⟩
  exact ⟨rfl, H _ _ hm⟩
def AddP (w0 w : World) (b : Nat) (A : Option Addr) (n c : Nat) (l l' : List Int) (f t v : Int) (e : Ending) (w' : World) : Prop := e = .returned (.int .i64 (chkR l.length f t)) ∧ PS w0 w' b A n c (addL l f t v) l' ∧ Kc w w'
theorem add_ps {w0 w : World} {b : Nat} {A : Option Addr} {n c : Nat} {l l' : List Int} (h : PS w0 w b A n c l l') (f t v : Int) (hl : l.length ≤ 400000) : Calls Try.prog 34 #[.pointer (some ⟨b, 0, none⟩), .int .i64 f, .int .i64 t, .int .i64 v] w (AddP w0 w b A n c l l' f t v) := by
  obtain ⟨g, h1, _, _, H⟩ := h.map
  refine (add_any b g l f t v w h1 hl).mono ?_
  rintro e w' ⟨rfl, hm⟩
  exact ⟨rfl, H _ _ hm⟩
def SpcP (w0 w : World) (b : Nat) (A : Option Addr) (n c : Nat) (l l' : List Int) (a r i v : Int) (e : Ending) (w' : World) : Prop := e = .returned (.int .i64 (spcE l.length a r i)) ∧ PS w0 w' b A n c (spcL l a r i v) l' ∧ Kc w w'
theorem splice_ps {w0 w : World} {b : Nat} {A : Option Addr} {n c : Nat} {l l' : List Int} (h : PS w0 w b A n c l l') (a r i v : Int) (hl : l.length ≤ 400000) (hr : -2000000 ≤ r) (hr' : r ≤ 2000000) (hi : -2000000 ≤ i) (hi' : i ≤ 2000000) :
    Calls Try.prog 30 #[.pointer (some ⟨b, 0, none⟩), .int .i64 a, .int .i64 r, .int .i64 i, .int .i64 v] w (SpcP w0 w b A n c l l' a r i v) := by
  obtain ⟨g, h1, _, _, H⟩ := h.map
  refine (splice_any b g l a r i v w h1 hl hr hr' hi hi').mono ?_
  rintro e w' ⟨rfl, hm⟩
  exact ⟨rfl, H _ _ hm⟩
def IsP (w0 : World) (b : Nat) (A : Option Addr) (n c : Nat) (l : List Int) (e : Ending) (w' : World) : Prop := e = .returned (.bool true) ∧ PS w0 w' b A n c l l
theorem is_ps {w0 w : World} {b : Nat} {A : Option Addr} {n c : Nat} {l : List Int} (h : PS w0 w b A n c l l) (hn : n ≤ 1000000) : Calls Try.prog 29 #[.pointer (some ⟨b, 0, none⟩), .slice A n c] w (IsP w0 b A n c l) := by
  have h0 := h
  obtain ⟨⟨g, h1, h2, h3, h4⟩, k1, k2, k3⟩ := h
  refine (is_any b g A n c l k2 w h1 (own_lower k1 (Nat.zero_le _)) hn).mono ?_
  rintro e w' ⟨rfl, hb⟩
  exact ⟨rfl, h0.below hb⟩
def OkP (v : Int) (w0 w : World) (b : Nat) (A : Option Addr) (n c : Nat) (l l' : List Int) (e : Ending) (w' : World) : Prop := e = .returned (.int .i64 v) ∧ PS w0 w' b A n c l l' ∧ Kc w w'
theorem set_ok {w0 w : World} {b : Nat} {A : Option Addr} {n c : Nat} {l l' : List Int} (h : PS w0 w b A n c l l') {f t : Nat} (v : Int) (hl : l.length ≤ 400000) (hft : f ≤ t) (htn : t ≤ l.length) : Calls Try.prog 27 #[.pointer (some ⟨b, 0, none⟩), .int .i64 f, .int .i64 t, .int .i64 v] w (OkP 0 w0 w b A n c (mp (fun _ => v) l f (t - f)) l') := by
  refine (set_ps h f t v hl).mono ?_
  rintro e w' ⟨rfl, h1, h2⟩
  exact ⟨by rw [show chkR l.length f t = 0 from if_pos ⟨by omega, by omega, by omega⟩], by rw [← set_mp v hft htn]; exact h1, h2⟩
theorem set_no {w0 w : World} {b : Nat} {A : Option Addr} {n c : Nat} {l l' : List Int} (h : PS w0 w b A n c l l') {f t : Nat} (v : Int) (hl : l.length ≤ 400000) (htn : l.length < t) : Calls Try.prog 27 #[.pointer (some ⟨b, 0, none⟩), .int .i64 f, .int .i64 t, .int .i64 v] w (OkP 2 w0 w b A n c l l') := by
  refine (set_ps h f t v hl).mono ?_
  rintro e w' ⟨rfl, h1, h2⟩
  have hn : ¬ (0 ≤ (f : Int) ∧ (f : Int) ≤ (t : Int) ∧ (t : Int) ≤ (l.length : Int)) := fun h => by omega
  exact ⟨by rw [show chkR l.length f t = 2 from if_neg hn], by rw [show setL l f t v = l from if_neg hn] at h1; exact h1, h2⟩
theorem add_ok {w0 w : World} {b : Nat} {A : Option Addr} {n c : Nat} {l l' : List Int} (h : PS w0 w b A n c l l') {f t : Nat} (v : Int) (hl : l.length ≤ 400000) (hft : f ≤ t) (htn : t ≤ l.length) : Calls Try.prog 34 #[.pointer (some ⟨b, 0, none⟩), .int .i64 f, .int .i64 t, .int .i64 v] w (OkP 0 w0 w b A n c (mp (adI v) l f (t - f)) l') := by
  refine (add_ps h f t v hl).mono ?_
  rintro e w' ⟨rfl, h1, h2⟩
  exact ⟨by rw [show chkR l.length f t = 0 from if_pos ⟨by omega, by omega, by omega⟩], by rw [← add_mp v hft htn]; exact h1, h2⟩
theorem add_no {w0 w : World} {b : Nat} {A : Option Addr} {n c : Nat} {l l' : List Int} (h : PS w0 w b A n c l l') {f t : Nat} (v : Int) (hl : l.length ≤ 400000) (htn : l.length < t) : Calls Try.prog 34 #[.pointer (some ⟨b, 0, none⟩), .int .i64 f, .int .i64 t, .int .i64 v] w (OkP 2 w0 w b A n c l l') := by
  refine (add_ps h f t v hl).mono ?_
  rintro e w' ⟨rfl, h1, h2⟩
  have hn : ¬ (0 ≤ (f : Int) ∧ (f : Int) ≤ (t : Int) ∧ (t : Int) ≤ (l.length : Int)) := fun h => by omega
  exact ⟨by rw [show chkR l.length f t = 2 from if_neg hn], by rw [show addL l f t v = l from if_neg hn] at h1; exact h1, h2⟩
theorem spc_ok {w0 w : World} {b : Nat} {A : Option Addr} {n c : Nat} {l l' : List Int} (h : PS w0 w b A n c l l') {a r t i : Nat} (v : Int) (hl : l.length ≤ 2000) (ht : a + r = t) (htn : t ≤ l.length) (hi : i ≤ 20) : Calls Try.prog 30 #[.pointer (some ⟨b, 0, none⟩), .int .i64 a, .int .i64 r, .int .i64 i, .int .i64 v] w (OkP 0 w0 w b A n c (l.take a ++ List.replicate i v ++ l.drop t) l') := by
  refine (splice_ps h a r i v (by omega) (by omega) (by omega) (by omega) (by omega)).mono ?_
  rintro e w' ⟨rfl, h1, h2⟩
  have e0 : spcE l.length a r i = 0 := by
    unfold spcE
    rw [if_pos ⟨by omega, by omega⟩, if_neg (by omega), if_neg (by omega)]
  have e1 : spcL l a r i v = l.take a ++ List.replicate i v ++ l.drop t := by
    unfold spcL
    rw [if_pos e0, show ((a : Int) + (r : Int)).toNat = t by omega, Int.toNat_natCast, Int.toNat_natCast]
  exact ⟨by rw [e0], by rw [← e1]; exact h1, h2⟩
theorem spc_no {w0 w : World} {b : Nat} {A : Option Addr} {n c : Nat} {l l' : List Int} (h : PS w0 w b A n c l l') {a r i : Nat} (v : Int) (hl : l.length ≤ 2000) (ha : a ≤ l.length) (htn : l.length < a + r) (hr : r ≤ 2000) (hi : i ≤ 20) : Calls Try.prog 30 #[.pointer (some ⟨b, 0, none⟩), .int .i64 a, .int .i64 r, .int .i64 i, .int .i64 v] w (OkP 2 w0 w b A n c l l') := by
  refine (splice_ps h a r i v (by omega) (by omega) (by omega) (by omega) (by omega)).mono ?_
  rintro e w' ⟨rfl, h1, h2⟩
  have e0 : spcE l.length a r i = 2 := by
    unfold spcE
    rw [if_pos ⟨by omega, by omega⟩, if_pos (by omega)]
  have e1 : spcL l a r i v = l := by
    unfold spcL
    rw [if_neg (by rw [e0]; decide)]
  exact ⟨by rw [e0], by rw [e1] at h1; exact h1, h2⟩
/-- An operation: kind, from, to, insert, value. -/
abbrev Opr := Nat × Nat × Nat × Nat × Int
def OpAt (w : World) (A : Option Addr) (l : List Opr) : Prop := l = [] ∨ ∃ g o, A = some ⟨g, o, none⟩ ∧ g < w.heap.size ∧
  ∀ k (h : k < l.length), w.cell? ⟨g, o + k * 5, none⟩ = some (.int .u8 (l[k].1 : Nat)) ∧ w.cell? ⟨g, o + k * 5 + 1, none⟩ = some (.int .u8 (l[k].2.1 : Nat)) ∧ w.cell? ⟨g, o + k * 5 + 2, none⟩ = some (.int .u8 (l[k].2.2.1 : Nat)) ∧ w.cell? ⟨g, o + k * 5 + 3, none⟩ = some (.int .u8 (l[k].2.2.2.1 : Nat)) ∧ w.cell? ⟨g, o + k * 5 + 4, none⟩ = some (.int .i64 l[k].2.2.2.2)
theorem OpAt.below {w w' : World} {A : Option Addr} {l : List Opr} (h : OpAt w A l) (hb : Below w.heap.size w w') : OpAt w' A l := by
  rcases h with h | ⟨g, o, h1, h2, h3⟩
  · exact .inl h
  · refine .inr ⟨g, o, h1, Nat.lt_of_lt_of_le h2 hb.size, fun k hk => ?_⟩
    obtain ⟨c0, c1, c2, c3, c4⟩ := h3 k hk
    exact ⟨(hb.cell (p := ⟨g, o + k * 5, none⟩) h2).trans c0, (hb.cell (p := ⟨g, o + k * 5 + 1, none⟩) h2).trans c1, (hb.cell (p := ⟨g, o + k * 5 + 2, none⟩) h2).trans c2, (hb.cell (p := ⟨g, o + k * 5 + 3, none⟩) h2).trans c3, (hb.cell (p := ⟨g, o + k * 5 + 4, none⟩) h2).trans c4⟩
def OpB (l : List Opr) : Prop := ∀ k (h : k < l.length), l[k].1 < 256 ∧ l[k].2.1 < 256 ∧ l[k].2.2.1 < 256 ∧ l[k].2.2.2.1 < 256
end Go.Proofs.Ytioehncdkdfcmaa
