/- Layer 5: three maps and a list in memory. -/
import Derived.Test.YtioehncdkdfcmaaN1
import Derived.Test.YtioehncdkdfcmaaP2
namespace Go.Proofs.Ytioehncdkdfcmaa
open Go.RowKit Go.Lib Im

def Sep (b g b' g' : Nat) : Prop := b ≠ b' ∧ b ≠ g' ∧ g ≠ b' ∧ g ≠ g'
theorem Sep.symm {b g b' g' : Nat} (h : Sep b g b' g') : Sep b' g' b g := ⟨h.1.symm, h.2.2.1.symm, h.2.1.symm, h.2.2.2.symm⟩
structure M1 (base : Nat) (w : World) (b g : Nat) (l : List Int) : Prop where
  mp : MpG w b g (runs l)
  hb : base ≤ b
  hg : base ≤ g
  bl : b < w.heap.size
  gl : g < w.heap.size
  nm : g = b ∨ ∃ cs, w.heap[g]? = some (Obj.cells cs 34 (0, 0))
theorem M1.of {base : Nat} {w : World} {b g : Nat} {l : List Int} (h : MpG w b g (runs l)) (hb : base ≤ b) (hg : base ≤ g) : ∃ g0, M1 base w b g0 l ∧ (g0 = b ∨ g0 = g) := by
  obtain ⟨g0, h1, h2⟩ := mpG_row h
  obtain ⟨A, c, hx, _, _⟩ := h
  rcases h2 with rfl | ⟨rfl, cs, h2⟩
  · exact ⟨_, ⟨h1, hb, hb, hx.lt, hx.lt, .inl rfl⟩, .inl rfl⟩
  · exact ⟨_, ⟨h1, hb, hg, hx.lt, (Array.getElem?_eq_some_iff.1 h2).1, .inr ⟨cs, h2⟩⟩, .inr rfl⟩
theorem M1.below {base : Nat} {w w' : World} {b g : Nat} {l : List Int} (h : M1 base w b g l) (hb : Below w.heap.size w w') : M1 base w' b g l :=
  ⟨mpG_below h.mp hb, h.hb, h.hg, Nat.lt_of_lt_of_le h.bl hb.size, Nat.lt_of_lt_of_le h.gl hb.size, h.nm.elim .inl fun ⟨cs, e⟩ => .inr ⟨cs, (hb.block g h.gl).trans e⟩⟩
theorem M1.fr {base : Nat} {w w' : World} {b g b' g' : Nat} {l : List Int} (h : M1 base w b' g' l) (hf : Fr b g w w') (hs : Sep b' g' b g) : M1 base w' b' g' l := by
  obtain ⟨⟨A, c, h1, h2, h3⟩, k1, k2, k3, k4, k5⟩ := h
  have hs1 := hf.1.size
  refine ⟨⟨A, c, (hf.2 b' k3 hs.1 hs.2.1).trans h1, ?_, h3⟩, k1, k2, by omega, by omega, k5.elim .inl fun ⟨cs, e⟩ => .inr ⟨cs, (hf.2 g' k4 hs.2.2.1 hs.2.2.2).trans e⟩⟩
  obtain ⟨q1, q2⟩ := h2
  refine ⟨q1, ?_⟩
  rcases q2 with q2 | ⟨k, cap, cur, e, hB, hk, r⟩
  · exact .inl q2
  · have e0 := e
    injection e with e _ _
    have hkg := h3 k e
    subst hkg
    exact .inr ⟨k, cap, cur, e0, hB, (hf.2 k k4 hs.2.2.1 hs.2.2.2).trans hk, r⟩
theorem M1.op {base : Nat} {w w' : World} {b g : Nat} {l l' : List Int} (h : M1 base w b g l) (H : MpR w b g (runs l') w') :
    ∃ g2, M1 base w' b g2 l' ∧ (∀ b' g', b' < w.heap.size → g' < w.heap.size → Sep b' g' b g → Sep b' g' b g2) ∧ Fr b g w w' ∧ Kc w w' := by
  obtain ⟨j1, j2, j3⟩ := CM.step h.mp h.hb h.hg h.nm H
  obtain ⟨g', k1, k2, k3⟩ := H
  have hbs := h.bl
  have hg' : base ≤ g' := by
    have := h.hg
    have := h.hb
    rcases k3 with k | k <;> omega
  obtain ⟨g0, m1, m2⟩ := M1.of k1 h.hb hg'
  refine ⟨g0, m1, fun b' g'' hb' hg'' hs => ?_, k2, j3⟩
  obtain ⟨s1, s2, s3, s4⟩ := hs
  rcases m2 with rfl | rfl
  · exact ⟨s1, s1, s3, s3⟩
  · rcases k3 with rfl | k
    · exact ⟨s1, s2, s3, s4⟩
    · exact ⟨s1, by omega, s3, by omega⟩
/-- Three maps and a list. -/
def LS (w0 w : World) (b1 : Nat) (l1 : List Int) (b2 : Nat) (l2 : List Int) (b3 : Nat) (l3 : List Int) (A : Option Addr) (n c : Nat) (l : List Int) : Prop :=
  (∃ g1 g2 g3, M1 w0.heap.size w b1 g1 l1 ∧ M1 w0.heap.size w b2 g2 l2 ∧ M1 w0.heap.size w b3 g3 l3 ∧ Sep b1 g1 b2 g2 ∧ Sep b1 g1 b3 g3 ∧ Sep b2 g2 b3 g3) ∧
  w.ownsRow w0.heap.size 3 1 (.slice A n c) n (intsV l) ∧ l.length = n ∧ Below w0.heap.size w0 w
variable {w0 w w' : World} {b1 b2 b3 n c : Nat} {l1 l2 l3 l : List Int} {A : Option Addr}
theorem LS.swap (h : LS w0 w b1 l1 b2 l2 b3 l3 A n c l) : LS w0 w b2 l2 b1 l1 b3 l3 A n c l := by
  obtain ⟨⟨g1, g2, g3, h1, h2, h3, s1, s2, s3⟩, k⟩ := h
  exact ⟨⟨g2, g1, g3, h2, h1, h3, s1.symm, s3, s2⟩, k⟩
theorem LS.rot (h : LS w0 w b1 l1 b2 l2 b3 l3 A n c l) : LS w0 w b2 l2 b3 l3 b1 l1 A n c l := by
  obtain ⟨⟨g1, g2, g3, h1, h2, h3, s1, s2, s3⟩, k⟩ := h
  exact ⟨⟨g2, g3, g1, h2, h3, h1, s3, s1.symm, s2.symm⟩, k⟩
theorem LS.below (h : LS w0 w b1 l1 b2 l2 b3 l3 A n c l) (hb : Below w.heap.size w w') : LS w0 w' b1 l1 b2 l2 b3 l3 A n c l := by
  obtain ⟨⟨g1, g2, g3, h1, h2, h3, s⟩, k1, k2, k3⟩ := h
  exact ⟨⟨g1, g2, g3, h1.below hb, h2.below hb, h3.below hb, s⟩, row_below k1 hb, k2, k3.trans (hb.mono k3.size)⟩
theorem LS.op (h : LS w0 w b1 l1 b2 l2 b3 l3 A n c l) : ∃ g, MpG w b1 g (runs l1) ∧ ∀ l' w', MpR w b1 g (runs l') w' → LS w0 w' b1 l' b2 l2 b3 l3 A n c l := by
  obtain ⟨⟨g1, g2, g3, h1, h2, h3, s1, s2, s3⟩, k1, k2, k3⟩ := h
  refine ⟨g1, h1.mp, fun l' w' H => ?_⟩
  obtain ⟨g', m1, m2, m3, m4⟩ := h1.op H
  exact ⟨⟨g', g2, g3, m1, h2.fr m3 s1.symm, h3.fr m3 s2.symm, (m2 _ _ h2.bl h2.gl s1.symm).symm, (m2 _ _ h3.bl h3.gl s2.symm).symm, s3⟩, own_kc k1 m4 (by decide) (by decide), k2, k3.trans (m3.below h1.hb h1.hg k3.size)⟩
def LsR (v : Value) (w0 : World) (b1 : Nat) (l1 : List Int) (b2 : Nat) (l2 : List Int) (b3 : Nat) (l3 : List Int) (A : Option Addr) (n c : Nat) (l : List Int) (e : Ending) (w' : World) : Prop :=
  e = .returned v ∧ LS w0 w' b1 l1 b2 l2 b3 l3 A n c l
theorem set_ls (h : LS w0 w b1 l1 b2 l2 b3 l3 A n c l) {f t : Nat} (v : Int) (hl : l1.length ≤ 400000) (hft : f ≤ t) (htn : t ≤ l1.length) : Calls Try.prog 27 #[.pointer (some ⟨b1, 0, none⟩), .int .i64 f, .int .i64 t, .int .i64 v] w (LsR (.int .i64 0) w0 b1 (mp (fun _ => v) l1 f (t - f)) b2 l2 b3 l3 A n c l) := by
  obtain ⟨g, h1, H⟩ := h.op
  refine (set_any b1 g l1 f t v w h1 hl).mono ?_
  rintro e w' ⟨rfl, hm⟩
  refine ⟨by rw [show chkR l1.length f t = 0 from if_pos ⟨by omega, by omega, by omega⟩], ?_⟩
  rw [set_mp v hft htn] at hm
  exact H _ _ hm
theorem spc_ls (h : LS w0 w b1 l1 b2 l2 b3 l3 A n c l) (a r i v : Int) (hl : l1.length ≤ 400000) (hr : -2000000 ≤ r) (hr' : r ≤ 2000000) (hi : -2000000 ≤ i) (hi' : i ≤ 2000000) : Calls Try.prog 30 #[.pointer (some ⟨b1, 0, none⟩), .int .i64 a, .int .i64 r, .int .i64 i, .int .i64 v] w (LsR (.int .i64 (spcE l1.length a r i)) w0 b1 (spcL l1 a r i v) b2 l2 b3 l3 A n c l) := by
  obtain ⟨g, h1, H⟩ := h.op
  refine (splice_any b1 g l1 a r i v w h1 hl hr hr' hi hi').mono ?_
  rintro e w' ⟨rfl, hm⟩
  exact ⟨rfl, H _ _ hm⟩
theorem eq_ls (h : LS w0 w b1 l1 b2 l2 b3 l3 A n c l) : Calls Try.prog 28 #[.pointer (some ⟨b1, 0, none⟩), .pointer (some ⟨b2, 0, none⟩)] w (LsR (.bool (decide (l1 = l2))) w0 b1 l1 b2 l2 b3 l3 A n c l) := by
  have h0 := h
  obtain ⟨⟨g1, g2, g3, h1, h2, h3, s⟩, k⟩ := h
  refine (equal_any b1 g1 b2 g2 l1 l2 w h1.mp h2.mp).mono ?_
  rintro e w' ⟨rfl, hb⟩
  exact ⟨rfl, h0.below hb⟩
theorem is_ls (h : LS w0 w b1 l b2 l2 b3 l3 A n c l) (hn : n ≤ 1000000) : Calls Try.prog 29 #[.pointer (some ⟨b1, 0, none⟩), .slice A n c] w (LsR (.bool true) w0 b1 l b2 l2 b3 l3 A n c l) := by
  have h0 := h
  obtain ⟨⟨g1, g2, g3, h1, h2, h3, s⟩, k1, k2, k3⟩ := h
  refine (is_any b1 g1 A n c l k2 w h1.mp (own_lower k1 (Nat.zero_le _)) hn).mono ?_
  rintro e w' ⟨rfl, hb⟩
  exact ⟨rfl, h0.below hb⟩
/-- A copy put in the place of the second map. -/
def ClR (w0 : World) (b1 : Nat) (l1 : List Int) (b3 : Nat) (l3 : List Int) (A : Option Addr) (n c : Nat) (l : List Int) (e : Ending) (w' : World) : Prop :=
  ∃ b, e = .returned (.pointer (some ⟨b, 0, none⟩)) ∧ LS w0 w' b1 l1 b l1 b3 l3 A n c l
theorem cl_ls (h : LS w0 w b1 l1 b2 l2 b3 l3 A n c l) (hl : l1.length ≤ 1000000) : Calls Try.prog 26 #[.pointer (some ⟨b1, 0, none⟩)] w (ClR w0 b1 l1 b3 l3 A n c l) := by
  obtain ⟨⟨g1, g2, g3, h1, h2, h3, s1, s2, s3⟩, k1, k2, k3⟩ := h
  have hs0 := k3.size
  refine (clone_any b1 g1 l1 w h1.mp hl).mono ?_
  rintro e w' ⟨b, rfl, g, n1, n2, n3, n4, n5, n6⟩
  obtain ⟨g0, m1, m2⟩ := M1.of (base := w0.heap.size) n1 (by omega) (by omega)
  have q1 := h1.bl
  have q2 := h1.gl
  have q3 := h3.bl
  have q4 := h3.gl
  refine ⟨b, rfl, ⟨g1, g0, g3, h1.below n6, m1, h3.below n6, ?_, s2, ?_⟩, row_below k1 n6, k2, k3.trans (n6.mono hs0)⟩
  · rcases m2 with rfl | rfl <;> exact ⟨by omega, by omega, by omega, by omega⟩
  · rcases m2 with rfl | rfl <;> exact ⟨by omega, by omega, by omega, by omega⟩
/-- One map and a list: the first copies. -/
theorem cl_one {b : Nat} (h : PS w0 w b A n c l l) (hl : l.length ≤ 1000000) : Calls Try.prog 26 #[.pointer (some ⟨b, 0, none⟩)] w (fun e w' => ∃ b', e = .returned (.pointer (some ⟨b', 0, none⟩)) ∧ (∃ g g', M1 w0.heap.size w' b g l ∧ M1 w0.heap.size w' b' g' l ∧ Sep b g b' g') ∧ w'.ownsRow w0.heap.size 3 1 (.slice A n c) n (intsV l) ∧ l.length = n ∧ Below w0.heap.size w0 w') := by
  obtain ⟨⟨g, h1, h2, h3, _⟩, k1, k2, k3⟩ := h
  have hs0 := k3.size
  obtain ⟨g1, m0, _⟩ := M1.of h1 h2 h3
  refine (clone_any b g1 l w m0.mp hl).mono ?_
  rintro e w' ⟨b', rfl, g', n1, n2, n3, n4, n5, n6⟩
  obtain ⟨g0, m1, m2⟩ := M1.of (base := w0.heap.size) n1 (by omega) (by omega)
  have q1 := m0.bl
  have q2 := m0.gl
  refine ⟨b', rfl, ⟨g1, g0, m0.below n6, m1, ?_⟩, row_below k1 n6, k2, k3.trans (n6.mono hs0)⟩
  rcases m2 with rfl | rfl <;> exact ⟨by omega, by omega, by omega, by omega⟩
/-- The second copy. -/
theorem cl_two {b b' : Nat} (h : (∃ g g', M1 w0.heap.size w b g l ∧ M1 w0.heap.size w b' g' l ∧ Sep b g b' g') ∧ w.ownsRow w0.heap.size 3 1 (.slice A n c) n (intsV l) ∧ l.length = n ∧ Below w0.heap.size w0 w) (hl : l.length ≤ 1000000) :
    Calls Try.prog 26 #[.pointer (some ⟨b, 0, none⟩)] w (fun e w' => ∃ b2, e = .returned (.pointer (some ⟨b2, 0, none⟩)) ∧ LS w0 w' b' l b2 l b l A n c l) := by
  obtain ⟨⟨g, g', h1, h2, s⟩, k1, k2, k3⟩ := h
  have hs0 := k3.size
  refine (clone_any b g l w h1.mp hl).mono ?_
  rintro e w' ⟨b2, rfl, g2, n1, n2, n3, n4, n5, n6⟩
  obtain ⟨g0, m1, m2⟩ := M1.of (base := w0.heap.size) n1 (by omega) (by omega)
  have q1 := h1.bl
  have q2 := h1.gl
  have q3 := h2.bl
  have q4 := h2.gl
  refine ⟨b2, rfl, ⟨g', g0, g, h2.below n6, m1, h1.below n6, ?_, s.symm, ?_⟩, row_below k1 n6, k2, k3.trans (n6.mono hs0)⟩
  · rcases m2 with rfl | rfl <;> exact ⟨by omega, by omega, by omega, by omega⟩
  · rcases m2 with rfl | rfl <;> exact ⟨by omega, by omega, by omega, by omega⟩
theorem mp_get (fn : Int → Int) (l : List Int) (f k i : Nat) (h : f ≤ l.length) : (mp fn l f k)[i]? = if f ≤ i ∧ i < f + k then l[i]?.map fn else l[i]? := by
  unfold mp
  have hl : (l.take f).length = f := by rw [List.length_take]; omega
  by_cases h1 : i < f
  · rw [List.getElem?_append_left (by omega), List.getElem?_take_of_lt h1, if_neg (by omega)]
  · rw [List.getElem?_append_right (by omega), hl]
    by_cases h2 : i - f < (((l.drop f).take k).map fn).length
    · rw [List.getElem?_append_left h2, List.getElem?_map]
      simp only [List.length_map, List.length_take, List.length_drop] at h2
      rw [List.getElem?_take_of_lt (by omega), List.getElem?_drop, show f + (i - f) = i by omega, if_pos (by omega)]
    · rw [List.getElem?_append_right (by omega)]
      simp only [List.length_map, List.length_take, List.length_drop] at h2 ⊢
      rw [List.getElem?_drop, List.getElem?_drop]
      by_cases h3 : i < f + k
      · rw [if_pos (by omega), List.getElem?_eq_none (by omega), List.getElem?_eq_none (by omega)]; rfl
      · rw [if_neg (by omega)]
        by_cases h4 : k ≤ l.length - f
        · rw [Nat.min_eq_left h4, show f + (k + (i - f - k)) = i by omega]
        · rw [List.getElem?_eq_none (by omega), List.getElem?_eq_none (by omega)]
end Go.Proofs.Ytioehncdkdfcmaa
