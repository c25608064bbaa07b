/- Layer 5: Zip, whatever the lengths; two maps and their values side by side. -/
import Derived.Test.YtioehncdkdfcmaaZ4
import Derived.Test.YtioehncdkdfcmaaN1
import Derived.Test.YtioehncdkdfcmaaKp
namespace Go.Proofs.Ytioehncdkdfcmaa
open Go.RowKit Go.Lib Im

def ZipN (w : World) (e : Ending) (w' : World) : Prop := e = .returned (.tuple #[.slice none 0 0, .int .i64 2]) ∧ Below w.heap.size w w'
set_option maxRecDepth 100000 in
set_option maxHeartbeats 8000000 in
theorem zip_ne (a gA b gB : Nat) (la lb : List Int) (w : World) (hA : MpG w a gA (runs la)) (hB : MpG w b gB (runs lb)) (hlen : la.length ≠ lb.length) :
    Calls Try.prog 31 #[.pointer (some ⟨a, 0, none⟩), .pointer (some ⟨b, 0, none⟩)] w (ZipN w) := by
  have HMA := Go.Lib.hid hA
  have HMB := Go.Lib.hid hB
  have cA := fun w' h => len_any a (runs la) w' h
  have cB := fun w' h => len_any b (runs lb) w' h
  rw [lenR_runs] at cA cB
  have cA1 := cA w (mpG_at hA)
  clear hA hB cA
  obtain ⟨p, hp⟩ : ∃ q, ((la.length : Int)) = q := ⟨_, rfl⟩
  obtain ⟨q, hq⟩ : ∃ q, ((lb.length : Int)) = q := ⟨_, rfl⟩
  have hpq : (p == q) = false := by
    simp only [beq_eq_false_iff_ne]
    omega
  have hpq2 : ¬ p = q := by omega
  rw [hp] at cA1
  rw [hq] at cB
  go_enter Try.func31, Try.ntmps31
  go_wp2_with (go_at_call 17; first | ((with_reducible refine cA1.mono ?_); rintro e w1 ⟨rfl, hb1⟩; have cB1 := cB w1 (mpG_at (mpG_below HMB.out hb1))) | ((with_reducible refine cB1.mono ?_); rintro e w2 ⟨rfl, hb2⟩; have hb12 := hb1.trans (hb2.mono hb1.size)))
  go_ret2
  exact ⟨rfl, hb12⟩
/-- Two maps and the lists of their values. -/
def DS (w0 : World) (b1 b2 : Nat) (l k : List Int) (A1 A2 : Option Addr) (n c1 m c2 : Nat) (w : World) : Prop :=
  (∃ g, MpG w b1 g (runs l)) ∧ (∃ g, MpG w b2 g (runs k)) ∧ w.ownsRow 0 3 1 (.slice A1 n c1) n (intsV l) ∧ w.ownsRow 0 3 1 (.slice A2 m c2) m (intsV k) ∧ Below w0.heap.size w0 w
theorem DS.below {w0 w w' : World} {b1 b2 : Nat} {l k : List Int} {A1 A2 : Option Addr} {n c1 m c2 : Nat} (h : DS w0 b1 b2 l k A1 A2 n c1 m c2 w) (hb : Below w.heap.size w w') : DS w0 b1 b2 l k A1 A2 n c1 m c2 w' := by
  obtain ⟨⟨g, h1⟩, ⟨g2, h2⟩, h3, h4, h5⟩ := h
  exact ⟨⟨g, mpG_below h1 hb⟩, ⟨g2, mpG_below h2 hb⟩, row_below h3 hb, row_below h4 hb, h5.trans (hb.mono h5.size)⟩
theorem ps_two {w0 w1 w2 w3 : World} {b1 b2 : Nat} {l k : List Int} {A1 A2 : Option Addr} {n c1 m c2 : Nat} (h : PS w1 w2 b1 A1 n c1 l l) (h' : PS w2 w3 b2 A2 m c2 k k) (hb : Below w0.heap.size w0 w1) : DS w0 b1 b2 l k A1 A2 n c1 m c2 w3 := by
  have hk := h.below h'.2.2.2
  obtain ⟨⟨g, h1, _⟩, h2, _, h3⟩ := hk
  obtain ⟨⟨g2, j1, _⟩, j2, _, _⟩ := h'
  exact ⟨⟨g, h1⟩, ⟨g2, j1⟩, own_lower h2 (Nat.zero_le _), own_lower j2 (Nat.zero_le _), hb.trans (h3.mono hb.size)⟩
theorem DS.drew {w0 w : World} {b1 b2 : Nat} {l k : List Int} {A1 A2 : Option Addr} {n c1 m c2 : Nat} (h : DS w0 b1 b2 l k A1 A2 n c1 m c2 w) (j : Nat) : DS w0 b1 b2 l k A1 A2 n c1 m c2 (w.drewN j) := h.below (bdrew (Below.refl _ w) j)
theorem take_eq {l k : List Int} {i : Nat} (hl : i < l.length) (hk : i < k.length) (h : l.take i = k.take i) (e : l[i] = k[i]) : l.take (i + 1) = k.take (i + 1) := by
  rw [List.take_succ_eq_append_getElem hl, List.take_succ_eq_append_getElem hk, h, e]
theorem equal_ds {w0 w : World} {b1 b2 : Nat} {l k : List Int} {A1 A2 : Option Addr} {n c1 m c2 : Nat} (h : DS w0 b1 b2 l k A1 A2 n c1 m c2 w) : Calls Try.prog 28 #[.pointer (some ⟨b1, 0, none⟩), .pointer (some ⟨b2, 0, none⟩)] w (EqB (decide (l = k)) w) := by
  obtain ⟨⟨g, h1⟩, ⟨g2, h2⟩, _⟩ := h
  exact equal_any b1 g b2 g2 l k w h1 h2
theorem equal_ds2 {w0 w : World} {b1 b2 : Nat} {l k : List Int} {A1 A2 : Option Addr} {n c1 m c2 : Nat} (h : DS w0 b1 b2 l k A1 A2 n c1 m c2 w) : Calls Try.prog 28 #[.pointer (some ⟨b2, 0, none⟩), .pointer (some ⟨b1, 0, none⟩)] w (EqB (decide (k = l)) w) := by
  obtain ⟨⟨g, h1⟩, ⟨g2, h2⟩, _⟩ := h
  exact equal_any b2 g2 b1 g k l w h2 h1
end Go.Proofs.Ytioehncdkdfcmaa
