/- Layer 6: maker.elements (35), Elements (15). -/
import Derived.Test.YtknbglcmjggkjaaT7
namespace Go.Proofs.Ytknbglcmjggkjaa
open Go.RowKit Go.Lib Co

theorem own_mono {w : World} {base base' : Nat} {e : TypeId} {size : Nat} {v : Value} {n : Nat} {xs : List Value} (h : w.ownsRow base e size v n xs) (hb : base' ≤ base) : w.ownsRow base' e size v n xs := by
  refine ⟨h.1, ?_⟩
  rcases h.2 with a | ⟨g, cap, cur, a1, a2, a3⟩
  · exact .inl a
  · exact .inr ⟨g, cap, cur, a1, Nat.le_trans hb a2, a3⟩
theorem Els.mono {B B' : Nat} {w : World} {v : Value} {l : List El} (h : Els B w v l) (hb : B' ≤ B) : Els B' w v l := own_mono h hb
theorem dig_take (P : List Nat) : ∀ c ∈ P.take (digs P), dig c = true := by
  induction P with
  | nil => intro c hc; simp at hc
  | cons a r ih =>
    intro c hc
    unfold digs at hc
    by_cases h : dig a = true
    · rw [if_pos h, List.take_succ_cons] at hc
      rcases List.mem_cons.1 hc with rfl | hc
      · exact h
      · exact ih c hc
    · rw [if_neg h] at hc; simp at hc
theorem elems_num {nu ig : Bool} {up : Nat} {Q : List Nat} (hn : nu = true) (hd : 0 < digs Q) : elems nu up ig Q = numE (Q.take (digs Q)) ++ elems nu up ig (Q.drop (digs Q)) := by
  cases Q with
  | nil => simp [digs] at hd
  | cons c r => rw [elems, if_pos ⟨hn, hd⟩]
theorem elems_pt {nu ig : Bool} {up : Nat} {P : List Nat} {k : Nat} (hk : k < P.length) (h : ¬ (nu = true ∧ 0 < digs (P.drop k))) : elems nu up ig (P.drop k) = pointE up ig P[k] ++ elems nu up ig (P.drop (k + 1)) := by
  rw [List.drop_eq_getElem_cons hk] at h ⊢
  rw [elems, if_neg h]
theorem numE_len {Q : List Nat} : (numE Q).length ≤ Q.length + 1 := by
  have : ∀ l : List Nat, (strip l).length ≤ l.length := by
    intro l
    induction l with
    | nil => exact Nat.le_refl _
    | cons c r ih =>
      cases r with
      | nil => exact Nat.le_refl _
      | cons d r => unfold strip; split <;> simp at * <;> omega
  unfold numE
  have := this Q
  simp; omega
theorem elems_nil (nu ig : Bool) (up : Nat) : elems nu up ig [] = [] := by rw [elems]
/-- A string's points, each in its bounds. -/
theorem pts_le {s : ByteArray} {P : List Nat} {bad : List UInt8} (h : Cp.Str s P bad) : ∀ c ∈ P, c ≤ 1114111 := fun c hc => (h.pts c hc).1
/-- What elements hands back for a string that has them. -/
def ElmRet (B : Nat) (l : List El) (w : World) (e : Ending) (w' : World) : Prop := ∃ v, e = .returned (.tuple #[v, .int .i64 0]) ∧ Els B w' v l ∧ Below B w w'
set_option maxRecDepth 100000 in
set_option maxHeartbeats 4000000 in
theorem elements_long {s : ByteArray} (h : 4096 < s.size) (b : Nat) (w : World) : Calls Try.prog 35 #[.pointer (some ⟨b, 0, none⟩), .string s] w fun e w' => e = .returned (.tuple #[.slice none 0 0, .int .i64 10]) ∧ w' = w := by
  go_enter Try.func35, Try.ntmps35
  go_wp2
  go_ret2
  exact ⟨rfl, rfl⟩
set_option maxRecDepth 100000 in
set_option maxHeartbeats 4000000 in
theorem elements_bad {s : ByteArray} {P : List Nat} {bad : List UInt8} (hs : Cp.Str s P bad) (hb : bad ≠ []) (h : s.size ≤ 4096) (b : Nat) (w : World) : Calls Try.prog 35 #[.pointer (some ⟨b, 0, none⟩), .string s] w fun e w' => e = .returned (.tuple #[.slice none 0 0, .int .i64 12]) ∧ w' = w := by
  go_enter Try.func35, Try.ntmps35
  go_wp2_with (go_at_call 49; (with_reducible refine (Cp.points_no hs hb _).mono ?_); rintro e w4 ⟨rfl, rfl⟩)
  go_ret2
  exact ⟨rfl, rfl⟩
set_option maxRecDepth 100000 in
set_option maxHeartbeats 4000000 in
theorem elements_ok {s : ByteArray} {P : List Nat} (hs : Cp.Str s P []) (h : s.size ≤ 4096) (hPl : P.length ≤ 4096) {b : Nat} {st : Int} {nu ig uf : Bool} (w : World) (hm : MkAt w b st nu ig uf) :
    Calls Try.prog 35 #[.pointer (some ⟨b, 0, none⟩), .string s] w (ElmRet w.heap.size (elems nu (upN uf) ig P) w) := by
  obtain ⟨i0, hi, hz0, hz1, hz2⟩ := info_parts elInfo
  have hpt := pts_le hs
  have hgw : b < w.heap.size := (Array.getElem?_eq_some_iff.1 hm).1
  go_enter Try.func35, Try.ntmps35
  go_wp2_with fail
  refine (Cp.points_ok hs _).mono ?_
  intro e W0 h2
  unfold Cp.PtsRet at h2
  obtain ⟨vp, rfl, hvp, k0⟩ := h2
  have hm0 := MkAt.below hm k0
  have hg : b < W0.heap.size := (Array.getElem?_eq_some_iff.1 hm0).1
  have hs0 := k0.size
  rcases hvp with ⟨rfl, rfl⟩ | ⟨g, cap, rfl, hgp, ⟨hca, hcb⟩, hc⟩
  · go_wp2_with (at_make; refine wpList_make_own _ rfl _ _ 25 rfl W0.heap.size 37 i0 _ 3 Try.underlying25 hi hz0 hz1 _ _ _ 0 rfl rfl rfl (by omega) (by unfold maxLen; omega) (Nat.le_refl _) ?_; intro w1 hown1 hgrow1)
    have HE := Go.Lib.hid (show Els w.heap.size w1 (.slice (some ⟨W0.heap.size, 0, none⟩) 0 0) (elems nu (upN uf) ig []) by rw [elems_nil]; exact own_mono hown1 hs0)
    have HB := Go.Lib.hid (show Below w.heap.size w w1 from k0.trans (((Below.refl W0.heap.size W0).grown hgrow1 (Nat.le_refl _) (fun k h => by cases h)).mono hs0))
    clear hown1 hgrow1
    go_loopw [8, 9] (fun lv iv wr => lv = .slice (some ⟨W0.heap.size, 0, none⟩) 0 0 ∧ iv = .int .i64 0 ∧ wr = w1) (fun _ _ _ => 0)
    case atStart => exact ⟨rfl, rfl, rfl⟩
    case round =>
      obtain ⟨rfl, rfl, rfl⟩ := hrel
      go_wp2
      go_ret2
      exact ⟨_, rfl, HE.out, HB.out⟩
  · go_wp2_with (at_make; refine wpList_make_own _ rfl _ _ 25 rfl W0.heap.size 37 i0 _ 3 Try.underlying25 hi hz0 hz1 _ _ _ P.length rfl rfl rfl (by rw [hz2]; omega) (by unfold maxLen; omega) (Nat.le_refl _) ?_; intro w1 hown1 hgrow1)
    have hb1 : Below W0.heap.size W0 w1 := (Below.refl W0.heap.size W0).grown hgrow1 (Nat.le_refl _) (fun k h => by cases h)
    obtain ⟨q1, q2, q4⟩ := hm0.opts
    have hcm : (cap : Int) ≤ 9223372036854775807 := by unfold maxLen at hcb; omega
    clear q2 q4 hgrow1
    go_loopw [8, 9] (fun lv iv wr => ∃ (k : Nat) (L : List El), k ≤ P.length ∧ iv = .int .i64 (k : Nat) ∧ Els W0.heap.size wr lv L ∧ L.length ≤ 2 * k ∧ Hid (elems nu (upN uf) ig P = L ++ elems nu (upN uf) ig (P.drop k)) ∧ Below W0.heap.size W0 wr) (fun _ iv _ => P.length - (RowKit.intOf iv).toNat)
    case atStart => exact ⟨0, [], Nat.zero_le _, rfl, hown1, Nat.le_refl _, Go.Lib.hid (by rw [List.drop_zero]; rfl), hb1⟩
    case round =>
      clear hown1 hb1
      obtain ⟨k, L, hk, rfl, hvL, hLl, HL, hbk⟩ := hrel
      by_cases hlt : k < P.length
      · have i0' : (0 : Int) ≤ (k : Int) := by omega
        have i1 : (k : Int) < (P.length : Int) := by omega
        have i2 : (k : Int) ≤ (P.length : Int) := by omega
        have i3 : (P.length : Int) ≤ (cap : Int) := by omega
        have c0 := (hbk.cell (p := ⟨g, k, none⟩) hgp).trans (hc k hlt)
        have o1 := (hbk.cell (p := ⟨b, 1, none⟩) hg).trans q1
        have hsk := hbk.size
        have hq : IntsO wr (.slice (some ⟨g, k, none⟩) (P.length - k) (cap - k)) (P.drop k) := ⟨g, k, cap - k, by rw [List.length_drop], by omega, by rw [List.length_drop]; omega, by omega, fun j hj => by rw [List.getElem_drop]; exact (hbk.cell (p := ⟨g, k + j, none⟩) hgp).trans (hc (k + j) (by rw [List.length_drop] at hj; omega))⟩
        have HC := Go.Lib.hid hq
        clear hq
        have hdl := digs_le (P.drop k)
        rw [List.length_drop] at hdl
        by_cases hn : nu = true ∧ 0 < digs (P.drop k)
        · obtain ⟨hn1, hn2⟩ := hn
          have HLN := Go.Lib.hid (HL.out.trans (by rw [elems_num hn1 hn2, ← List.append_assoc, List.drop_drop]))
          generalize hd : digs (P.drop k) = d at *
          subst hn1
          have j1 : (0 : Int) < (d : Int) := by omega
          have j2 : (k : Int) + (d : Int) ≤ (cap : Int) := by omega
          have HTL := Go.Lib.hid (show ((P.drop k).take d).length = d by rw [List.length_take, List.length_drop]; omega)
          have HDT := Go.Lib.hid (show ∀ c ∈ (P.drop k).take d, dig c = true by rw [← hd]; exact dig_take _)
          have HN := Go.Lib.hid (show IntsO W0 (.slice (some ⟨g, k, none⟩) d (cap - k)) ((P.drop k).take d) from ⟨g, k, cap - k, by rw [HTL.out], hgp, by rw [HTL.out]; omega, by omega, fun j hj => by rw [List.getElem_take, List.getElem_drop]; exact hc (k + j) (by rw [HTL.out] at hj; omega)⟩)
          go_wp2_with (first
            | (go_at_call 50; (with_reducible refine (count_any _ HC.out (fun c h => by have := hpt c (List.mem_of_mem_drop h); omega)).mono ?_); rintro e w4 ⟨rfl, rfl⟩; rw [hd])
            | (go_at_call 51; (with_reducible refine (number_any _ HN.out hbk HDT.out hvL (by rw [HTL.out]; omega) (by rw [HTL.out]; omega)).mono ?_); intro e w5 h5; obtain ⟨v5, rfl, hv5, hb5⟩ := h5))
          have HV5 := Go.Lib.hid hv5
          clear hv5
          go_wp2
          go_roundw
          case rel => exact ⟨k + d, L ++ numE ((P.drop k).take d), by omega, by go_num, HV5.out, by have := numE_len (Q := (P.drop k).take d); rw [HTL.out] at this; rw [List.length_append]; omega, HLN, hb5⟩
          case measure => simp [RowKit.intOf]; omega
        · have HLN := Go.Lib.hid (HL.out.trans (by rw [elems_pt hlt hn, ← List.append_assoc]))
          have hck := hpt P[k] (List.getElem_mem hlt)
          have HPL := Go.Lib.hid (pointE_len (upN uf) ig P[k])
          cases nu with
          | false =>
            clear hn
            go_wp2_with (first
              | (go_at_call 50; (with_reducible refine (count_any _ HC.out (fun c h => by have := hpt c (List.mem_of_mem_drop h); omega)).mono ?_); rintro e w4 ⟨rfl, rfl⟩)
              | (go_at_call 52; (with_reducible refine (point_any _ hm0 hbk hvL (by omega) hck).mono ?_); intro e w5 h5; unfold ElsRet at h5; obtain ⟨v5, rfl, hv5, hb5⟩ := h5))
            have HV5 := Go.Lib.hid hv5
            clear hv5
            go_wp2
            go_roundw
            case rel => exact ⟨k + 1, L ++ pointE (upN uf) ig P[k], by omega, by go_num, HV5.out, by have := HPL.out; rw [List.length_append]; omega, HLN, hb5⟩
            case measure => simp [RowKit.intOf]; omega
          | true =>
            generalize hd : digs (P.drop k) = d at *
            have j1 : ¬ (0 : Int) < (d : Int) := by intro hj; exact hn ⟨rfl, by omega⟩
            clear hn
            go_wp2_with (first
              | (go_at_call 50; (with_reducible refine (count_any _ HC.out (fun c h => by have := hpt c (List.mem_of_mem_drop h); omega)).mono ?_); rintro e w4 ⟨rfl, rfl⟩; rw [hd])
              | (go_at_call 52; (with_reducible refine (point_any _ hm0 hbk hvL (by omega) hck).mono ?_); intro e w5 h5; unfold ElsRet at h5; obtain ⟨v5, rfl, hv5, hb5⟩ := h5))
            have HV5 := Go.Lib.hid hv5
            clear hv5
            go_wp2
            go_roundw
            case rel => exact ⟨k + 1, L ++ pointE (upN uf) ig P[k], by omega, by go_num, HV5.out, by have := HPL.out; rw [List.length_append]; omega, HLN, hb5⟩
            case measure => simp [RowKit.intOf]; omega
      · obtain rfl : k = P.length := by omega
        have i1 : ¬ (P.length : Int) < (P.length : Int) := by omega
        have HO := Go.Lib.hid (show L = elems nu (upN uf) ig P by have := HL.out; rw [List.drop_length, elems_nil, List.append_nil] at this; exact this.symm)
        have hE := Els.mono hvL hs0
        rw [HO.out] at hE
        have HE := Go.Lib.hid hE
        clear hE
        have HB := Go.Lib.hid (show Below w.heap.size w wr from k0.trans (hbk.mono hs0))
        clear hvL
        go_wp2
        go_ret2
        exact ⟨_, rfl, HE.out, HB.out⟩
end Go.Proofs.Ytknbglcmjggkjaa
