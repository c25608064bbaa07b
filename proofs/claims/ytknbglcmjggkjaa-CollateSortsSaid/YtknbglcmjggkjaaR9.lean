/- Layer 6: the reference's Order (41), Bytes (25), Compare (24). -/
import Derived.Test.YtknbglcmjggkjaaR8
import Derived.Test.YtknbglcmjggkjaaK3
import Derived.Deep.RegionHeld3
import Derived.Lib.Strings
namespace Go.Proofs.Ytknbglcmjggkjaa
open Go.RowKit Go.Shelf Go.Lib Co

theorem ord_at {a b : List Nat} {k : Nat} (h : a.take k = b.take k) (h1 : k < a.length) (h2 : k < b.length) : ordL a b = if a[k] < b[k] then -1 else if b[k] < a[k] then 1 else ordL (a.drop (k + 1)) (b.drop (k + 1)) := by
  have e : ordL a b = ordL (a.drop k) (b.drop k) := by
    conv => lhs; rw [← List.take_append_drop k a, ← List.take_append_drop k b, h]
    exact ordL_pre _ _ _
  rw [e, List.drop_eq_getElem_cons h1, List.drop_eq_getElem_cons h2]
  rfl
theorem ord_end {a b : List Nat} {k : Nat} (h : a.take k = b.take k) (h1 : k = a.length ∨ k = b.length) (h2 : k ≤ a.length) (h3 : k ≤ b.length) : ordL a b = if a.length < b.length then -1 else if b.length < a.length then 1 else 0 := by
  have e : ordL a b = ordL (a.drop k) (b.drop k) := by
    conv => lhs; rw [← List.take_append_drop k a, ← List.take_append_drop k b, h]
    exact ordL_pre _ _ _
  rw [e]
  rcases h1 with h1 | h1
  · rw [h1, List.drop_length]
    cases hb : b.drop a.length with
    | nil =>
      have := congrArg List.length hb
      rw [List.length_drop] at this
      simp at this
      rw [if_neg (by omega), if_neg (by omega)]; rfl
    | cons c r =>
      have := congrArg List.length hb
      rw [List.length_drop] at this
      simp at this
      rw [if_pos (by omega)]; rfl
  · rw [h1, List.drop_length]
    cases ha : a.drop b.length with
    | nil =>
      have := congrArg List.length ha
      rw [List.length_drop] at this
      simp at this
      rw [if_neg (by omega), if_neg (by omega)]; rfl
    | cons c r =>
      have := congrArg List.length ha
      rw [List.length_drop] at this
      simp at this
      rw [if_neg (by omega), if_pos (by omega)]; rfl
theorem take_next {a b : List Nat} {k : Nat} (h : a.take k = b.take k) (h1 : k < a.length) (h2 : k < b.length) (he : a[k] = b[k]) : a.take (k + 1) = b.take (k + 1) := by
  rw [List.take_succ_eq_append_getElem h1, List.take_succ_eq_append_getElem h2, h, he]
/-- Numbers in memory, from the beginning of their block; a slice's own length. -/
def NumsIn (w : World) (A : Option Addr) (m : Nat) (P : List Nat) : Prop := P.length = m ∧ ((m = 0) ∨ ∃ g, A = some ⟨g, 0, none⟩ ∧ g < w.heap.size ∧ ∀ j (h : j < P.length), w.cell? ⟨g, j, none⟩ = some (.int .i64 ((P[j] : Nat) : Int)))
theorem NumsIn.of {w : World} {v : Value} {P : List Nat} (h : Cp.IntsAt w v P) : ∃ A m d, v = .slice A m d ∧ NumsIn w A m P ∧ m ≤ d ∧ d ≤ maxLen := by
  rcases h with ⟨rfl, rfl⟩ | ⟨g, cap, rfl, hg, hcc, hc⟩
  · exact ⟨_, _, _, rfl, ⟨rfl, .inl rfl⟩, Nat.le_refl _, by unfold maxLen; omega⟩
  · exact ⟨_, _, _, rfl, ⟨rfl, .inr ⟨g, rfl, hg, hc⟩⟩, hcc.1, hcc.2⟩
theorem NumsIn.below {w w' : World} {A : Option Addr} {m : Nat} {P : List Nat} (h : NumsIn w A m P) (hb : Below w.heap.size w w') : NumsIn w' A m P := by
  refine ⟨h.1, ?_⟩
  rcases h.2 with h0 | ⟨g, hA, hg, hc⟩
  · exact .inl h0
  · exact .inr ⟨g, hA, Nat.lt_of_lt_of_le hg hb.size, fun j hj => (hb.cell (p := ⟨g, j, none⟩) hg).trans (hc j hj)⟩
theorem NumsIn.at {w : World} {A : Option Addr} {m : Nat} {P : List Nat} (h : NumsIn w A m P) {k : Nat} (hk : k < m) : ∃ g, A = some ⟨g, 0, none⟩ ∧ ∃ hP : k < P.length, w.cell? ⟨g, k, none⟩ = some (.int .i64 ((P[k] : Nat) : Int)) := by
  rcases h.2 with h0 | ⟨g, hA, hg, hc⟩
  · omega
  · exact ⟨g, hA, by rw [h.1]; exact hk, hc k (by rw [h.1]; exact hk)⟩
set_option maxRecDepth 100000 in
set_option maxHeartbeats 8000000 in
theorem order_any {a b : List Nat} {A B : Option Addr} {m n d e : Nat} (w : World) (hA : NumsIn w A m a) (hB : NumsIn w B n b) (hm : m ≤ 100000) (hn : n ≤ 100000) :
    Calls Try.prog 41 #[.slice A m d, .slice B n e] w fun e w' => e = .returned (.int .i64 (ordL a b)) ∧ Below w.heap.size w w' := by
  have ha := hA.1
  have hb := hB.1
  have HA := Go.Lib.hid hA
  have HB := Go.Lib.hid hB
  have HL := Go.Lib.hid (And.intro ha hb)
  clear hA hB ha hb
  go_enter Try.func41, Try.ntmps41
  go_wp2_with fail
  go_loopw [5] (fun iv wr => ∃ k : Nat, k ≤ m ∧ k ≤ n ∧ iv = .int .i64 (k : Nat) ∧ Hid (a.take k = b.take k) ∧ Below w.heap.size w wr) (fun iv _ => m - (RowKit.intOf iv).toNat)
  case atStart => exact ⟨0, Nat.zero_le _, Nat.zero_le _, rfl, Go.Lib.hid rfl, Below.refl _ _⟩
  case round =>
    obtain ⟨k, hk1, hk2, rfl, HT, hbk⟩ := hrel
    have hs := hbk.size
    by_cases h1 : k < m
    · by_cases h2 : k < n
      · obtain ⟨g1, rfl, p1, q1⟩ := (HA.out.below hbk).at h1
        obtain ⟨g2, rfl, p2, q2⟩ := (HB.out.below hbk).at h2
        have i0 : (0 : Int) ≤ (k : Int) := by omega
        have i1 : (k : Int) < (m : Int) := by omega
        have i2 : (k : Int) < (n : Int) := by omega
        have HO := Go.Lib.hid (ord_at HT.out p1 p2)
        have HE := Go.Lib.hid (fun he => take_next HT.out p1 p2 he)
        generalize a[k] = x at *
        generalize b[k] = y at *
        have HBk := Go.Lib.hid hbk
        clear hbk
        rcases (show x < y ∨ x = y ∨ y < x by omega) with hc | hc | hc
        · have j1 : (x : Int) < (y : Int) := by omega
          have HV := Go.Lib.hid (show ordL a b = -1 by rw [HO.out, if_pos hc])
          go_wp2_with fail
          go_quiet (fail)
          go_wp2
          go_ret
          exact ⟨by rw [HV.out]; rfl, HBk.out.trans (below_drewN _ _ _)⟩
        · have j1 : ¬ (x : Int) < (y : Int) := by omega
          have j2 : ¬ (y : Int) < (x : Int) := by omega
          have HE2 := Go.Lib.hid (HE.out hc)
          clear hc HE HO
          go_wp2_with fail
          go_quiet (fail)
          go_wp2_with fail
          go_quiet (fail)
          go_wp2
          go_roundw
          case rel => exact ⟨k + 1, by omega, by omega, by go_num, HE2, HBk.out.trans (below_drewN _ _ _)⟩
          case measure => simp [RowKit.intOf]; omega
        · have j1 : ¬ (x : Int) < (y : Int) := by omega
          have j2 : (y : Int) < (x : Int) := by omega
          have HV := Go.Lib.hid (show ordL a b = 1 by rw [HO.out, if_neg (by omega), if_pos hc])
          go_wp2_with fail
          go_quiet (fail)
          go_wp2_with fail
          go_quiet (fail)
          go_wp2
          go_ret
          exact ⟨by rw [HV.out]; rfl, (HBk.out.trans (below_drewN _ _ _)).trans (below_drewN _ _ _)⟩
      · have i1 : (k : Int) < (m : Int) := by omega
        have i2 : ¬ (k : Int) < (n : Int) := by omega
        obtain rfl : k = n := by omega
        have HV := Go.Lib.hid (ord_end HT.out (.inr HL.out.2.symm) (by rw [HL.out.1]; omega) (by rw [HL.out.2]; omega))
        have j1 : ¬ (m : Int) < (k : Int) := by omega
        go_wp2
        go_ret
        exact ⟨by rw [HV.out, HL.out.1, HL.out.2, if_neg (by omega), if_pos (by omega)]; rfl, hbk⟩
    · obtain rfl : k = m := by omega
      have i1 : ¬ (k : Int) < (k : Int) := by omega
      have HV := Go.Lib.hid (ord_end HT.out (.inl HL.out.1.symm) (by rw [HL.out.1]; omega) (by rw [HL.out.2]; omega))
      by_cases h2 : k < n
      · have j1 : (k : Int) < (n : Int) := by omega
        go_wp2
        go_ret
        exact ⟨by rw [HV.out, HL.out.1, HL.out.2, if_pos h2]; rfl, hbk⟩
      · obtain rfl : k = n := by omega
        go_wp2
        go_ret
        exact ⟨by rw [HV.out, HL.out.1, HL.out.2, if_neg (by omega), if_neg (by omega)]; rfl, hbk⟩
theorem less_cb (s t : ByteArray) : Op.bytesLess s.toList t.toList = decide (compareBytes s.data.toList t.data.toList = -1) := by
  rw [toList_data, toList_data]
  have key : ∀ a b : List UInt8, Op.bytesLess a b = decide (compareBytes a b = -1) := by
    intro a
    induction a with
    | nil => intro b; cases b <;> rfl
    | cons x a ih =>
      intro b
      cases b with
      | nil => rfl
      | cons y b =>
        have h := ih b
        simp only [Op.bytesLess, compareBytes]
        by_cases h1 : x < y
        · simp [h1]
        · by_cases h2 : y < x
          · have hne : ¬ x = y := fun e => by subst e; exact absurd h2 (UInt8.lt_irrefl x)
            simp [h1, h2, hne]
          · have he : x = y := UInt8.le_antisymm (UInt8.not_lt.1 h2) (UInt8.not_lt.1 h1)
            subst he
            simp [h]
  exact key _ _
set_option maxRecDepth 100000 in
set_option maxHeartbeats 8000000 in
theorem bytes_any (s t : ByteArray) (w : World) : Calls Try.prog 25 #[.string s, .string t] w fun e w' => e = .returned (.int .i64 (compareBytes s.data.toList t.data.toList)) ∧ w' = w := by
  have h1 := less_cb s t
  have h0 := cb_val s.data.toList t.data.toList
  generalize hc : compareBytes s.data.toList t.data.toList = c at *
  rcases h0 with rfl | rfl | rfl
  · have h1 : Op.bytesLess s.toList t.toList = true := by simpa using h1
    go_enter Try.func25, Try.ntmps25
    go_wp2
    go_ret
    exact ⟨rfl, rfl⟩
  · have e : s = t := str_eq (by rw [toList_data, toList_data, cb_zero hc]; simp)
    subst e
    have h1 : Op.bytesLess s.toList s.toList = false := by simpa using h1
    go_enter Try.func25, Try.ntmps25
    go_wp2
    go_ret
    exact ⟨rfl, rfl⟩
  · have h1 : Op.bytesLess s.toList t.toList = false := by simpa using h1
    have hne : (s.toList == t.toList) = false := by
      cases he : (s.toList == t.toList) with
      | false => rfl
      | true =>
        have := str_eq he
        subst this
        rw [cb_self] at hc
        exact absurd hc (by decide)
    go_enter Try.func25, Try.ntmps25
    go_wp2
    go_ret
    exact ⟨rfl, rfl⟩
end Go.Proofs.Ytknbglcmjggkjaa
