/- Layer 8: the law of equality (12). -/
import Derived.Test.YtbkpokipibgdfaaTF
import Derived.Test.YtbkpokipibgdfaaTG
namespace Go.Proofs.Ytbkpokipibgdfaa
open Go.RowKit Go.Lib Go.Maps
set_option linter.unusedVariables false

theorem barr_ext {s t : ByteArray} (h : s.toList = t.toList) : s = t := by
  rw [ByteArray.toList_eq, ByteArray.toList_eq] at h
  obtain ⟨⟨a⟩⟩ := s
  obtain ⟨⟨b⟩⟩ := t
  have : a = b := h
  rw [this]
theorem eqS_iff {x y : St} : eqS x y = true ↔ x = y := by
  obtain ⟨a1, a2, a3, a4, a5, ps⟩ := x
  obtain ⟨b1, b2, b3, b4, b5, qs⟩ := y
  unfold eqS
  simp only [Bool.and_eq_true, beq_iff_eq, decide_eq_true_eq, St.mk.injEq]
  constructor
  · rintro ⟨⟨⟨⟨⟨rfl, rfl⟩, h⟩, rfl⟩, rfl⟩, rfl⟩
    exact ⟨rfl, rfl, barr_ext h, rfl, rfl, rfl⟩
  · rintro ⟨rfl, rfl, rfl, rfl, rfl, rfl⟩
    exact ⟨⟨⟨⟨⟨rfl, rfl⟩, rfl⟩, rfl⟩, rfl⟩, rfl⟩
theorem eqL_iff {l l' : List St} : eqL l l' = true ↔ l = l' := by
  constructor
  · intro h
    by_cases hl : l.length = l'.length
    case neg => rw [eqL_len hl] at h; cases h
    refine List.ext_getElem hl fun k hk hk' => ?_
    refine eqS_iff.1 ?_
    cases hv : eqS l[k] l'[k] with
    | true => rfl
    | false => rw [eqL_no hk hk' hv] at h; cases h
  · rintro rfl
    exact eqL_yes rfl fun k hk hk' => eqS_iff.2 rfl
theorem eqL_comm (l l' : List St) : eqL l l' = eqL l' l := by
  cases h : eqL l l' with
  | true => rw [eqL_iff] at h; subst h; exact (eqL_iff.2 rfl).symm
  | false =>
    cases h' : eqL l' l with
    | false => rfl
    | true => rw [eqL_iff] at h'; subst h'; rw [eqL_iff.2 rfl] at h; cases h
set_option maxRecDepth 100000 in
set_option maxHeartbeats 8000000 in
theorem law_equals (A : Option Addr) (n c : Nat) (l : List St) (hn : l.length = n) (hc : n ≤ c ∧ c ≤ maxLen) (hin : ∀ x ∈ l, StIn x) (A' : Option Addr) (n' c' : Nat) (l' : List St) (hn' : l'.length = n') (hc' : n' ≤ c' ∧ c' ≤ maxLen) (hin' : ∀ x ∈ l', StIn x) (w : World) (hA : LsAt w A l) (hA' : LsAt w A' l') :
    Calls Try.prog 12 #[.slice A n c, .slice A' n' c'] w (TrueW w) := by
  have cK := Go.Lib.hid (fun w' => known_any w')
  have cS := Go.Lib.hid (fun w' (hb : Below w.heap.size w w') => small_any l A n c hn hc w' (hA.below hb))
  have cS' := Go.Lib.hid (fun w' (hb : Below w.heap.size w w') => small_any l' A' n' c' hn' hc' w' (hA'.below hb))
  have HA := Go.Lib.hid hA
  have HA' := Go.Lib.hid hA'
  have HN := Go.Lib.hid hn
  have HN' := Go.Lib.hid hn'
  clear hA hA' hn hn' hc hc' hin hin'
  have K0 := Go.Lib.hid (Below.refl w.heap.size w)
  have s0 := K0.out.size
  go_enter Try.func12, Try.ntmps12
  have cc := cK.out w
  go_wp2_with fail
  (with_reducible refine cc.mono ?_)
  rintro e w1 ⟨rfl, k1⟩
  have K1 := Go.Lib.hid (K0.out.trans (k1.mono s0))
  have s1 := K1.out.size
  clear cc k1
  have cc := cS.out w1 K1.out
  go_wp2_with fail
  (with_reducible refine cc.mono ?_)
  rintro e w2 ⟨⟨b, rfl, hb⟩, k2⟩
  have K2 := Go.Lib.hid (K1.out.trans (k2.mono s1))
  have s2 := K2.out.size
  clear cc k2
  cases b with
  | false =>
    clear hb
    have cc := cK.out w2
    go_wp2_with fail
    (with_reducible refine cc.mono ?_)
    rintro e w3 ⟨rfl, k3⟩
    have K3 := Go.Lib.hid (K2.out.trans (k3.mono s2))
    have s3 := K3.out.size
    clear cc k3
    go_wp2
    go_ret
    exact ⟨by simp, K3.out⟩
  | true =>
    have HT := Go.Lib.hid (hb rfl)
    clear hb
    have cc := cS'.out w2 K2.out
    go_wp2_with fail
    (with_reducible refine cc.mono ?_)
    rintro e w3 ⟨⟨b', rfl, hb'⟩, k3⟩
    have K3 := Go.Lib.hid (K2.out.trans (k3.mono s2))
    have s3 := K3.out.size
    clear cc k3
    cases b' with
    | false =>
      clear hb'
      have cc := cK.out w3
      go_wp2_with fail
      (with_reducible refine cc.mono ?_)
      rintro e w4 ⟨rfl, k4⟩
      have K4 := Go.Lib.hid (K3.out.trans (k4.mono s3))
      have s4 := K4.out.size
      clear cc k4
      go_wp2
      go_ret
      exact ⟨by simp, K4.out⟩
    | true =>
      have HT' := Go.Lib.hid (hb' rfl)
      clear hb'
      have q1 : n ≤ 1000 := by rw [← HN.out]; exact Nat.le_trans HT.out.1 (by omega)
      have q2 : n' ≤ 1000 := by rw [← HN'.out]; exact Nat.le_trans HT'.out.1 (by omega)
      have e1 := Go.Lib.hid (fun w' (hb : Below w.heap.size w w') => Equal_any l l' n n' HN.out HN'.out q1 q2 A A' c c' w' (HA.out.below hb) (HA'.out.below hb))
      have e2 := Go.Lib.hid (fun w' (hb : Below w.heap.size w w') => requal_any l l' n n' HN.out HN'.out q1 q2 A A' c c' w' (HA.out.below hb) (HA'.out.below hb))
      have e3 := Go.Lib.hid (fun w' (hb : Below w.heap.size w w') => Equal_any l' l n' n HN'.out HN.out q2 q1 A' A c' c w' (HA'.out.below hb) (HA.out.below hb))
      have e4 := Go.Lib.hid (fun w' (hb : Below w.heap.size w w') => Equal_any l l n n HN.out HN.out q1 q1 A A c c w' (HA.out.below hb) (HA.out.below hb))
      rw [eqL_comm l' l] at e3
      rw [eqL_iff.2 rfl] at e4
      generalize eqL l l' = E at *
      have eE : (E == E) = true := by simp
      have cc := e1.out w3 K3.out
      go_wp2_with fail
      (with_reducible refine cc.mono ?_)
      rintro e w4 ⟨rfl, k4⟩
      have K4 := Go.Lib.hid (K3.out.trans (k4.mono s3))
      have s4 := K4.out.size
      clear cc k4
      have cc := e2.out w4 K4.out
      go_wp2_with fail
      (with_reducible refine cc.mono ?_)
      rintro e w5 ⟨rfl, k5⟩
      have K5 := Go.Lib.hid (K4.out.trans (k5.mono s4))
      have s5 := K5.out.size
      clear cc k5
      have cc := e3.out w5 K5.out
      go_wp2_with fail
      (with_reducible refine cc.mono ?_)
      rintro e w6 ⟨rfl, k6⟩
      have K6 := Go.Lib.hid (K5.out.trans (k6.mono s5))
      have s6 := K6.out.size
      clear cc k6
      have cc := e2.out w6 K6.out
      go_wp2_with fail
      (with_reducible refine cc.mono ?_)
      rintro e w7 ⟨rfl, k7⟩
      have K7 := Go.Lib.hid (K6.out.trans (k7.mono s6))
      have s7 := K7.out.size
      clear cc k7
      have cc := e4.out w7 K7.out
      go_wp2_with fail
      (with_reducible refine cc.mono ?_)
      rintro e w8 ⟨rfl, k8⟩
      have K8 := Go.Lib.hid (K7.out.trans (k8.mono s7))
      have s8 := K8.out.size
      clear cc k8
      go_wp2
      go_ret
      exact ⟨by simp, K8.out⟩
end Go.Proofs.Ytbkpokipibgdfaa
