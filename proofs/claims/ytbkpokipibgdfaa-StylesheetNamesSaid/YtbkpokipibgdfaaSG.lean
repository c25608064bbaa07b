/- Layer 8: check (66), open (44), Check (15). -/
import Derived.Test.YtbkpokipibgdfaaSF
import Derived.Test.YtbkpokipibgdfaaSB
import Derived.Test.YtbkpokipibgdfaaS9
namespace Go.Proofs.Ytbkpokipibgdfaa
open Go.RowKit Go.Lib Go.Maps
set_option linter.unusedVariables false

theorem fld_all {l : List St} (h : fldP l = 0) : ∀ k, k < l.length → fldK l k = 0 := by
  intro k hk
  apply Classical.byContradiction
  intro hne
  have key : ∀ n, n ≤ l.length → (∃ j, j < n ∧ fldK l j ≠ 0) → ∃ j, j < l.length ∧ fldK l j ≠ 0 ∧ ∀ i, i < j → fldK l i = 0 := by
    intro n
    induction n with
    | zero => rintro _ ⟨j, hj, _⟩; exact absurd hj (Nat.not_lt_zero _)
    | succ n ih =>
      intro hn hx
      by_cases hp : ∃ j, j < n ∧ fldK l j ≠ 0
      · exact ih (by omega) hp
      · obtain ⟨j, hj, hj2⟩ := hx
        have hjn : j = n := by
          apply Classical.byContradiction
          intro hne
          exact hp ⟨j, by omega, hj2⟩
        subst hjn
        refine ⟨j, by omega, hj2, fun i hi => ?_⟩
        apply Classical.byContradiction
        intro hne
        exact hp ⟨i, hi, hne⟩
  obtain ⟨j, hj, hj2, hj3⟩ := key l.length (Nat.le_refl _) ⟨k, hk, hne⟩
  unfold fldP at h
  rw [chk_find (fldK l) l.length j hj hj3 hj2] at h
  exact hj2 h
theorem fld_up {l : List St} (h : fldP l = 0) : ∀ k (hk : k < l.length), lastI l k < l[k].id := by
  intro k hk
  have h1 := fld_all h k hk
  rw [fldK_at l k hk] at h1
  unfold fldX at h1
  split at h1
  · cases h1
  · split at h1
    · cases h1
    · split at h1
      · cases h1
      · omega
theorem ids_up {l : List St} (h : fldP l = 0) : ∀ d j (hk : j + d + 1 < l.length), (l[j]'(by omega)).id < l[j + d + 1].id := by
  intro d
  induction d with
  | zero =>
    intro j hk
    have := fld_up h (j + 1) hk
    rw [lastI_succ l j (by omega)] at this
    exact this
  | succ d ih =>
    intro j hk
    have h1 := ih j (by omega)
    have h2 := fld_up h (j + d + 1 + 1) hk
    rw [lastI_succ l (j + d + 1) (by omega)] at h2
    exact Int.lt_trans h1 h2
theorem uni_of {l : List St} (h : fldP l = 0) : Uni l := by
  intro k hk
  unfold plc
  rw [List.findIdx?_eq_some_iff_getElem]
  refine ⟨hk, by unfold isId; simp, fun j hj => ?_⟩
  have := ids_up h (k - j - 1) j (by omega)
  simp only [show j + (k - j - 1) + 1 = k by omega] at this
  unfold isId
  simp
  omega
/-- The first error of a list, but that of its length. -/
noncomputable def chkL (l : List St) : Int := if fldP l ≠ 0 then fldP l else if lnkP l ≠ 0 then lnkP l else if endB l = true then 0 else 16
set_option maxRecDepth 100000 in
set_option maxHeartbeats 8000000 in
theorem checkS_any (l : List St) (hok : LsOk l) (hnm : NmsOk l) (A : Option Addr) (m d b : Nat) (w : World) (h : ShAt w A m d b l) :
    Calls Try.prog 66 #[.agg #[.slice A m d, .map (some b)]] w fun e w' => e = .returned (.int .i64 (chkL l)) ∧ Below w.heap.size w w' := by
  have hb0 := (Below.refl w.heap.size w).alloc (Nat.le_refl _) (.cells #[.slice A m d, .map (some b)] 73)
  have o0 := ObjAt.new w #[.slice A m d, .map (some b)] 73
  have p0 := o0.a0
  have p1 := o0.a1
  have s0 := hb0.size
  have c1 := checkfields_any l hok hnm A m d b _ (h.below hb0)
  have C2 := Lib.hid (fun w' (hb : Below w.heap.size w w') => checklinks_any l hok A m d b w' (h.below hb))
  have C3 := Lib.hid (fun (hu : Uni l) w' (hb : Below w.heap.size w w') => chainsend_any l hok hu A m d b w' (h.below hb))
  clear h hok hnm
  go_enter Try.func66, Try.ntmps66
  go_wp2_with fail
  (with_reducible refine c1.mono ?_)
  rintro e w1 ⟨rfl, k1⟩
  have K1 := Lib.hid (hb0.trans (k1.mono s0))
  have O1 := Lib.hid (o0.below k1)
  clear c1 k1 p0 p1 o0 hb0
  by_cases hf : fldP l = 0
  · have e1 : (fldP l != 0) = false := by simpa using hf
    have HU := Lib.hid (uni_of hf)
    have HF := Lib.hid hf
    have p0 := O1.out.a0
    have p1 := O1.out.a1
    have c2 := C2.out w1 K1.out
    clear hf
    go_wp2_with fail
    (with_reducible refine c2.mono ?_)
    rintro e w2 ⟨rfl, k2⟩
    have K2 := Lib.hid (K1.out.trans (k2.mono K1.out.size))
    have O2 := Lib.hid (O1.out.below k2)
    clear c2 k2 p0 p1
    by_cases hl : lnkP l = 0
    · have e2 : (lnkP l != 0) = false := by simpa using hl
      have HL := Lib.hid hl
      have p0 := O2.out.a0
      have p1 := O2.out.a1
      have c3 := C3.out HU.out w2 K2.out
      clear hl
      cases he : endB l with
      | true =>
        rw [he] at c3
        go_wp2_with fail
        (with_reducible refine c3.mono ?_)
        rintro e w3 ⟨rfl, k3⟩
        have K3 := Lib.hid (K2.out.trans (k3.mono K2.out.size))
        clear c3 k3
        go_wp2
        go_ret
        exact ⟨by unfold chkL; rw [if_neg (by simp [HF.out]), if_neg (by simp [HL.out]), if_pos he]; rfl, K3.out⟩
      | false =>
        rw [he] at c3
        go_wp2_with fail
        (with_reducible refine c3.mono ?_)
        rintro e w3 ⟨rfl, k3⟩
        have K3 := Lib.hid (K2.out.trans (k3.mono K2.out.size))
        clear c3 k3
        go_wp2
        go_ret
        exact ⟨by unfold chkL; rw [if_neg (by simp [HF.out]), if_neg (by simp [HL.out]), if_neg (by simp [he])]; rfl, K3.out⟩
    · have e2 : (lnkP l != 0) = true := by simpa using hl
      have HL := Lib.hid hl
      clear hl
      go_wp2
      go_ret
      exact ⟨by unfold chkL; rw [if_neg (by simp [HF.out]), if_pos HL.out]; rfl, K2.out⟩
  · have e1 : (fldP l != 0) = true := by simpa using hf
    have HF := Lib.hid hf
    clear hf
    go_wp2
    go_ret
    exact ⟨by unfold chkL; rw [if_pos HF.out]; rfl, K1.out⟩
/-- What Check says. -/
noncomputable def chkA (l : List St) : Int := if 128 < l.length then 9 else chkL l
/-- What open hands back. -/
def OpnR (l : List St) (A : Option Addr) (m d : Nat) (w : World) (e : Ending) (w' : World) : Prop :=
  (∃ v b, e = .returned (.tuple #[v, .int .i64 (chkA l)]) ∧ (chkA l = 0 → v = shV A m d b ∧ ShAt w' A m d b l) ∧ (chkA l ≠ 0 → v = .agg #[.slice none 0 0, .map none])) ∧ Below w.heap.size w w'
set_option maxRecDepth 100000 in
set_option maxHeartbeats 8000000 in
theorem open_any (l : List St) (hok : LsOk l) (hnm : NmsOk l) (A : Option Addr) (m d : Nat) (hm : l.length = m) (hs : m ≤ 1000) (w : World) (hA : LsAt w A l) :
    Calls Try.prog 44 #[.slice A m d] w (OpnR l A m d w) := by
  have hb0 := (Below.refl w.heap.size w).alloc (Nat.le_refl _) (.cells #[.slice none 0 0, .map none] 73)
  have o0 := ObjAt.new w #[.slice none 0 0, .map none] 73
  have s0 := hb0.size
  go_enter Try.func44, Try.ntmps44
  by_cases hbig : 128 < m
  · have e1 : decide ((128 : Int) < (m : Int)) = true := decide_eq_true (by omega)
    go_wp2_with fail
    refine bodyPost_ret (v := .tuple #[.agg #[.slice none 0 0, .map none], .int .i64 9]) (by have c0 := o0.a0; have c1 := o0.a1; simp [results, Try.results44, go_sem, c0, c1]) rfl ?_
    have hc : chkA l = 9 := by unfold chkA; rw [if_pos (by omega)]
    exact ⟨⟨.agg #[.slice none 0 0, .map none], 0, by rw [hc], (fun h => by rw [hc] at h; cases h), fun _ => rfl⟩, hb0⟩
  · have e1 : decide ((128 : Int) < (m : Int)) = false := decide_eq_false (by omega)
    have hc : chkA l = chkL l := by unfold chkA; rw [if_neg (by omega)]
    have cI := indices_any A m d l hm hs hok _ (hA.below hb0)
    go_wp2_with fail
    (with_reducible refine cI.mono ?_)
    rintro e w1 ⟨b, n, rfl, hb, hix, k1⟩
    have K1 := Lib.hid (hb0.trans (k1.mono s0))
    have SH := Lib.hid (show ShAt w1 A m d b l from ⟨hm, hs, hA.below K1.out, n, hix⟩)
    have O1 := Lib.hid (o0.below k1)
    have kn := (Below.refl w1.heap.size w1).alloc (Nat.le_refl _) (.cells #[.slice A m d, .map (some b)] 73)
    have on := ObjAt.new w1 #[.slice A m d, .map (some b)] 73
    have n0 := on.a0
    have n1 := on.a1
    have cC := checkS_any l hok hnm A m d b _ (SH.out.below kn)
    have HA := Lib.hid hA
    have hx : w.heap.size < b := by have := hb; rw [World.size_alloc] at this; omega
    have h1s := K1.out.size
    have HIX := Lib.hid hix
    have sn := kn.size
    clear cI k1 hix hb o0 hb0 hA s0
    go_wp2_with fail
    (with_reducible refine cC.mono ?_)
    rintro e w3 ⟨rfl, k3⟩
    have K3 := Lib.hid (K1.out.trans ((kn.trans (k3.mono sn)).mono h1s))
    have O3 := Lib.hid ((O1.out.below kn).below k3)
    have N3 := Lib.hid (on.below k3)
    have I3 := Lib.hid ((HIX.out.below HIX.out.lt kn).below (m := (w1.alloc (.cells #[.slice A m d, .map (some b)] 73)).heap.size) (Nat.lt_of_lt_of_le HIX.out.lt sn) k3)
    clear cC k3 kn on n0 n1
    have g0 := O3.out.a0
    have g1 := O3.out.a1
    have f0 := O3.out.frozen 0
    have f1 := O3.out.frozen 1
    have h3s := K3.out.size
    by_cases hz : chkL l = 0
    · have e2 : (chkL l != 0) = false := by simpa using hz
      have n0 := N3.out.a0
      have n1 := N3.out.a1
      have HZ := Lib.hid hz
      have O4 := Lib.hid ((O3.out.set 0 (.slice A m d)).set 1 (.map (some b)))
      have hne : w1.heap.size ≠ w.heap.size := by have := O1.out.lt; omega
      have K4 := Lib.hid (((K3.out.grown (grown_set w3 w.heap.size 0 (.slice A m d)) h3s (fun j e => by cases e; exact Nat.le_refl _)).grown (grown_set _ w.heap.size 1 (.map (some b))) (by simpa [World.setCell] using h3s) (fun j e => by cases e; exact Nat.le_refl _)))
      have I4 := Lib.hid ((I3.out.kept (grown_set w3 w.heap.size 0 (.slice A m d)) (by simp; omega)).kept (grown_set _ w.heap.size 1 (.map (some b))) (by simp; omega))
      clear hz
      go_wp2_with fail
      have O4' : ObjAt ((w3.setCell ⟨w.heap.size, 0, none⟩ (.slice A m d)).setCell ⟨w.heap.size, 1, none⟩ (.map (some b))) w.heap.size #[.slice A m d, .map (some b)] 73 := O4.out
      refine bodyPost_ret (v := .tuple #[.agg #[.slice A m d, .map (some b)], .int .i64 0]) (by have c0 := O4'.a0; have c1 := O4'.a1; simp [results, Try.results44, go_sem, c0, c1]) rfl ?_
      have hc0 : chkA l = 0 := by rw [hc]; exact HZ.out
      exact ⟨⟨.agg #[.slice A m d, .map (some b)], b, by rw [hc0], fun _ => ⟨rfl, hm, hs, HA.out.below K4.out, n, I4.out⟩, fun h => absurd hc0 h⟩, K4.out⟩
    · have e2 : (chkL l != 0) = true := by simpa using hz
      have HZ := Lib.hid hz
      clear hz
      go_wp2_with fail
      have O4' : ObjAt ((w3.setCell ⟨w.heap.size, 0, none⟩ (.slice none 0 0)).setCell ⟨w.heap.size, 1, none⟩ (.map none)) w.heap.size #[.slice none 0 0, .map none] 73 := (O3.out.set 0 (.slice none 0 0)).set 1 (.map none)
      have K4 := (K3.out.grown (grown_set w3 w.heap.size 0 (.slice none 0 0)) h3s (fun j e => by cases e; exact Nat.le_refl _)).grown (grown_set _ w.heap.size 1 (.map none)) (by simpa [World.setCell] using h3s) (fun j e => by cases e; exact Nat.le_refl _)
      refine bodyPost_ret (v := .tuple #[.agg #[.slice none 0 0, .map none], .int .i64 (chkL l)]) (by have c0 := O4'.a0; have c1 := O4'.a1; simp [results, Try.results44, go_sem, c0, c1]) rfl ?_
      exact ⟨⟨.agg #[.slice none 0 0, .map none], b, by rw [hc], (fun h => absurd (hc.symm.trans h) HZ.out), fun _ => rfl⟩, K4⟩
end Go.Proofs.Ytbkpokipibgdfaa
