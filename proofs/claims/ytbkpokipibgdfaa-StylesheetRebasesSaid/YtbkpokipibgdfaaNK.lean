/- Layer 8: the texts SG SH SI SJ SK SL. -/
import Derived.Test.YtbkpokipibgdfaaNJ
import Derived.Test.YtbkpokipibgdfaaNI
import Derived.Test.YtbkpokipibgdfaaNH

/- Layer 8: check (66), open (44), Check (15). -/
namespace Go.Proofs.Ytbkpokipibgdfaa
open Go.RowKit Go.Lib Go.Maps
set_option linter.unusedVariables false

theorem fld_all {l : List St} (h : fldP l = 0) : ∀ k, k < l.length → fldK l k = 0 := by
  intro k hk
  apply Classical.byContradiction
  intro hne
  have key : ∀ n, n ≤ l.length → (∃ j, j < n ∧ fldK l j ≠ 0) → ∃ j, j < l.length ∧ fldK l j ≠ 0 ∧ ∀ i, i < j → fldK l i = 0 := by
    intro n
    induction n with
    | zero => rintro _ ⟨j, hj, _⟩; exact absurd hj (Nat.not_lt_zero _)
    | succ n ih =>
      intro hn hx
      by_cases hp : ∃ j, j < n ∧ fldK l j ≠ 0
      · exact ih (by omega) hp
      · obtain ⟨j, hj, hj2⟩ := hx
        have hjn : j = n := by
          apply Classical.byContradiction
          intro hne
          exact hp ⟨j, by omega, hj2⟩
        subst hjn
        refine ⟨j, by omega, hj2, fun i hi => ?_⟩
        apply Classical.byContradiction
        intro hne
        exact hp ⟨i, hi, hne⟩
  obtain ⟨j, hj, hj2, hj3⟩ := key l.length (Nat.le_refl _) ⟨k, hk, hne⟩
  unfold fldP at h
  rw [chk_find (fldK l) l.length j hj hj3 hj2] at h
  exact hj2 h
theorem fld_up {l : List St} (h : fldP l = 0) : ∀ k (hk : k < l.length), lastI l k < l[k].id := by
  intro k hk
  have h1 := fld_all h k hk
  rw [fldK_at l k hk] at h1
  unfold fldX at h1
  split at h1
  · cases h1
  · split at h1
    · cases h1
    · split at h1
      · cases h1
      · omega
theorem ids_up {l : List St} (h : fldP l = 0) : ∀ d j (hk : j + d + 1 < l.length), (l[j]'(by omega)).id < l[j + d + 1].id := by
  intro d
  induction d with
  | zero =>
    intro j hk
    have := fld_up h (j + 1) hk
    rw [lastI_succ l j (by omega)] at this
    exact this
  | succ d ih =>
    intro j hk
    have h1 := ih j (by omega)
    have h2 := fld_up h (j + d + 1 + 1) hk
    rw [lastI_succ l (j + d + 1) (by omega)] at h2
    exact Int.lt_trans h1 h2
theorem uni_of {l : List St} (h : fldP l = 0) : Uni l := by
  intro k hk
  unfold plc
  rw [List.findIdx?_eq_some_iff_getElem]
  refine ⟨hk, by unfold isId; simp, fun j hj => ?_⟩
  have := ids_up h (k - j - 1) j (by omega)
  simp only [show j + (k - j - 1) + 1 = k by omega] at this
  unfold isId
  simp
  omega
/-- The first error of a list, but that of its length. -/
noncomputable def chkL (l : List St) : Int := if fldP l ≠ 0 then fldP l else if lnkP l ≠ 0 then lnkP l else if endB l = true then 0 else 16
set_option maxRecDepth 100000 in
set_option maxHeartbeats 8000000 in
theorem checkS_any (l : List St) (hok : LsOk l) (hnm : NmsOk l) (A : Option Addr) (m d b : Nat) (w : World) (h : ShAt w A m d b l) :
    Calls Try.prog 66 #[.agg #[.slice A m d, .map (some b)]] w fun e w' => e = .returned (.int .i64 (chkL l)) ∧ Below w.heap.size w w' := by
  have hb0 := (Below.refl w.heap.size w).alloc (Nat.le_refl _) (.cells #[.slice A m d, .map (some b)] 73)
  have o0 := ObjAt.new w #[.slice A m d, .map (some b)] 73
  have p0 := o0.a0
  have p1 := o0.a1
  have s0 := hb0.size
  have c1 := checkfields_any l hok hnm A m d b _ (h.below hb0)
  have C2 := Lib.hid (fun w' (hb : Below w.heap.size w w') => checklinks_any l hok A m d b w' (h.below hb))
  have C3 := Lib.hid (fun (hu : Uni l) w' (hb : Below w.heap.size w w') => chainsend_any l hok hu A m d b w' (h.below hb))
  clear h hok hnm
  go_enter Try.func66, Try.ntmps66
  go_wp2_with fail
  (with_reducible refine c1.mono ?_)
  rintro e w1 ⟨rfl, k1⟩
  have K1 := Lib.hid (hb0.trans (k1.mono s0))
  have O1 := Lib.hid (o0.below k1)
  clear c1 k1 p0 p1 o0 hb0
  by_cases hf : fldP l = 0
  · have e1 : (fldP l != 0) = false := by simpa using hf
    have HU := Lib.hid (uni_of hf)
    have HF := Lib.hid hf
    have p0 := O1.out.a0
    have p1 := O1.out.a1
    have c2 := C2.out w1 K1.out
    clear hf
    go_wp2_with fail
    (with_reducible refine c2.mono ?_)
    rintro e w2 ⟨rfl, k2⟩
    have K2 := Lib.hid (K1.out.trans (k2.mono K1.out.size))
    have O2 := Lib.hid (O1.out.below k2)
    clear c2 k2 p0 p1
    by_cases hl : lnkP l = 0
    · have e2 : (lnkP l != 0) = false := by simpa using hl
      have HL := Lib.hid hl
      have p0 := O2.out.a0
      have p1 := O2.out.a1
      have c3 := C3.out HU.out w2 K2.out
      clear hl
      cases he : endB l with
      | true =>
        rw [he] at c3
        go_wp2_with fail
        (with_reducible refine c3.mono ?_)
        rintro e w3 ⟨rfl, k3⟩
        have K3 := Lib.hid (K2.out.trans (k3.mono K2.out.size))
        clear c3 k3
        go_wp2
        go_ret
        exact ⟨by unfold chkL; rw [if_neg (by simp [HF.out]), if_neg (by simp [HL.out]), if_pos he]; rfl, K3.out⟩
      | false =>
        rw [he] at c3
        go_wp2_with fail
        (with_reducible refine c3.mono ?_)
        rintro e w3 ⟨rfl, k3⟩
        have K3 := Lib.hid (K2.out.trans (k3.mono K2.out.size))
        clear c3 k3
        go_wp2
        go_ret
        exact ⟨by unfold chkL; rw [if_neg (by simp [HF.out]), if_neg (by simp [HL.out]), if_neg (by simp [he])]; rfl, K3.out⟩
    · have e2 : (lnkP l != 0) = true := by simpa using hl
      have HL := Lib.hid hl
      clear hl
      go_wp2
      go_ret
      exact ⟨by unfold chkL; rw [if_neg (by simp [HF.out]), if_pos HL.out]; rfl, K2.out⟩
  · have e1 : (fldP l != 0) = true := by simpa using hf
    have HF := Lib.hid hf
    clear hf
    go_wp2
    go_ret
    exact ⟨by unfold chkL; rw [if_pos HF.out]; rfl, K1.out⟩
/-- What Check says. -/
noncomputable def chkA (l : List St) : Int := if 128 < l.length then 9 else chkL l
/-- What open hands back. -/
def OpnR (l : List St) (A : Option Addr) (m d : Nat) (w : World) (e : Ending) (w' : World) : Prop :=
  (∃ v b, e = .returned (.tuple #[v, .int .i64 (chkA l)]) ∧ (chkA l = 0 → v = shV A m d b ∧ ShAt w' A m d b l) ∧ (chkA l ≠ 0 → v = .agg #[.slice none 0 0, .map none])) ∧ Below w.heap.size w w'
set_option maxRecDepth 100000 in
set_option maxHeartbeats 8000000 in
theorem open_any (l : List St) (hok : LsOk l) (hnm : NmsOk l) (A : Option Addr) (m d : Nat) (hm : l.length = m) (hs : m ≤ 1000) (w : World) (hA : LsAt w A l) :
    Calls Try.prog 44 #[.slice A m d] w (OpnR l A m d w) := by
  have hb0 := (Below.refl w.heap.size w).alloc (Nat.le_refl _) (.cells #[.slice none 0 0, .map none] 73)
  have o0 := ObjAt.new w #[.slice none 0 0, .map none] 73
  have s0 := hb0.size
  go_enter Try.func44, Try.ntmps44
  by_cases hbig : 128 < m
  · have e1 : decide ((128 : Int) < (m : Int)) = true := decide_eq_true (by omega)
    go_wp2_with fail
    refine bodyPost_ret (v := .tuple #[.agg #[.slice none 0 0, .map none], .int .i64 9]) (by have c0 := o0.a0; have c1 := o0.a1; simp [results, Try.results44, go_sem, c0, c1]) rfl ?_
    have hc : chkA l = 9 := by unfold chkA; rw [if_pos (by omega)]
    exact ⟨⟨.agg #[.slice none 0 0, .map none], 0, by rw [hc], (fun h => by rw [hc] at h; cases h), fun _ => rfl⟩, hb0⟩
  · have e1 : decide ((128 : Int) < (m : Int)) = false := decide_eq_false (by omega)
    have hc : chkA l = chkL l := by unfold chkA; rw [if_neg (by omega)]
    have cI := indices_any A m d l hm hs hok _ (hA.below hb0)
    go_wp2_with fail
    (with_reducible refine cI.mono ?_)
    rintro e w1 ⟨b, n, rfl, hb, hix, k1⟩
    have K1 := Lib.hid (hb0.trans (k1.mono s0))
    have SH := Lib.hid (show ShAt w1 A m d b l from ⟨hm, hs, hA.below K1.out, n, hix⟩)
    have O1 := Lib.hid (o0.below k1)
    have kn := (Below.refl w1.heap.size w1).alloc (Nat.le_refl _) (.cells #[.slice A m d, .map (some b)] 73)
    have on := ObjAt.new w1 #[.slice A m d, .map (some b)] 73
    have n0 := on.a0
    have n1 := on.a1
    have cC := checkS_any l hok hnm A m d b _ (SH.out.below kn)
    have HA := Lib.hid hA
    have hx : w.heap.size < b := by have := hb; rw [World.size_alloc] at this; omega
    have h1s := K1.out.size
    have HIX := Lib.hid hix
    have sn := kn.size
    clear cI k1 hix hb o0 hb0 hA s0
    go_wp2_with fail
    (with_reducible refine cC.mono ?_)
    rintro e w3 ⟨rfl, k3⟩
    have K3 := Lib.hid (K1.out.trans ((kn.trans (k3.mono sn)).mono h1s))
    have O3 := Lib.hid ((O1.out.below kn).below k3)
    have N3 := Lib.hid (on.below k3)
    have I3 := Lib.hid ((HIX.out.below HIX.out.lt kn).below (m := (w1.alloc (.cells #[.slice A m d, .map (some b)] 73)).heap.size) (Nat.lt_of_lt_of_le HIX.out.lt sn) k3)
    clear cC k3 kn on n0 n1
    have g0 := O3.out.a0
    have g1 := O3.out.a1
    have f0 := O3.out.frozen 0
    have f1 := O3.out.frozen 1
    have h3s := K3.out.size
    by_cases hz : chkL l = 0
    · have e2 : (chkL l != 0) = false := by simpa using hz
      have n0 := N3.out.a0
      have n1 := N3.out.a1
      have HZ := Lib.hid hz
      have O4 := Lib.hid ((O3.out.set 0 (.slice A m d)).set 1 (.map (some b)))
      have hne : w1.heap.size ≠ w.heap.size := by have := O1.out.lt; omega
      have K4 := Lib.hid (((K3.out.grown (grown_set w3 w.heap.size 0 (.slice A m d)) h3s (fun j e => by cases e; exact Nat.le_refl _)).grown (grown_set _ w.heap.size 1 (.map (some b))) (by simpa [World.setCell] using h3s) (fun j e => by cases e; exact Nat.le_refl _)))
      have I4 := Lib.hid ((I3.out.kept (grown_set w3 w.heap.size 0 (.slice A m d)) (by simp; omega)).kept (grown_set _ w.heap.size 1 (.map (some b))) (by simp; omega))
      clear hz
      go_wp2_with fail
      have O4' : ObjAt ((w3.setCell ⟨w.heap.size, 0, none⟩ (.slice A m d)).setCell ⟨w.heap.size, 1, none⟩ (.map (some b))) w.heap.size #[.slice A m d, .map (some b)] 73 := O4.out
      refine bodyPost_ret (v := .tuple #[.agg #[.slice A m d, .map (some b)], .int .i64 0]) (by have c0 := O4'.a0; have c1 := O4'.a1; simp [results, Try.results44, go_sem, c0, c1]) rfl ?_
      have hc0 : chkA l = 0 := by rw [hc]; exact HZ.out
      exact ⟨⟨.agg #[.slice A m d, .map (some b)], b, by rw [hc0], fun _ => ⟨rfl, hm, hs, HA.out.below K4.out, n, I4.out⟩, fun h => absurd hc0 h⟩, K4.out⟩
    · have e2 : (chkL l != 0) = true := by simpa using hz
      have HZ := Lib.hid hz
      clear hz
      go_wp2_with fail
      have O4' : ObjAt ((w3.setCell ⟨w.heap.size, 0, none⟩ (.slice none 0 0)).setCell ⟨w.heap.size, 1, none⟩ (.map none)) w.heap.size #[.slice none 0 0, .map none] 73 := (O3.out.set 0 (.slice none 0 0)).set 1 (.map none)
      have K4 := (K3.out.grown (grown_set w3 w.heap.size 0 (.slice none 0 0)) h3s (fun j e => by cases e; exact Nat.le_refl _)).grown (grown_set _ w.heap.size 1 (.map none)) (by simpa [World.setCell] using h3s) (fun j e => by cases e; exact Nat.le_refl _)
      refine bodyPost_ret (v := .tuple #[.agg #[.slice none 0 0, .map none], .int .i64 (chkL l)]) (by have c0 := O4'.a0; have c1 := O4'.a1; simp [results, Try.results44, go_sem, c0, c1]) rfl ?_
      exact ⟨⟨.agg #[.slice none 0 0, .map none], b, by rw [hc], (fun h => absurd (hc.symm.trans h) HZ.out), fun _ => rfl⟩, K4⟩
end Go.Proofs.Ytbkpokipibgdfaa

/- Layer 8: inherited (54). -/
namespace Go.Proofs.Ytbkpokipibgdfaa
open Go.RowKit Go.Lib Go.Maps
set_option linter.unusedVariables false

/-- The id of the style that an element names. -/
def idOf (kind : Int) (o : List Pr) : Int := valP o (if (kind == 2) = true then 1 else 20)
/-- What inherited hands back. -/
def InhR (l : List St) (kind : Int) (o : List Pr) (w : World) (e : Ending) (w' : World) : Prop :=
  if idOf kind o ≠ 0 ∧ hasB l kind (idOf kind o) = false then e = .returned (.tuple #[.slice none 0 0, .int .i64 25]) ∧ Below w.heap.size w w'
  else ∃ xs v, ChP l (plc l (idOf kind o)) xs ∧ nxt l (plc l (idOf kind o)) xs = none ∧ e = .returned (.tuple #[v, .int .i64 0]) ∧ w'.ownsRow w.heap.size 55 2 v (effP l xs).length (rowP (effP l xs)) ∧ Below w.heap.size w w'
set_option maxRecDepth 100000 in
set_option maxHeartbeats 8000000 in
theorem inherited_any (l : List St) (hok : LsOk l) (hps : PrsOk l) (A : Option Addr) (m d b N : Nat) (kind : Int) (o : List Pr) (hs : SortP o) (B : Option Addr) (n cb : Nat) (ho : o.length = n) (hn : n ≤ 1000) (hc : n ≤ cb ∧ cb ≤ maxLen)
    (hi : I64 (idOf kind o)) (hbd : Bnd l (plc l (idOf kind o)) N) (w : World) (h : ShAt w A m d b l) (hB : PrAt w B o) :
    Calls Try.prog 54 #[.agg #[.slice A m d, .map (some b)], .int .i64 kind, .slice B n cb] w (InhR l kind o w) := by
  have hb0 := (Below.refl w.heap.size w).alloc (Nat.le_refl _) (.cells #[.slice A m d, .map (some b)] 73)
  have o0 := ObjAt.new w #[.slice A m d, .map (some b)] 73
  have s0 := hb0.size
  have cV := value_any o hs B n cb ho hn hc (if (kind == 2) = true then 1 else 20) _ (hB.below hb0 (Nat.le_refl _))
  have cH := Lib.hid (fun w' (hb : Below w.heap.size w w') => has_any l A m d b kind (idOf kind o) hi w' (h.below hb))
  have cE := Lib.hid (fun w' (hb : Below w.heap.size w w') => effective_any l hok hps A m d b N (idOf kind o) hi hbd w' (h.below hb))
  clear h hB hbd hok hps hs ho
  rw [show valP o (if (kind == 2) = true then 1 else 20) = idOf kind o from rfl] at cV
  go_enter Try.func54, Try.ntmps54
  by_cases hk : (kind == 2) = true
  · rw [if_pos hk] at cV
    go_wp2_with fail
    (with_reducible refine cV.mono ?_)
    rintro e w1 ⟨rfl, k1⟩
    have K1 := Lib.hid (hb0.trans (k1.mono s0))
    have O1 := Lib.hid (o0.below k1)
    clear cV k1 o0 hb0
    have p0 := O1.out.a0
    have p1 := O1.out.a1
    have hs1 := K1.out.size
    by_cases hz : idOf kind o = 0
    · have e1 : (idOf kind o != 0) = false := by simpa using hz
      have ce := cE.out w1 K1.out
      have HZ := Lib.hid hz
      clear hz
      go_wp2_with fail
      (with_reducible refine ce.mono ?_)
      rintro e w2 ⟨xs, q1, q2, v, rfl, hr, k2⟩
      clear ce
      go_wp2
      go_ret2
      unfold InhR
      rw [if_neg (fun h => h.1 HZ.out)]
      exact ⟨xs, v, q1, q2, rfl, own_lower hr hs1, K1.out.trans (k2.mono hs1)⟩
    · have e1 : (idOf kind o != 0) = true := by simpa using hz
      have ch := cH.out w1 K1.out
      have HZ := Lib.hid hz
      clear hz
      cases hh : hasB l kind (idOf kind o) with
      | false =>
        rw [hh] at ch
        go_wp2_with fail
        (with_reducible refine ch.mono ?_)
        rintro e w2 ⟨rfl, k2⟩
        clear ch
        go_wp2
        go_ret2
        unfold InhR
        rw [if_pos ⟨HZ.out, hh⟩]
        exact ⟨rfl, K1.out.trans (k2.mono hs1)⟩
      | true =>
        rw [hh] at ch
        go_wp2_with fail
        (with_reducible refine ch.mono ?_)
        rintro e w2 ⟨rfl, k2⟩
        have K2 := Lib.hid (K1.out.trans (k2.mono hs1))
        have O2 := Lib.hid (O1.out.below k2)
        clear ch k2 p0 p1
        have p0 := O2.out.a0
        have p1 := O2.out.a1
        have hs2 := K2.out.size
        have ce := cE.out w2 K2.out
        go_wp2_with fail
        (with_reducible refine ce.mono ?_)
        rintro e w3 ⟨xs, q1, q2, v, rfl, hr, k3⟩
        clear ce
        go_wp2
        go_ret2
        unfold InhR
        rw [if_neg (fun h => by rw [hh] at h; cases h.2)]
        exact ⟨xs, v, q1, q2, rfl, own_lower hr hs2, K2.out.trans (k3.mono hs2)⟩
  · rw [if_neg hk] at cV
    have hk' : (kind == 2) = false := by simpa using hk
    go_wp2_with fail
    (with_reducible refine cV.mono ?_)
    rintro e w1 ⟨rfl, k1⟩
    have K1 := Lib.hid (hb0.trans (k1.mono s0))
    have O1 := Lib.hid (o0.below k1)
    clear cV k1 o0 hb0
    have p0 := O1.out.a0
    have p1 := O1.out.a1
    have hs1 := K1.out.size
    by_cases hz : idOf kind o = 0
    · have e1 : (idOf kind o != 0) = false := by simpa using hz
      have ce := cE.out w1 K1.out
      have HZ := Lib.hid hz
      clear hz
      go_wp2_with fail
      (with_reducible refine ce.mono ?_)
      rintro e w2 ⟨xs, q1, q2, v, rfl, hr, k2⟩
      clear ce
      go_wp2
      go_ret2
      unfold InhR
      rw [if_neg (fun h => h.1 HZ.out)]
      exact ⟨xs, v, q1, q2, rfl, own_lower hr hs1, K1.out.trans (k2.mono hs1)⟩
    · have e1 : (idOf kind o != 0) = true := by simpa using hz
      have ch := cH.out w1 K1.out
      have HZ := Lib.hid hz
      clear hz
      cases hh : hasB l kind (idOf kind o) with
      | false =>
        rw [hh] at ch
        go_wp2_with fail
        (with_reducible refine ch.mono ?_)
        rintro e w2 ⟨rfl, k2⟩
        clear ch
        go_wp2
        go_ret2
        unfold InhR
        rw [if_pos ⟨HZ.out, hh⟩]
        exact ⟨rfl, K1.out.trans (k2.mono hs1)⟩
      | true =>
        rw [hh] at ch
        go_wp2_with fail
        (with_reducible refine ch.mono ?_)
        rintro e w2 ⟨rfl, k2⟩
        have K2 := Lib.hid (K1.out.trans (k2.mono hs1))
        have O2 := Lib.hid (O1.out.below k2)
        clear ch k2 p0 p1
        have p0 := O2.out.a0
        have p1 := O2.out.a1
        have hs2 := K2.out.size
        have ce := cE.out w2 K2.out
        go_wp2_with fail
        (with_reducible refine ce.mono ?_)
        rintro e w3 ⟨xs, q1, q2, v, rfl, hr, k3⟩
        clear ce
        go_wp2
        go_ret2
        unfold InhR
        rw [if_neg (fun h => by rw [hh] at h; cases h.2)]
        exact ⟨xs, v, q1, q2, rfl, own_lower hr hs2, K2.out.trans (k3.mono hs2)⟩
end Go.Proofs.Ytbkpokipibgdfaa

/- Layer 8: the properties of other groups (76, 91). -/
namespace Go.Proofs.Ytbkpokipibgdfaa
open Go.RowKit Go.Lib
set_option linter.unusedVariables false

def isOt (gr : Int) (y : Pr) : Bool := (rowZ y.1).2.2.1 != gr
theorem group_anyB (p : Int) (w : World) : Calls Try.prog 77 #[.int .i64 p] w fun e w' => (∃ e0, e = .returned (.tuple #[.int .i64 (rowZ p).2.2.1, .int .i64 e0])) ∧ Below w.heap.size w w' := by
  by_cases h : ∃ r ∈ tabP, r.1 = p
  · refine (group_yes p h w).mono ?_
    rintro e w' ⟨⟨r, hr, rfl, rfl⟩, hb⟩
    refine ⟨⟨0, ?_⟩, hb⟩
    unfold rowZ
    rw [rowOf_mem hr]
    rfl
  · refine (group_no p h w).mono ?_
    rintro e w' ⟨rfl, hb⟩
    refine ⟨⟨4, ?_⟩, hb⟩
    unfold rowZ
    rw [rowOf_none h]
    rfl
set_option maxRecDepth 100000 in
set_option maxHeartbeats 8000000 in
theorem isot_any (a b gr : Int) (bg : Nat) (w : World) (hgr : w.cell? ⟨bg, 0, none⟩ = some (.int .i64 gr)) : Calls Try.prog 76 #[.agg #[.int .i64 a, .int .i64 b], .pointer (some ⟨bg, 0, none⟩)] w fun e w' => e = .returned (.bool (isOt gr (a, b))) ∧ Below w.heap.size w w' := by
  have hbg : bg < w.heap.size := World.block_lt_of_cell? w ⟨bg, 0, none⟩ hgr
  have hb0 := (Below.refl w.heap.size w).alloc (Nat.le_refl _) (.cells #[.int .i64 a, .int .i64 b] 55)
  have s0 := hb0.size
  have cG := group_anyB a (w.alloc (.cells #[.int .i64 a, .int .i64 b] 55))
  have GB := Lib.hid (fun w' (hb : Below w.heap.size w w') => (hb.cell (p := ⟨bg, 0, none⟩) hbg).trans hgr)
  unfold isOt
  dsimp only
  clear hgr
  generalize (rowZ a).2.2.1 = z at *
  go_enter Try.func76, Try.ntmps76
  go_wp2_with fail
  (with_reducible refine cG.mono ?_)
  rintro e w1 ⟨⟨e0, rfl⟩, k1⟩
  have K1 := Lib.hid (hb0.trans (k1.mono s0))
  have g1 := GB.out w1 K1.out
  clear cG k1 hb0
  go_wp2
  go_ret
  exact ⟨rfl, K1.out⟩
/-- What the search hands back. -/
def OtR (gr : Int) (l : List Pr) (e : Ending) : Prop := (∃ (k : Nat) (h : k < l.length), e = .returned (.int .i64 (k : Nat)) ∧ isOt gr l[k] = true ∧ ∀ j (h : j < l.length), j < k → isOt gr l[j] = false) ∨ (e = .returned (.int .i64 (-1)) ∧ ∀ j (h : j < l.length), isOt gr l[j] = false)
set_option maxRecDepth 100000 in
set_option maxHeartbeats 8000000 in
theorem indexot_any (l : List Pr) (n : Nat) (hn : l.length = n) (A : Option Addr) (c : Nat) (hc : n ≤ c ∧ c ≤ maxLen) (gr : Int) (bg : Nat) (w : World) (hA : PrAt w A l) (hgr : w.cell? ⟨bg, 0, none⟩ = some (.int .i64 gr)) :
    Calls Try.prog 91 #[.slice A n c, .func (.func 76) #[] #[.pointer (some ⟨bg, 0, none⟩)]] w fun e w' => OtR gr l e ∧ Below w.heap.size w w' := by
  have HN := Lib.hid hn
  have HA := Lib.hid hA
  have hbg : bg < w.heap.size := World.block_lt_of_cell? w ⟨bg, 0, none⟩ hgr
  have CB := Lib.hid (fun a b w' (hb : Below w.heap.size w w') => isot_any a b gr bg w' ((hb.cell (p := ⟨bg, 0, none⟩) hbg).trans hgr))
  have hm : n ≤ maxLen := Nat.le_trans hc.1 hc.2
  unfold maxLen at hm
  clear hn hA hgr
  go_enter Try.func91, Try.ntmps91
  go_wp2_with fail
  go_loopw [5, 8] (fun _ s8 wr => ∃ k : Nat, k ≤ n ∧ s8 = .int .i64 (k : Nat) ∧ Hid (∀ j (h : j < l.length), j < k → isOt gr l[j] = false) ∧ Hid (Below w.heap.size w wr)) (fun _ s8 _ => n - (intOf s8).toNat)
  case atStart => exact ⟨0, Nat.zero_le _, rfl, Lib.hid (fun j _ h => absurd h (Nat.not_lt_zero _)), Lib.hid (Below.refl _ _)⟩
  case round =>
    obtain ⟨k, hk, rfl, HM, HB⟩ := hrel
    by_cases hlt : k < n
    · have hkl : k < l.length := by rw [HN.out]; exact hlt
      rcases HA.out with hA0 | ⟨g, o, rfl, hg, hcl⟩
      · rw [hA0] at hkl; exact absurd hkl (Nat.not_lt_zero _)
      obtain ⟨z0, z1⟩ := hcl k hkl
      replace z0 := (HB.out.cell (p := ⟨g, o + k * 2, none⟩) hg).trans z0
      replace z1 := (HB.out.cell (p := ⟨g, o + k * 2 + 1, none⟩) hg).trans z1
      have HY := Lib.hid (fun (h : isOt gr l[k] = true) => (.inl ⟨k, hkl, rfl, h, HM.out⟩ : OtR gr l (.returned (.int .i64 (k : Nat)))))
      have HX := Lib.hid (fun (h : isOt gr l[k] = false) => show ∀ j (h : j < l.length), j < k + 1 → isOt gr l[j] = false from fun j hj hl => if e : j = k then by subst e; exact h else HM.out j hj (by omega))
      have hs := HB.out.size
      clear hcl
      generalize l[k] = x at z0 z1 HY HX
      obtain ⟨a, b⟩ := x
      dsimp only at z0 z1 HY HX
      have cb := CB.out a b wr HB.out
      by_cases hv : isOt gr (a, b) = true
      · have HE := Lib.hid (HY.out hv)
        rw [hv] at cb
        clear HY HX hv
        go_wp2_with fail
        (with_reducible refine cb.mono ?_)
        rintro e w7 ⟨rfl, k7⟩
        have K7 := Go.Lib.hid (HB.out.trans (k7.mono hs))
        clear cb k7
        go_wp2
        go_ret
        exact ⟨HE.out, K7.out⟩
      · have hv' : isOt gr (a, b) = false := by simpa using hv
        rw [hv'] at cb
        have HE := Lib.hid (HX.out hv')
        clear HY HX hv hv'
        go_wp2_with fail
        (with_reducible refine cb.mono ?_)
        rintro e w7 ⟨rfl, k7⟩
        have K7 := Go.Lib.hid (HB.out.trans (k7.mono hs))
        clear cb k7 z0 z1
        go_wp2
        go_roundw
        case rel => exact ⟨k + 1, by omega, by go_num, HE, K7⟩
        case measure => simp [intOf]; omega
    · obtain rfl : k = n := by omega
      have HE := Lib.hid (show OtR gr l (.returned (.int .i64 (-1))) from .inr ⟨rfl, fun j h => HM.out j h (by rw [← HN.out]; exact h)⟩)
      go_wp2
      go_ret
      exact ⟨HE.out, HB.out⟩
end Go.Proofs.Ytbkpokipibgdfaa

/- Layer 8: Check (15), openAt (50). -/
namespace Go.Proofs.Ytbkpokipibgdfaa
open Go.RowKit Go.Lib Go.Maps
set_option linter.unusedVariables false

set_option maxRecDepth 100000 in
set_option maxHeartbeats 8000000 in
theorem Check_any (l : List St) (hok : LsOk l) (hnm : NmsOk l) (A : Option Addr) (m d : Nat) (hm : l.length = m) (hs : m ≤ 1000) (w : World) (hA : LsAt w A l) :
    Calls Try.prog 15 #[.slice A m d] w fun e w' => e = .returned (.int .i64 (chkA l)) ∧ Below w.heap.size w w' := by
  have cO := open_any l hok hnm A m d hm hs w hA
  clear hA hok hnm
  go_enter Try.func15, Try.ntmps15
  go_wp2_with fail
  (with_reducible refine cO.mono ?_)
  rintro e w1 ⟨⟨v, b, rfl, h1, h2⟩, k1⟩
  have K1 := Lib.hid k1
  by_cases hz : chkA l = 0
  · obtain ⟨rfl, _⟩ := h1 hz
    have B1 := Lib.hid (K1.out.alloc K1.out.size (.cells #[.slice A m d, .map (some b)] 73))
    clear cO h1 h2 k1 hz
    go_wp2
    go_ret
    exact ⟨rfl, B1.out⟩
  · have hv := h2 hz
    subst hv
    have B1 := Lib.hid (K1.out.alloc K1.out.size (.cells #[.slice none 0 0, .map none] 73))
    clear cO h1 h2 k1 hz
    go_wp2
    go_ret
    exact ⟨rfl, B1.out⟩
theorem ix_ne {w : World} {b n : Nat} {f : Int → Option Int} (h : IxAt w b n f) {g : Nat} {cs : Array Value} {t : TypeId} (hg : ObjAt w g cs t) : b ≠ g := by
  obtain ⟨D, ⟨es, clock, h1, h2⟩, hf⟩ := h
  intro e
  have hg' : w.heap[g]? = some (.cells cs t (0, 0)) := hg
  rw [e, hg'] at h1; cases h1
/-- Two stores into a box of one's own. -/
theorem two_set {w U : World} {u v : Value} {b : Nat} (hb : w.heap.size ≤ b) (h : Below w.heap.size w U) : Below w.heap.size w ((U.setCell ⟨b, 0, none⟩ u).setCell ⟨b, 1, none⟩ v) :=
  (h.grown (grown_set U b 0 u) h.size (fun j e => by cases e; exact hb)).grown (grown_set _ b 1 v) (by simpa [World.setCell] using h.size) (fun j e => by cases e; exact hb)
/-- The error of a list that must have a style with an id. -/
noncomputable def chkI (l : List St) (i : Int) : Int := if chkA l ≠ 0 then chkA l else if plc l i = none then 8 else 0
/-- What openAt hands back. -/
def OpaR (l : List St) (i : Int) (A : Option Addr) (m d : Nat) (w : World) (e : Ending) (w' : World) : Prop :=
  ((chkI l i ≠ 0 ∧ e = .returned (.tuple #[.agg #[.slice none 0 0, .map none], .int .i64 0, .int .i64 (chkI l i)])) ∨
    ∃ b k, chkI l i = 0 ∧ plc l i = some k ∧ e = .returned (.tuple #[shV A m d b, .int .i64 (k : Nat), .int .i64 0]) ∧ ShAt w' A m d b l) ∧ Below w.heap.size w w'
set_option maxRecDepth 100000 in
set_option maxHeartbeats 8000000 in
theorem openat_any (l : List St) (hok : LsOk l) (hnm : NmsOk l) (A : Option Addr) (m d : Nat) (hm : l.length = m) (hs : m ≤ 1000) (i : Int) (hi : I64 i) (w : World) (hA : LsAt w A l) :
    Calls Try.prog 50 #[.slice A m d, .int .i64 i] w (OpaR l i A m d w) := by
  have hb0 := (Below.refl w.heap.size w).alloc (Nat.le_refl _) (.cells #[.slice none 0 0, .map none] 73)
  have o0 := ObjAt.new w #[.slice none 0 0, .map none] 73
  have s0 := hb0.size
  have cO := open_any l hok hnm A m d hm hs _ (hA.below hb0)
  have HA := Lib.hid hA
  clear hA hok hnm
  go_enter Try.func50, Try.ntmps50
  go_wp2_with fail
  (with_reducible refine cO.mono ?_)
  rintro e w1 ⟨⟨v, b, rfl, h1, h2⟩, k1⟩
  have K1 := Lib.hid (hb0.trans (k1.mono s0))
  have O1 := Lib.hid (o0.below k1)
  have hs1 := K1.out.size
  by_cases hz : chkA l = 0
  · obtain ⟨rfl, hsh⟩ := h1 hz
    have e1 : (chkA l != 0) = false := by simpa using hz
    have kn := (Below.refl w1.heap.size w1).alloc (Nat.le_refl _) (.cells #[.slice A m d, .map (some b)] 73)
    have HSH := Lib.hid (hsh.below kn)
    have hlk := HSH.out.look hi
    have B1 := Lib.hid (K1.out.alloc hs1 (.cells #[.slice A m d, .map (some b)] 73))
    have O2 := Lib.hid (O1.out.alloc (.cells #[.slice A m d, .map (some b)] 73))
    have N2 := Lib.hid (ObjAt.new w1 #[.slice A m d, .map (some b)] 73)
    have HZ := Lib.hid hz
    clear cO h1 h2 k1 hz hsh kn hb0 o0
    have g0 := O2.out.a0
    have g1 := O2.out.a1
    have f0 := O2.out.frozen 0
    have f1 := O2.out.frozen 1
    cases hp : plc l i with
    | none =>
      have HP := Lib.hid hp
      rw [hp] at hlk
      dsimp only [Option.map_none, Option.getD_none, Option.isSome_none] at hlk
      have hc : chkI l i = 8 := by unfold chkI; rw [if_neg (by simp [HZ.out]), if_pos hp]
      clear hp
      go_wp2_with fail
      have O4' : ObjAt (((w1.alloc (.cells #[.slice A m d, .map (some b)] 73)).setCell ⟨w.heap.size, 0, none⟩ (.slice none 0 0)).setCell ⟨w.heap.size, 1, none⟩ (.map none)) w.heap.size #[.slice none 0 0, .map none] 73 := (O2.out.set 0 (.slice none 0 0)).set 1 (.map none)
      refine bodyPost_ret (v := .tuple #[.agg #[.slice none 0 0, .map none], .int .i64 0, .int .i64 8]) (by have c0 := O4'.a0; have c1 := O4'.a1; simp [results, Try.results50, go_sem, c0, c1]) rfl ?_
      exact ⟨.inl ⟨by rw [hc]; decide, by rw [hc]⟩, two_set (Nat.le_refl _) B1.out⟩
    | some k =>
      rw [hp] at hlk
      dsimp only [Option.map_some, Option.getD_some, Option.isSome_some] at hlk
      have hc : chkI l i = 0 := by unfold chkI; rw [if_neg (by simp [HZ.out]), if_neg (by rw [hp]; simp)]
      go_wp2_with fail
      have O4' : ObjAt (((w1.alloc (.cells #[.slice A m d, .map (some b)] 73)).setCell ⟨w.heap.size, 0, none⟩ (.slice A m d)).setCell ⟨w.heap.size, 1, none⟩ (.map (some b))) w.heap.size #[.slice A m d, .map (some b)] 73 := (O2.out.set 0 (.slice A m d)).set 1 (.map (some b))
      refine bodyPost_ret (v := .tuple #[.agg #[.slice A m d, .map (some b)], .int .i64 (k : Nat), .int .i64 0]) (by have c0 := O4'.a0; have c1 := O4'.a1; simp [results, Try.results50, go_sem, c0, c1]) rfl ?_
      obtain ⟨n, hn⟩ := HSH.out.idx
      have hne := ix_ne hn O2.out
      have K4 := two_set (u := .slice A m d) (v := .map (some b)) (Nat.le_refl _) B1.out
      exact ⟨.inr ⟨b, k, hc, hp, rfl, hm, hs, HA.out.below K4, n, (hn.kept (grown_set _ w.heap.size 0 (.slice A m d)) (by simp; omega)).kept (grown_set _ w.heap.size 1 (.map (some b))) (by simp; omega)⟩, K4⟩
  · have hv := h2 hz
    subst hv
    have e1 : (chkA l != 0) = true := by simpa using hz
    have hc : chkI l i = chkA l := by unfold chkI; rw [if_pos hz]
    have HZ := Lib.hid hz
    have B1 := Lib.hid (K1.out.alloc hs1 (.cells #[.slice none 0 0, .map none] 73))
    have O2 := Lib.hid (O1.out.alloc (.cells #[.slice none 0 0, .map none] 73))
    clear cO h1 h2 k1 hz hb0 o0
    have g0 := O2.out.a0
    have g1 := O2.out.a1
    have f0 := O2.out.frozen 0
    have f1 := O2.out.frozen 1
    go_wp2_with fail
    have O4' : ObjAt (((w1.alloc (.cells #[.slice none 0 0, .map none] 73)).setCell ⟨w.heap.size, 0, none⟩ (.slice none 0 0)).setCell ⟨w.heap.size, 1, none⟩ (.map none)) w.heap.size #[.slice none 0 0, .map none] 73 := (O2.out.set 0 (.slice none 0 0)).set 1 (.map none)
    refine bodyPost_ret (v := .tuple #[.agg #[.slice none 0 0, .map none], .int .i64 0, .int .i64 (chkA l)]) (by have c0 := O4'.a0; have c1 := O4'.a1; simp [results, Try.results50, go_sem, c0, c1]) rfl ?_
    exact ⟨.inl ⟨by rw [hc]; exact HZ.out, by rw [hc]⟩, two_set (Nat.le_refl _) B1.out⟩
end Go.Proofs.Ytbkpokipibgdfaa

/- Layer 8: Follow (25). -/
namespace Go.Proofs.Ytbkpokipibgdfaa
open Go.RowKit Go.Lib Go.Maps
set_option linter.unusedVariables false

/-- What Follow says. -/
noncomputable def folV (l : List St) (i : Int) : Int × Int := if chkI l i ≠ 0 then (0, chkI l i) else
  match plc l i with
  | none => (0, 0)
  | some k => if (l.getD k default).kind = 2 then (0, 3) else if (l.getD k default).next = 0 then (i, 0) else ((l.getD k default).next, 0)
set_option maxRecDepth 100000 in
set_option maxHeartbeats 8000000 in
theorem follow_any (l : List St) (hok : LsOk l) (hnm : NmsOk l) (A : Option Addr) (m d : Nat) (hm : l.length = m) (hs : m ≤ 1000) (i : Int) (hi : I64 i) (w : World) (hA : LsAt w A l) :
    Calls Try.prog 25 #[.slice A m d, .int .i64 i] w fun e w' => e = .returned (.tuple #[.int .i64 (folV l i).1, .int .i64 (folV l i).2]) ∧ Below w.heap.size w w' := by
  have cO := openat_any l hok hnm A m d hm hs i hi w hA
  have HA := Lib.hid hA
  clear hA hok hnm
  go_enter Try.func25, Try.ntmps25
  go_wp2_with fail
  (with_reducible refine cO.mono ?_)
  rintro e w1 ⟨(⟨hz, rfl⟩ | ⟨b, k, hz, hp, rfl, hsh⟩), k1⟩
  · have e1 : (chkI l i != 0) = true := by simpa using hz
    have B1 := Lib.hid (k1.alloc k1.size (.cells #[.slice none 0 0, .map none] 73))
    have HZ := Lib.hid hz
    have HV := Lib.hid (show folV l i = (0, chkI l i) from by unfold folV; rw [if_pos hz])
    clear cO hz k1
    go_wp2
    go_ret2
    exact ⟨by rw [HV.out]; rfl, B1.out⟩
  · have B1 := Lib.hid (k1.alloc k1.size (.cells #[.slice A m d, .map (some b)] 73))
    obtain ⟨hk, _⟩ := plc_lt hp
    obtain ⟨g, o, rfl, hg, hcl⟩ := HA.out.pos (by omega)
    obtain ⟨B, c, z0, z1, z2, z3, z4, _⟩ := hcl k hk
    replace z1 := (B1.out.cell (p := ⟨g, o + k * 6 + 1, none⟩) hg).trans z1
    replace z4 := (B1.out.cell (p := ⟨g, o + k * 6 + 4, none⟩) hg).trans z4
    have f0 : (0 : Int) ≤ (k : Int) := by omega
    have f1 : (k : Int) < (m : Int) := by omega
    have hgd : l.getD k default = l[k] := by rw [List.getD_eq_getElem?_getD, List.getElem?_eq_getElem hk]; rfl
    have hv : folV l i = if l[k].kind = 2 then (0, 3) else if l[k].next = 0 then (i, 0) else (l[k].next, 0) := by
      unfold folV
      rw [if_neg (by simp [hz]), hp]
      dsimp only
      rw [hgd]
    clear cO hz k1 hp hsh hcl z0 z2 z3 hgd
    generalize l[k].kind = kd at z1 hv
    generalize l[k].next = nx at z4 hv
    by_cases h2 : kd = 2
    · have e2 : (kd == 2) = true := by simpa using h2
      rw [if_pos h2] at hv
      have HV := Lib.hid hv
      clear h2 hv
      go_wp2
      go_ret2
      exact ⟨by rw [HV.out]; rfl, B1.out⟩
    · have e2 : (kd == 2) = false := by simpa using h2
      rw [if_neg h2] at hv
      by_cases h3 : nx = 0
      · have e3 : (nx == 0) = true := by simpa using h3
        rw [if_pos h3] at hv
        have HV := Lib.hid hv
        clear h2 h3 hv
        go_wp2
        go_ret2
        exact ⟨by rw [HV.out]; rfl, B1.out⟩
      · have e3 : (nx == 0) = false := by simpa using h3
        rw [if_neg h3] at hv
        have HV := Lib.hid hv
        clear h2 h3 hv
        go_wp2
        go_ret2
        exact ⟨by rw [HV.out]; rfl, B1.out⟩
end Go.Proofs.Ytbkpokipibgdfaa

/- Layer 8: Effective (27). -/
namespace Go.Proofs.Ytbkpokipibgdfaa
open Go.RowKit Go.Lib Go.Maps
set_option linter.unusedVariables false

/-- What Effective hands back. -/
def EfcR (l : List St) (i : Int) (w : World) (e : Ending) (w' : World) : Prop :=
  ((chkI l i ≠ 0 ∧ e = .returned (.tuple #[.slice none 0 0, .int .i64 (chkI l i)])) ∨
    (chkI l i = 0 ∧ ∃ xs v, ChP l (plc l i) xs ∧ nxt l (plc l i) xs = none ∧ e = .returned (.tuple #[v, .int .i64 0]) ∧ w'.ownsRow w.heap.size 55 2 v (effP l xs).length (rowP (effP l xs)))) ∧ Below w.heap.size w w'
set_option maxRecDepth 100000 in
set_option maxHeartbeats 8000000 in
theorem Effective_any (l : List St) (hok : LsOk l) (hnm : NmsOk l) (hps : PrsOk l) (A : Option Addr) (m d N : Nat) (hm : l.length = m) (hs : m ≤ 1000) (i : Int) (hi : I64 i) (hbd : chkI l i = 0 → Bnd l (plc l i) N) (w : World) (hA : LsAt w A l) :
    Calls Try.prog 27 #[.slice A m d, .int .i64 i] w (EfcR l i w) := by
  have cO := openat_any l hok hnm A m d hm hs i hi w hA
  have CE := Lib.hid (fun b (hb : Bnd l (plc l i) N) w' (h : ShAt w' A m d b l) => effective_any l hok hps A m d b N i hi hb w' h)
  have HBD := Lib.hid hbd
  clear hA hok hnm hps hbd
  go_enter Try.func27, Try.ntmps27
  go_wp2_with fail
  (with_reducible refine cO.mono ?_)
  rintro e w1 ⟨(⟨hz, rfl⟩ | ⟨b, k, hz, hp, rfl, hsh⟩), k1⟩
  · have e1 : (chkI l i != 0) = true := by simpa using hz
    have B1 := Lib.hid (k1.alloc k1.size (.cells #[.slice none 0 0, .map none] 73))
    have HZ := Lib.hid hz
    clear cO hz k1
    go_wp2
    go_ret2
    exact ⟨.inl ⟨HZ.out, rfl⟩, B1.out⟩
  · have B1 := Lib.hid (k1.alloc k1.size (.cells #[.slice A m d, .map (some b)] 73))
    have hb1 := HBD.out hz
    have kn := (Below.refl w1.heap.size w1).alloc (Nat.le_refl _) (.cells #[.slice A m d, .map (some b)] 73)
    have on := ObjAt.new w1 #[.slice A m d, .map (some b)] 73
    have ce := CE.out b hb1 _ (hsh.below kn)
    have p0 := on.a0
    have p1 := on.a1
    have s1 := B1.out.size
    have HZ := Lib.hid hz
    have e1 : (chkI l i != 0) = false := by simp [hz]
    clear cO hz k1 hp hsh hb1
    go_wp2_with fail
    (with_reducible refine ce.mono ?_)
    rintro e w2 ⟨xs, q1, q2, v, rfl, hr, k2⟩
    clear ce
    go_wp2
    go_ret2
    exact ⟨.inr ⟨HZ.out, xs, v, q1, q2, rfl, own_lower hr s1⟩, B1.out.trans (k2.mono s1)⟩
end Go.Proofs.Ytbkpokipibgdfaa
