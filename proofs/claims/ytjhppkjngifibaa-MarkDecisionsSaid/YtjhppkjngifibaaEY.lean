/- Layer 23: CheckDecision, unite. -/
import Derived.Test.YtjhppkjngifibaaEX
import Derived.Test.YtjhppkjngifibaaEF
import Derived.Test.YtjhppkjngifibaaEN
namespace Go.Proofs.Ytjhppkjngifibaa
open Go.RowKit Go.Lib
set_option linter.unusedVariables false

/-- The error of a decision. -/
def ckD (la lr : List Int) : Int := if ckR la ≠ 0 then ckR la else if ckR lr ≠ 0 then ckR lr else if la.any (fun x => decide (x ∈ lr)) then 23 else 0
theorem ckD_iff (la lr : List Int) : ckD la lr = 0 ↔ RevL la ∧ RevL lr ∧ ∀ x ∈ la, x ∉ lr := by
  unfold ckD
  rw [← ckR_iff, ← ckR_iff]
  by_cases h1 : ckR la = 0
  · by_cases h2 : ckR lr = 0
    · simp [h1, h2]
    · simp [h1, h2]
  · simp [h1]
set_option maxRecDepth 100000 in
set_option maxHeartbeats 8000000 in
theorem checkdec_any (la lr : List Int) (na nr : Nat) (hla : la.length = na) (hlr : lr.length = nr) (hna : na ≤ 1000) (hnr : nr ≤ 1000) (A B : Option Addr) (ca cb : Nat) (w : World) (hA : NsAt w A la) (hB : NsAt w B lr) :
    Calls Try.prog 44 #[.agg #[.slice A na ca, .slice B nr cb]] w fun e w' => e = .returned (.int .i64 (ckD la lr)) ∧ Below w.heap.size w w' := by
  have c1 := fun W (hb : Below w.heap.size w W) => checkrevs_any la na hla (by omega) A ca W (hA.below hb (Nat.le_refl _))
  have c2 := fun W (hb : Below w.heap.size w W) => checkrevs_any lr nr hlr (by omega) B cb W (hB.below hb (Nat.le_refl _))
  have X0 := ObjAt.new w #[.slice A na ca, .slice B nr cb] 31
  have b0 := (Below.refl w.heap.size w).alloc (Nat.le_refl _) (.cells #[.slice A na ca, .slice B nr cb] 31)
  by_cases h1 : ckR la = 0
  case neg =>
    have HE := Lib.hid (show ckD la lr = ckR la from if_pos h1)
    have e1 : (ckR la != 0) = true := by simpa using h1
    clear h1
    generalize ckR la = z1 at c1 HE e1
    have b0' := Lib.hid b0
    go_enter Try.func44, Try.ntmps44
    go_wp2_with (go_at_call 76; (with_reducible refine (c1 _ b0'.out).mono ?_); rintro e w1 ⟨rfl, k1⟩)
    go_ret
    exact ⟨by rw [HE.out]; rfl, b0'.out.trans (k1.mono (by simp))⟩
  by_cases h2 : ckR lr = 0
  case neg =>
    have HE := Lib.hid (show ckD la lr = ckR lr from (if_neg (by simp [h1])).trans (if_pos h2))
    have e2 : (ckR lr != 0) = true := by simpa using h2
    rw [h1] at c1
    clear h1 h2
    generalize ckR lr = z1 at c2 HE e2
    have b0' := Lib.hid b0
    have X := Lib.hid X0
    clear X0 b0
    go_enter Try.func44, Try.ntmps44
    go_wp2_with fail
    (with_reducible refine (c1 _ b0'.out).mono ?_)
    rintro e w1 ⟨rfl, k1⟩
    have x1 := (X.out.below k1).get (k := 1) (v := .slice B nr cb) rfl
    have K1 := Lib.hid (b0'.out.trans (k1.mono (by simp)))
    go_wp2_with (go_at_call 76; (with_reducible refine (c2 _ K1.out).mono ?_); rintro e w2 ⟨rfl, k2⟩)
    go_ret
    exact ⟨by rw [HE.out]; rfl, K1.out.trans (k2.mono K1.out.size)⟩
  have hsr := ((ckR_iff lr).1 h2).2
  have HE := Lib.hid (show ckD la lr = if la.any (fun x => decide (x ∈ lr)) then 23 else 0 from (if_neg (by simp [h1])).trans (if_neg (by simp [h2])))
  rw [h1] at c1
  rw [h2] at c2
  have cF := Lib.hid (fun W v (hb : Below w.heap.size w W) (h : W.cell? ⟨v, 0, none⟩ = some (.slice B nr cb)) => contfI_any la na hla (by omega) A ca 78 #[.pointer (some ⟨v, 0, none⟩)] (fun x => decide (x ∈ lr)) W (hA.below hb (Nat.le_refl _)) (test_isin lr nr hlr hsr hnr B cb v W (hB.below hb (Nat.le_refl _)) h))
  generalize la.any (fun x => decide (x ∈ lr)) = q at HE cF
  have b0' := Lib.hid b0
  have X := Lib.hid X0
  clear X0 b0 h1 h2 hsr hA hB hla hlr
  go_enter Try.func44, Try.ntmps44
  go_wp2_with fail
  (with_reducible refine (c1 _ b0'.out).mono ?_)
  rintro e w1 ⟨rfl, k1⟩
  have x1 := (X.out.below k1).get (k := 1) (v := .slice B nr cb) rfl
  have K1 := Lib.hid (b0'.out.trans (k1.mono (by simp)))
  have X1 := Lib.hid (X.out.below k1)
  go_wp2_with fail
  (with_reducible refine (c2 _ K1.out).mono ?_)
  rintro e w2 ⟨rfl, k2⟩
  have K2 := Lib.hid (K1.out.trans (k2.mono K1.out.size))
  have X2 := Lib.hid (X1.out.below k2)
  clear x1 X1 X k1 k2 K1 b0' c1 c2
  have y0 := X2.out.get (k := 0) (v := .slice A na ca) rfl
  have y1 := X2.out.get (k := 1) (v := .slice B nr cb) rfl
  have BA := (Below.refl w2.heap.size w2).drew.alloc (Nat.le_refl _) (.cells #[.slice B nr cb] 29)
  have K3 := Lib.hid (K2.out.trans (BA.mono K2.out.size))
  have n0 := (X2.out.below BA).get (k := 0) (v := .slice A na ca) rfl
  have n1 := ((X2.out.alloc (.cells #[.slice B nr cb] 29)).drew).get (k := 0) (v := .slice A na ca) rfl
  have N1 := ObjAt.new w2.drew #[.slice B nr cb] 29
  have cQ := cF.out _ w2.drew.heap.size K3.out (N1.get (k := 0) (v := .slice B nr cb) rfl)
  have s2 := K2.out.size
  clear cF N1 BA
  go_upto_region 7 with fail
  cases q with
  | true =>
    go_region_with (first
      | (go_at_call 47; (with_reducible refine (isin47_any _ _ _ _).mono ?_); rintro e w5 ⟨rfl, rfl⟩)
      | (go_at_call 77; refine cQ.mono ?_; rintro e w6 ⟨rfl, k6⟩; have K6 := Lib.hid (K3.out.trans (k6.mono K3.out.size)))
      | fail)
    all_goals
      go_wp2
      go_ret
      exact ⟨by rw [HE.out]; rfl, K6.out⟩
  | false =>
    go_region_with (first
      | (go_at_call 47; (with_reducible refine (isin47_any _ _ _ _).mono ?_); rintro e w5 ⟨rfl, rfl⟩)
      | (go_at_call 77; refine cQ.mono ?_; rintro e w6 ⟨rfl, k6⟩; have K6 := Lib.hid (K3.out.trans (k6.mono K3.out.size)))
      | fail)
    all_goals
      go_wp2
      go_ret
      exact ⟨by rw [HE.out]; rfl, K6.out⟩
/-- Lists of numbers in memory. -/
def LLAt (w : World) (A : Option Addr) (L : List (List Int)) : Prop := L = [] ∨ ∃ g o, A = some ⟨g, o, none⟩ ∧ g < w.heap.size ∧ ∀ k (h : k < L.length), ∃ B c, w.cell? ⟨g, o + k, none⟩ = some (.slice B L[k].length c) ∧ NsAt w B L[k]
theorem LLAt.pos {w : World} {A : Option Addr} {l : List (List Int)} (h : LLAt w A l) (hp : 0 < l.length) : ∃ g o, A = some ⟨g, o, none⟩ ∧ g < w.heap.size ∧ ∀ k (h : k < l.length), ∃ B c, w.cell? ⟨g, o + k, none⟩ = some (.slice B l[k].length c) ∧ NsAt w B l[k] := by
  rcases h with h | h
  · rw [h] at hp; exact absurd hp (Nat.lt_irrefl _)
  · exact h
theorem flat_step (L : List (List Int)) {i : Nat} (h : i < L.length) : (L.take (i + 1)).flatten = (L.take i).flatten ++ L[i] := by
  rw [List.take_succ_eq_append_getElem h, List.flatten_append]; simp
theorem len_take_le (L : List (List Int)) : ∀ i, ((L.take i).flatten).length ≤ L.flatten.length := by
  intro i
  have h := congrArg List.length (congrArg List.flatten (List.take_append_drop i L))
  rw [List.flatten_append, List.length_append] at h
  omega
set_option maxRecDepth 100000 in
set_option maxHeartbeats 8000000 in
theorem unite_any (L : List (List Int)) (m : Nat) (hm : L.length = m) (h9 : m ≤ 1000) (h1000 : L.flatten.length ≤ 1000) (hok : ∀ l ∈ L, ∀ a ∈ l, I64 a) (P : Option Addr) (c : Nat) (w : World) (hP : LLAt w P L) :
    Calls Try.prog 57 #[.slice P m c] w (OwN w.heap.size (srtU L.flatten) w) := by
  have HN := Lib.hid hm
  have HA := Lib.hid hP
  have HOK := Lib.hid hok
  have HT := Lib.hid h1000
  have hmk := fun (w : World) => make121n w
  have B0 := Lib.hid ((Below.refl w.heap.size w).alloc (Nat.le_refl _) (.map #[] 0))
  have S0 := Lib.hid (SetI.new w)
  have hb : w.heap.size ≤ w.heap.size := Nat.le_refl _
  obtain ⟨R, hR⟩ : ∃ R, srtU L.flatten = R := ⟨_, rfl⟩
  rw [hR]
  have HR := Lib.hid hR
  clear hm hP hok h1000 hR
  go_enter Try.func57, Try.ntmps57
  go_wp2_with fail
  generalize hB : w.heap.size = b0 at S0 hb ⊢
  have HBB := Lib.hid hB
  clear hB
  go_loopw [5, 7, 11, 17] (fun _ _ s11 _ wr => ∃ i : Nat, i ≤ m ∧ s11 = .int .i64 (i : Nat) ∧ Hid (SetI wr b0 ((L.take i).flatten.length) ((L.take i).flatten)) ∧ Hid (Below w.heap.size w wr)) (fun _ _ s11 _ _ => m - (intOf s11).toNat)
  case atStart => exact ⟨0, Nat.zero_le _, rfl, S0, B0⟩
  case round =>
    clear S0 B0
    obtain ⟨i, hi, rfl, HM, HB⟩ := hrel
    by_cases hlt : i < m
    · have hil : i < L.length := by rw [HN.out]; exact hlt
      obtain ⟨g, o, rfl, hg, hcl⟩ := HA.out.pos (by omega)
      obtain ⟨B, cb, hx, hns⟩ := hcl i hil
      have z0 := (HB.out.cell (p := ⟨g, o + i, none⟩) hg).trans hx
      have f1 : (i : Int) < (m : Int) := by omega
      have HX := Lib.hid hns
      have HF := Lib.hid (flat_step L hil)
      have HL2 := Lib.hid (len_take_le L (i + 1))
      have HO2 := Lib.hid (HOK.out _ (List.getElem_mem hil))
      clear hcl hx hns
      generalize L[i] = x at z0 HX HF HO2
      obtain ⟨n, hn⟩ : ∃ n, x.length = n := ⟨_, rfl⟩
      rw [hn] at z0
      have HN2 := Lib.hid hn
      have hn1000 : n ≤ 1000 := by
        have h1 := HL2.out; rw [HF.out, List.length_append, hn] at h1; have h2 := HT.out; omega
      clear hn
      go_wp2_with fail
      go_loopw [7, 17] (fun _ s17 wq => ∃ k : Nat, k ≤ n ∧ s17 = .int .i64 (k : Nat) ∧ Hid (SetI wq b0 ((L.take i).flatten.length + k) ((L.take i).flatten ++ x.take k)) ∧ Hid (Below w.heap.size w wq)) (fun _ s17 _ => n - (intOf s17).toNat)
      case atStart => exact ⟨0, Nat.zero_le _, rfl, Lib.hid (by rw [List.take_zero, List.append_nil]; exact HM.out), HB⟩
      case round =>
        clear HM
        obtain ⟨k, hk, rfl, HM, HB⟩ := hrel
        by_cases hlt2 : k < n
        · have hkl : k < x.length := by rw [HN2.out]; exact hlt2
          obtain ⟨g2, o2, rfl, hg2, hcl⟩ := HX.out.pos (by omega)
          have z1 := (HB.out.cell (p := ⟨g2, o2 + k, none⟩) hg2).trans (hcl k hkl)
          have f2 : (k : Int) < (n : Int) := by omega
          have hbig : (L.take i).flatten.length + k < maxLen := by
            have h1 := HL2.out; rw [HF.out, List.length_append, HN2.out] at h1; have h2 := HT.out; unfold maxLen; omega
          obtain ⟨w5, hru, hS5, hg5⟩ := HM.out.put hbig (HO2.out _ (List.getElem_mem hkl))
          rw [List.append_assoc, ← List.take_succ_eq_append_getElem hkl] at hS5
          have H5 := Lib.hid hS5
          have B5 := Lib.hid (HB.out.grown hg5 HB.out.size (fun e h => by cases h; rw [HBB.out]; exact Nat.le_refl _))
          clear hcl hS5 hg5
          generalize x[k] = v at z1 hru
          go_wp2
          go_roundw
          case rel => exact ⟨k + 1, by omega, by go_num, H5, B5⟩
          case measure => simp [intOf]; omega
        · obtain rfl : k = n := by omega
          have HE := Lib.hid (by have := HM.out; rw [List.take_of_length_le (l := x) (by rw [HN2.out]; exact Nat.le_refl _), ← HF.out] at this; exact this.mono (by rw [HF.out, List.length_append, HN2.out]; exact Nat.le_refl _) : SetI _ b0 ((L.take (i + 1)).flatten.length) ((L.take (i + 1)).flatten))
          have f2 : ¬ (k : Int) < (k : Int) := by omega
          go_wp2
          go_roundw
          case rel => exact ⟨i + 1, by omega, by go_num, HE, HB⟩
          case measure => simp [intOf]; omega
    · obtain rfl : i = m := by omega
      have HE := Lib.hid (by have := HM.out; rw [List.take_of_length_le (by rw [HN.out]; exact Nat.le_refl _)] at this; exact this : SetI wr b0 L.flatten.length L.flatten)
      have cK := fun W => keys87_any (some b0) W
      have cS := sorted86_any b0 L.flatten.length L.flatten wr HE.out HT.out
      have hs := HB.out.size
      have f2 : ¬ (i : Int) < (i : Int) := by omega
      rw [HR.out] at cS
      go_wp2_with fail
      (with_reducible refine (cK _).mono ?_)
      rintro e w6 ⟨rfl, rfl⟩
      go_wp2_with fail
      (with_reducible refine cS.mono ?_)
      rintro e w7 ⟨A7, c7, rfl, h7, k7⟩
      have K7 := Lib.hid ((HB.out.alloc hs (.cells #[.map (some b0)] 121)).trans (k7.mono (by simp; omega)))
      have H7 := Lib.hid (own_lower h7 (b' := w.heap.size) (by omega))
      go_wp2
      go_ret
      exact ⟨A7, c7, rfl, H7.out, K7.out⟩
end Go.Proofs.Ytjhppkjngifibaa
