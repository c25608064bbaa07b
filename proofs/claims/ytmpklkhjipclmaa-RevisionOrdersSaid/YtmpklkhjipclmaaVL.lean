/- Layer 22: Merge (26). -/
import Derived.Test.YtmpklkhjipclmaaVK
import Derived.Test.YtmpklkhjipclmaaVE
import Derived.Deep.QuietTactic
import Derived.BigQuiet
namespace Go.Proofs.Ytmpklkhjipclmaa
open Go.RowKit Go.Lib
set_option linter.unusedVariables false

def stepM (M : List Rv) (r : Rv) : Option (List Rv) := if r ∈ M then some M else if ∃ y ∈ M, y.id = r.id then none else some (putR M r)
def mrg (a b : List Rv) : Option (List Rv) := b.foldl (fun o r => o.bind (stepM · r)) (some a)
theorem mrg_snoc (a b : List Rv) (r : Rv) : mrg a (b ++ [r]) = (mrg a b).bind (stepM · r) := by unfold mrg; rw [List.foldl_append]; rfl
theorem mrg_step (a b : List Rv) (k : Nat) (h : k < b.length) {M : List Rv} (hM : mrg a (b.take k) = some M) : mrg a (b.take (k + 1)) = stepM M b[k] := by
  rw [List.take_succ_eq_append_getElem h, mrg_snoc, hM]; rfl
theorem mrg_none {a b : List Rv} {k : Nat} (h : mrg a (b.take k) = none) : mrg a b = none := by
  have : ∀ l : List Rv, l.foldl (fun (o : Option (List Rv)) r => o.bind (stepM · r)) none = none := by
    intro l
    induction l with
    | nil => rfl
    | cons x l ih => exact ih
  unfold mrg at *
  rw [← List.take_append_drop k b, List.foldl_append, h]
  exact this _
noncomputable def mrgE (a b : List Rv) : Int := if chkL vld a ≠ 0 then chkL vld a else if chkL vld b ≠ 0 then chkL vld b else match mrg a b with
  | none => 23
  | some M => if 256 < M.length then 9 else 0
/-- What Merge hands back. -/
def MrgR (a b : List Rv) (e : Ending) (w' : World) : Prop :=
  (∃ c, e = .returned (.tuple #[.slice none 0 0, .int .i64 c]) ∧ c ≠ 0 ∧ mrgE a b = c) ∨
  (∃ M A cb, e = .returned (.tuple #[.slice A M.length cb, .int .i64 0]) ∧ mrgE a b = 0 ∧ mrg a b = some M ∧ M.length ≤ cb ∧ cb ≤ maxLen ∧ RsAt w' A M)
theorem stepM_sort {M M' : List Rv} {r : Rv} (h : SortP M) (hs : stepM M r = some M') : SortP M' := by
  unfold stepM at hs
  split at hs
  · injection hs with hs; subst hs; exact h
  · split at hs
    · cases hs
    · injection hs with hs; subst hs; exact putR_sort h
theorem own_addr {w : World} {base n cb size : Nat} {t : TypeId} {B : Option Addr} {xs : List Value} (h : w.ownsRow base t size (.slice B n cb) n xs) (vb : Nat) (hv : w.heap.size ≤ vb) : B ≠ some ⟨vb, 0, none⟩ := by
  rcases h.2 with ⟨hq, _⟩ | ⟨g, cap, cur, hq, _, hg, _⟩
  · injection hq with e1 _ _
    rw [e1]; simp
  · injection hq with e1 _ _
    rw [e1]
    intro e
    injection e with e
    injection e with e
    have := (Array.getElem?_eq_some_iff.1 hg).1
    omega
attribute [local irreducible] wpQuiet in
set_option maxRecDepth 100000 in
set_option maxHeartbeats 16000000 in
theorem merge_any (a b : List Rv) (n m : Nat) (hn : a.length = n) (hm : b.length = m) (h1000 : n + m ≤ 1000) (hza : SzOk a) (hzb : SzOk b) (A B : Option Addr) (c d : Nat) (hc : n ≤ c ∧ c ≤ maxLen) (w : World) (hA : RsAt w A a) (hB : RsAt w B b) :
    Calls Try.prog 26 #[.slice A n c, .slice B m d] w fun e w' => MrgR a b e w' ∧ Below w.heap.size w w' := by
  have cA := check_any a n hn (by omega) hza A c w hA
  have CB := Lib.hid (fun w' (hb : Below w.heap.size w w') => check_any b m hm (by omega) hzb B d w' (hB.below hb))
  have CC := Lib.hid (fun w' (hb : Below w.heap.size w w') => clone_any A n c a hn hc (by omega) w' (hA.below hb))
  have HA := Lib.hid hA
  have HBB := Lib.hid hB
  have HN := Lib.hid hn
  have HM := Lib.hid hm
  have s00 : w.heap.size ≤ w.heap.size := Nat.le_refl _
  clear hA hB hn hm hza hzb hc
  by_cases ha : chkL vld a = 0
  case neg =>
    have ha' : (chkL vld a == 0) = false := neB ha
    have HR := Lib.hid (show MrgR a b (.returned (.tuple #[.slice none 0 0, .int .i64 (chkL vld a)])) w from .inl ⟨_, rfl, ha, by unfold mrgE; rw [if_pos ha]⟩)
    generalize chkL vld a = r at cA ha' HR
    clear ha
    go_enter Try.func26, Try.ntmps26
    go_wp2_with fail
    (with_reducible refine cA.mono ?_)
    rintro e w1 ⟨rfl, k1⟩
    go_wp2
    go_ret2
    refine ⟨?_, k1⟩
    rcases HR.out with ⟨c', e1, e2, e3⟩ | ⟨M, A', cb', e1, _⟩
    · exact .inl ⟨c', e1, e2, e3⟩
    · simp at e1; exact .inl ⟨r, rfl, by simpa using ha', by rw [e1.2]; simp_all⟩
  rw [ha] at cA
  by_cases hb : chkL vld b = 0
  case neg =>
    have hb' : (chkL vld b == 0) = false := neB hb
    have HR := Lib.hid (And.intro hb (show mrgE a b = chkL vld b by unfold mrgE; rw [if_neg (by simp [ha]), if_pos hb]))
    go_enter Try.func26, Try.ntmps26
    go_wp2_with fail
    (with_reducible refine cA.mono ?_)
    rintro e w1 ⟨rfl, k1⟩
    have cB := CB.out w1 k1
    generalize chkL vld b = r at cB hb' HR
    clear hb
    go_wp2_with fail
    (with_reducible refine cB.mono ?_)
    rintro e w2 ⟨rfl, k2⟩
    go_wp2
    go_ret2
    exact ⟨.inl ⟨r, rfl, HR.out.1, HR.out.2⟩, k1.trans (k2.mono k1.size)⟩
  have HE0 := Lib.hid (show mrgE a b = (match mrg a b with | none => (23 : Int) | some M => if 256 < M.length then 9 else 0) by unfold mrgE; rw [if_neg (by simp [ha]), if_neg (by simp [hb])])
  have HSA := Lib.hid (chk_sort ha)
  have hb0 := hb
  clear ha
  go_enter Try.func26, Try.ntmps26
  go_wp2_with fail
  (with_reducible refine cA.mono ?_)
  rintro e w1 ⟨rfl, k1⟩
  have cB := CB.out w1 k1
  rw [hb] at cB
  clear hb hb0
  go_wp2_with fail
  (with_reducible refine cB.mono ?_)
  rintro e w2 ⟨rfl, k2⟩
  have K2 := Lib.hid (k1.trans (k2.mono k1.size))
  have s2 := K2.out.size
  have cC := CC.out w2 K2.out
  clear cA cB k1 k2
  go_wp2_with fail
  (with_reducible refine cC.mono ?_)
  rintro e w3 ⟨B3, cb3, rfl, hr3, k3⟩
  have K3 := Lib.hid (K2.out.trans (k3.mono s2))
  have R3 := Lib.hid (own_lower (b' := w.heap.size) hr3 s2)
  clear cC hr3 k3
  go_wp2_with fail
  go_loopw [8, 27] (fun s8 s27 wr => ∃ k : Nat, k ≤ m ∧ s27 = .int .i64 (k : Nat) ∧ Hid (Below w.heap.size w wr) ∧ ∃ (M : List Rv) (B' : Option Addr) (q cb' : Nat), s8 = .slice B' q cb' ∧ q ≤ n + k ∧ Hid (M.length = q) ∧ Hid (SortP M) ∧ Hid (mrg a (b.take k) = some M) ∧ Hid (wr.ownsRow w.heap.size 23 3 (.slice B' q cb') q (rowR M))) (fun _ s27 _ => m - (intOf s27).toNat)
  case atStart => exact ⟨0, Nat.zero_le _, rfl, K3, a, B3, n, cb3, rfl, by omega, HN, HSA, Lib.hid rfl, R3⟩
  case round =>
    clear K3 R3
    obtain ⟨k, hk, rfl, HB, M, B', q, cb', rfl, hq, HMQ, HMS, HMM, HRW⟩ := hrel
    have sB := HB.out.size
    by_cases hlt : k < m
    case neg =>
      obtain rfl : k = m := by omega
      have HF := Lib.hid (show mrg a b = some M by have := HMM.out; rwa [List.take_of_length_le (by rw [HM.out]; exact Nat.le_refl _)] at this)
      have HE1 := Lib.hid (HE0.out.trans (by rw [HF.out]))
      have HQ2 := Lib.hid (HMQ.out)
      by_cases h256 : 256 < q
      · have g1 : (256 : Int) < (q : Int) := by omega
        have HE2 := Lib.hid (HE1.out.trans (by dsimp only; rw [HMQ.out, if_pos h256]) : mrgE a b = 9)
        go_wp2
        go_ret2
        exact ⟨.inl ⟨9, rfl, by decide, HE2.out⟩, HB.out⟩
      · have g1 : ¬ (256 : Int) < (q : Int) := by omega
        have HE2 := Lib.hid (HE1.out.trans (by dsimp only; rw [HMQ.out, if_neg h256]) : mrgE a b = 0)
        go_wp2
        go_ret2
        obtain ⟨A', c', e1, e2, e3, e4⟩ := row_rs HRW.out HMQ.out
        injection e1 with z1 z2 z3
        subst z1 z3
        exact ⟨.inr ⟨M, B', cb', by rw [HMQ.out]; rfl, HE2.out, HF.out, by rw [HMQ.out]; exact e2, e3, e4⟩, HB.out⟩
    have hkb : k < b.length := by rw [HM.out]; exact hlt
    obtain ⟨g, o, rfl, hg, hcl⟩ := HBB.out.pos (by omega)
    obtain ⟨c0, c1, c2⟩ := hcl k hkb
    have z0 := (HB.out.cell (p := ⟨g, o + k * 3, none⟩) hg).trans c0
    have z1 := (HB.out.cell (p := ⟨g, o + k * 3 + 1, none⟩) hg).trans c1
    have z2 := (HB.out.cell (p := ⟨g, o + k * 3 + 2, none⟩) hg).trans c2
    have f1 : (k : Int) < (m : Int) := by omega
    have HST := Lib.hid (mrg_step a b k hkb HMM.out)
    clear hcl c0 c1 c2
    generalize b[k] = x at z0 z1 z2 HST
    obtain ⟨xa, xs, xt⟩ := x
    dsimp only at z0 z1 z2
    have U := Lib.hid (ObjAt.new wr #[.int .i64 xa, .string xs, .int .i64 xt] 23)
    have B5 := Lib.hid (HB.out.alloc sB (.cells #[.int .i64 xa, .string xs, .int .i64 xt] 23))
    have s5 := B5.out.size
    have HR5 := Lib.hid (HRW.out.kept (World.grownBy_alloc wr (.cells #[.int .i64 xa, .string xs, .int .i64 xt] 23) none) (by cases (Value.slice B' q cb').ownBlock <;> simp))
    obtain ⟨A', c', e1, e2, e3, e4⟩ := row_rs HR5.out HMQ.out
    injection e1 with q1 q2 q3
    subst q1 q3
    clear q2
    have cS := search_any M HMS.out B' q cb' HMQ.out xa (wr.alloc (.cells #[.int .i64 xa, .string xs, .int .i64 xt] 23)) (by omega) e4
    have HE4 := Lib.hid e4
    have hcq := Lib.hid (And.intro e2 e3)
    clear e2 e3 e4
    go_wp2_with fail
    (with_reducible refine cS.mono ?_)
    rintro e w6 ⟨i, hP, k6, rfl⟩
    have B6 := Lib.hid (B5.out.trans (k6.mono s5))
    have s6 := B6.out.size
    have U6 := Lib.hid (U.out.below k6)
    have HR6 := Lib.hid (row_below HR5.out k6)
    have HE6 := Lib.hid (HE4.out.below k6)
    have HP := Lib.hid hP
    have x0 := U6.out.b0
    have x1 := U6.out.b1
    have x2 := U6.out.b2
    clear cS k6 hP z0 z1 z2 HE4
    by_cases hf : ∃ hi : i < M.length, M[i].id = xa
    case neg =>
      rw [decide_eq_false hf]
      have hiq : i ≤ q := by have := HP.out.1; have := HMQ.out; omega
      have HPA := Lib.hid (put_at (x := ⟨xa, xs, xt⟩) (i := i) HP.out.2.1 (fun k' h' hi' => by
        have h1 := HP.out.2.2 k' h' hi'
        have h2 : M[k'].id ≠ xa := fun e => hf ⟨by omega, by
          by_cases ek : k' = i
          · subst ek; exact e
          · have h3 := HP.out.2.2 i (by omega) (Nat.le_refl _)
            have h4 := HMS.out i k' (by omega) h' (by omega)
            omega⟩
        show xa < M[k'].id
        omega))
      have HNE := Lib.hid (show ∀ y ∈ M, y.id ≠ xa from fun y hy e => by
        obtain ⟨k', hk', rfl⟩ := List.mem_iff_getElem.1 hy
        by_cases h1 : k' < i
        · have := HP.out.2.1 k' hk' h1; omega
        · have h2 := HP.out.2.2 i (by omega) (Nat.le_refl _)
          exact hf ⟨by omega, by
            by_cases ek : k' = i
            · subst ek; exact e
            · have h4 := HMS.out i k' (by omega) hk' (by omega)
              omega⟩)
      have HS2 := Lib.hid (HST.out.trans (show stepM M ⟨xa, xs, xt⟩ = some (putR M ⟨xa, xs, xt⟩) by
        unfold stepM
        rw [if_neg (fun hm => HNE.out _ hm rfl), if_neg (fun ⟨y, hy, he⟩ => HNE.out y hy he)]))
      have NB := Lib.hid (ObjAt.new w6 #[.int .i64 xa, .string xs, .int .i64 xt] 23)
      have B7 := Lib.hid (B6.out.alloc s6 (.cells #[.int .i64 xa, .string xs, .int .i64 xt] 23))
      have s7 := B7.out.size
      have HR7 := Lib.hid (HR6.out.kept (World.grownBy_alloc w6 (.cells #[.int .i64 xa, .string xs, .int .i64 xt] 23) none) (by cases (Value.slice B' q cb').ownBlock <;> simp))
      have cI := insert_any (w6.alloc (.cells #[.int .i64 xa, .string xs, .int .i64 xt] 23)) w.heap.size q i w6.heap.size B' cb' M xa xs xt HMQ.out hiq (by omega) s7 HR7.out NB.out (own_addr HR6.out w6.heap.size (Nat.le_refl _))
      have HL9 := Lib.hid (putR_len (x := ⟨xa, xs, xt⟩) HMS.out HNE.out)
      clear hf
      go_wp2_with fail
      (with_reducible refine cI.mono ?_)
      rintro e w8 ⟨B8, cb8, rfl, hr8, k8⟩
      rw [HPA.out] at hr8
      have R8 := Lib.hid hr8
      have B8' := Lib.hid (B7.out.trans k8)
      clear cI hr8 k8
      go_wp2
      go_roundw
      case rel => exact ⟨k + 1, by omega, by go_num, B8', putR M ⟨xa, xs, xt⟩, B8, q + 1, cb8, rfl, by omega, Lib.hid (by rw [HL9.out, HMQ.out]), Lib.hid (putR_sort HMS.out), HS2, R8⟩
      case measure => simp [intOf]; omega
    case pos =>
      rw [decide_eq_true hf]
      obtain ⟨hil, hie⟩ := hf
      have hiq : i < q := by have := HMQ.out; omega
      have g0 : (0 : Int) ≤ (i : Int) := by omega
      have g1 : (i : Int) < (q : Int) := by omega
      obtain ⟨gm, om, rfl, hgm, hcm⟩ := HE6.out.pos (by omega)
      obtain ⟨y0, y1, y2⟩ := hcm i hil
      have HYES := Lib.hid (fun (e : M[i] = ⟨xa, xs, xt⟩) => HST.out.trans (show stepM M ⟨xa, xs, xt⟩ = some M by unfold stepM; rw [if_pos (by rw [← e]; exact List.getElem_mem hil)]))
      have HNO := Lib.hid (fun (e : M[i] ≠ ⟨xa, xs, xt⟩) => (mrg_none (HST.out.trans (show stepM M ⟨xa, xs, xt⟩ = none by
        unfold stepM
        rw [if_neg (fun hm => by
          obtain ⟨k', hk', he⟩ := List.mem_iff_getElem.1 hm
          have h5 : M[k'].id = xa := by rw [he]
          by_cases ek : k' = i
          · subst ek; exact e he
          · rcases Nat.lt_or_gt_of_ne ek with h6 | h6
            · have := HMS.out k' i hk' hil h6; omega
            · have := HMS.out i k' hil hk' h6; omega), if_pos ⟨M[i], List.getElem_mem hil, hie⟩])) : mrg a b = none))
      clear hcm hie HST
      generalize M[i] = u at y0 y1 y2 HYES HNO
      obtain ⟨ua, us, ut⟩ := u
      dsimp only at y0 y1 y2
      by_cases h1 : ua = xa
      case neg =>
        have e1 : (ua == xa) = false := neB h1
        have HE := Lib.hid (HNO.out (fun h => h1 (congrArg Rv.id h)))
        clear HYES HNO h1
        have HE3 := Lib.hid (HE0.out.trans (by rw [HE.out]) : mrgE a b = 23)
        go_wp2
        go_quiet (fail)
        go_wp2
        go_ret2
        exact ⟨.inl ⟨23, rfl, by decide, HE3.out⟩, bdrew B6.out _⟩
      by_cases h2 : us = xs
      case neg =>
        have e1 : (ua == xa) = true := by rw [h1]; exact beq_self_eq_true xa
        have e2 : (us.toList == xs.toList) = false := str_neB h2
        have HE := Lib.hid (HNO.out (fun h => h2 (congrArg Rv.author h)))
        clear HYES HNO h1 h2
        have HE3 := Lib.hid (HE0.out.trans (by rw [HE.out]) : mrgE a b = 23)
        go_wp2
        go_quiet (fail)
        go_wp2
        go_ret2
        exact ⟨.inl ⟨23, rfl, by decide, HE3.out⟩, bdrew B6.out _⟩
      by_cases h3 : ut = xt
      case neg =>
        have e1 : (ua == xa) = true := by rw [h1]; exact beq_self_eq_true xa
        have e2 : (us.toList == xs.toList) = true := str_eqB h2
        have e3 : (ut == xt) = false := neB h3
        have HE := Lib.hid (HNO.out (fun h => h3 (congrArg Rv.time h)))
        clear HYES HNO h1 h2 h3
        have HE3 := Lib.hid (HE0.out.trans (by rw [HE.out]) : mrgE a b = 23)
        go_wp2
        go_quiet (fail)
        go_wp2
        go_ret2
        exact ⟨.inl ⟨23, rfl, by decide, HE3.out⟩, bdrew B6.out _⟩
      have e1 : (ua == xa) = true := by rw [h1]; exact beq_self_eq_true xa
      have e2 : (us.toList == xs.toList) = true := str_eqB h2
      have e3 : (ut == xt) = true := by rw [h3]; exact beq_self_eq_true xt
      have HE := Lib.hid (HYES.out (by rw [h1, h2, h3]))
      clear HYES HNO h1 h2 h3
      go_wp2
      go_quiet (fail)
      go_wp2
      go_roundw
      case rel => exact ⟨k + 1, by omega, by go_num, Lib.hid (bdrew B6.out _), M, some ⟨gm, om, none⟩, q, cb', rfl, by omega, HMQ, HMS, HE, Lib.hid HR6.out⟩
      case measure => simp [intOf]; omega

end Go.Proofs.Ytmpklkhjipclmaa
