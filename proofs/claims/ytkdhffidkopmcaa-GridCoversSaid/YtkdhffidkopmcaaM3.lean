/- Layer 12: Place (20). -/
import Derived.Test.YtkdhffidkopmcaaM2
namespace Go.Proofs.Ytkdhffidkopmcaa
open Go.RowKit Go.Lib Go.Maps
set_option linter.unusedVariables false

theorem empty_at {T : List (List Cl)} {i k f : Nat} {m : Int} (h : Gd.At (plT T) i k f f m) : f = 32 := by
  have hi := At_lt h
  have hk := At_len h hi
  obtain ⟨L, h1, h2⟩ := h
  rw [plT_get hi] at h1; cases h1
  have h3 := Gd.cel_get (T[i].map val) 0 k (by rw [List.length_map]; exact hk)
  have h4 := Gd.fin_take_succ (T[i].map val) 0 k (by rw [List.length_map]; exact hk)
  unfold plR at h2
  rw [List.getElem?_eq_getElem (by rw [Gd.cel_len, List.length_map]; exact hk), h3] at h2
  simp only [Option.some.injEq, Prod.mk.injEq] at h2
  have h5 := Gd.fin_le ((T[i].map val).take k) (show 0 ≤ 32 by omega)
  have h6 := h2.1
  rw [h4, h6] at h2
  rw [h6] at h5
  rcases Nat.lt_or_ge f 32 with c | c
  · have := Gd.stp_lt ((T[i].map val)[k]'(by rw [List.length_map]; exact hk)).1 c
    omega
  · omega
theorem none_at {T : List (List Cl)} {rs : List Gd.Rc} {g : Nat → Nat → Option Nat} (hF : Gd.Fin (plT T) rs g) {i k f : Nat} {m : Int} (h : Gd.At (plT T) i k f f m) : g i f = none := by
  cases e : g i f with
  | none => rfl
  | some j =>
    obtain ⟨q, hq, hl, _, c, m', ha⟩ := hF.some_ i f j e
    have h1 := (hF.cell q (List.mem_of_getElem? hq)).2.1
    have h2 := (ha.ok (plT_ok T)).2
    have := empty_at h
    omega
theorem PlcR.unique {T : List (List Cl)} {r n : Int} {e e' : Ending} (h : PlcR T r n e) (h' : PlcR T r n e') : e = e' := by
  rcases h with ⟨h1, rfl⟩ | ⟨i, k, f, t, m, rfl, rfl, ha, h⟩
  · rcases h' with ⟨_, rfl⟩ | ⟨i, k, f, t, m, e1, e2, ha, h⟩
    · rfl
    · exact absurd ⟨i, k, f, t, m, e1, e2, ha⟩ h1
  · rcases h' with ⟨h1, rfl⟩ | ⟨i', k', f', t', m', e1, e2, ha', h'⟩
    · exact absurd ⟨i, k, f, t, m, rfl, rfl, ha⟩ h1
    · obtain rfl : i = i' := by omega
      obtain rfl : k = k' := by omega
      obtain ⟨rfl, rfl, rfl⟩ := Gd.At.fn ha ha'
      rcases h with ⟨hft, rfl⟩ | ⟨hft, c, b, m1, a1, b1, rfl⟩
      · rcases h' with ⟨_, rfl⟩ | ⟨hft', _⟩
        · rfl
        · omega
      · rcases h' with ⟨hft', rfl⟩ | ⟨_, c', b', m2, a2, b2, rfl⟩
        · omega
        · obtain rfl : c = c' := a1.idx (plT_ok T) a2 hft hft
          obtain rfl : b = b' := b1.unique b2
          rfl

set_option maxRecDepth 100000 in
set_option maxHeartbeats 8000000 in
theorem gplace_any (T : List (List Cl)) (hT : GoodT T) (A : Option Addr) (N c : Nat) (hN : T.length = N) (hc : N ≤ c ∧ c ≤ maxLen) (row cell : Int) (w : World) (hA : TbAt w A T) :
    Calls Try.prog 20 #[.slice A N c, .int .i64 row, .int .i64 cell] w fun e w' => PlcR T row cell e ∧ Below w.heap.size w w' := by
  have hB : Below w.heap.size w (w.alloc (.cells #[.int .i64 0, .int .i64 0, .int .i64 0, .int .i64 0, .int .i64 0, .int .i64 0] 50)) := (Below.refl _ w).alloc (Nat.le_refl _) _
  have o1 := ObjAt.new w #[.int .i64 0, .int .i64 0, .int .i64 0, .int .i64 0, .int .i64 0, .int .i64 0] 50
  have cS := spansAt_any T hT A N c hN hc row _ (hA.below hB)
  have cL := Go.Lib.hid (fun w' (hb : Below w.heap.size w w') => lay_any T hT A N c hN hc w' (hA.below hb))
  have HB := Go.Lib.hid hB
  have O1 := Go.Lib.hid o1
  have HT := Go.Lib.hid hT
  have hsz := hB.size
  clear hB hA o1
  go_enter Try.func20, Try.ntmps20
  go_wp2_with fail
  generalize w.alloc (.cells #[.int .i64 0, .int .i64 0, .int .i64 0, .int .i64 0, .int .i64 0, .int .i64 0] 50) = W at *
  (with_reducible refine cS.mono ?_)
  rintro e w1 ⟨hR, k1⟩
  have O2 := Go.Lib.hid (O1.out.below k1)
  have HK := Go.Lib.hid (HB.out.trans (k1.mono hsz))
  have hs1 := HK.out.size
  have s0 := O2.out.s0
  have s1 := O2.out.s1
  have s2 := O2.out.s2
  have s3 := O2.out.s3
  have s4 := O2.out.s4
  have s5 := O2.out.s5
  have f0 := O2.out.frozen 0
  have f1 := O2.out.frozen 1
  have f2 := O2.out.frozen 2
  have f3 := O2.out.frozen 3
  have f4 := O2.out.frozen 4
  have f5 := O2.out.frozen 5
  clear cS k1
  have O3 := Go.Lib.hid (set6 O2.out (.int .i64 0) (.int .i64 0) (.int .i64 0) (.int .i64 0) (.int .i64 0) (.int .i64 0))
  rcases hR with ⟨hno, rfl⟩ | ⟨i, hi, s, rfl, hsp, rfl⟩
  · have HX := Go.Lib.hid (show ¬ Ex T row cell from fun h => by
      obtain ⟨i, k, f, t, m, e1, _, ha⟩ := h
      exact hno i e1 (At_lt ha))
    clear hno
    go_wp2
    have t0 := O3.out.s0
    have t1 := O3.out.s1
    have t2 := O3.out.s2
    have t3 := O3.out.s3
    have t4 := O3.out.s4
    have t5 := O3.out.s5
    refine bodyPost_ret (v := .tuple #[rectV 0 0 0 0 0 0, .int .i64 2]) ?_ rfl ⟨.inl ⟨HX.out, rfl⟩, ?_⟩
    · unfold rectV
      simp [results, Try.results20, go_sem, *]
    · exact (((((HK.out.setCell (Nat.le_refl _) _).setCell (Nat.le_refl _) _).setCell (Nat.le_refl _) _).setCell (Nat.le_refl _) _).setCell (Nat.le_refl _) _).setCell (Nat.le_refl _) _
  · have HLP := Go.Lib.hid (plR_len T[i])
    obtain ⟨gs, rfl⟩ : ∃ gs, s = .slice (some ⟨gs, 0, none⟩) T[i].length T[i].length := by
      obtain ⟨gs, h1, _⟩ := id hsp
      exact ⟨gs, by rw [h1, HLP.out]⟩
    have HSP := Go.Lib.hid hsp
    clear hsp
    by_cases hbad : cell < 0 ∨ (T[i].length : Int) ≤ cell
    · have HX := Go.Lib.hid (show ¬ Ex T (i : Nat) cell from fun h => by
        have h1 := h.lt.2.2
        have h2 := h.lt2 hi
        omega)
      have hz : (∃ x : Nat, cell = x ∧ T[i].length ≤ x) ∨ cell < 0 := by
        rcases Int.lt_or_le cell 0 with c | c
        · exact .inr c
        · exact .inl ⟨cell.toNat, by omega, by omega⟩
      clear hbad
      rcases hz with ⟨x, rfl, hb1⟩ | hb1
      all_goals
        generalize T[i].length = ln at *
        go_wp2_with fail
        have t0 := O3.out.s0
        have t1 := O3.out.s1
        have t2 := O3.out.s2
        have t3 := O3.out.s3
        have t4 := O3.out.s4
        have t5 := O3.out.s5
        refine bodyPost_ret (v := .tuple #[rectV 0 0 0 0 0 0, .int .i64 2]) ?_ rfl ⟨.inl ⟨HX.out, rfl⟩, ?_⟩
        · unfold rectV
          simp [results, Try.results20, go_sem, *]
        · exact (((((HK.out.setCell (Nat.le_refl _) _).setCell (Nat.le_refl _) _).setCell (Nat.le_refl _) _).setCell (Nat.le_refl _) _).setCell (Nat.le_refl _) _).setCell (Nat.le_refl _) _
    · obtain ⟨k, rfl⟩ := Int.eq_ofNat_of_zero_le (show 0 ≤ cell by omega)
      have hkr : k < T[i].length := by omega
      have hkL : k < (plR T[i]).length := by rw [HLP.out]; exact hkr
      have hat : Gd.At (plT T) i k (plR T[i])[k].1 (plR T[i])[k].2.1 (plR T[i])[k].2.2 := At_of hi (List.getElem?_eq_getElem hkL)
      obtain ⟨gs', he, _, hgs, hcl⟩ := HSP.out.cells
      injection he with he1 he2 he3
      clear he2 he3
      injection he1 with he1
      injection he1 with he1
      subst he1
      obtain ⟨d0, _⟩ := hcl k hkL
      have HAT := Go.Lib.hid hat
      have hi32 := hat.ok (plT_ok T)
      have hiN : i < 10 := by have := HT.out.1; omega
      have cl := cL.out w1 HK.out
      have h40 := (HT.out.2 _ (List.getElem_mem hi)).1
      clear hcl hat hbad
      generalize (plR T[i])[k].1 = fr at *
      generalize (plR T[i])[k].2.1 = to at *
      generalize (plR T[i])[k].2.2 = m at *
      generalize T[i].length = ln at *
      have r0 : (0 : Int) ≤ (k : Int) := by omega
      have r1 : (k : Int) < (ln : Int) := by omega
      have r2 : ¬ ln ≤ k := by omega
      have r3 : decide ((k : Int) < 0) = false := decide_eq_false (by omega)
      go_wp2_with fail
      (with_reducible refine cl.mono ?_)
      rintro e w2 ⟨tb, rs, g, rfl, ⟨rv, mb, n, hO, hRw, hM, _, _, _⟩, hF, hl4, k2⟩
      obtain ⟨rc, rcap, hrv⟩ : ∃ B d, rv = .slice B rs.length d := by
        obtain ⟨_, h | ⟨g, cap, cur, rfl, _⟩⟩ := id hRw
        · exact ⟨none, 0, by rw [h.1, h.2]⟩
        · exact ⟨_, _, rfl⟩
      subst hrv
      have x1 := hO.b1
      have x2 := hO.b2
      have e0 := (k2.cell (p := ⟨gs, k * 2, none⟩) hgs).trans d0
      have O4 := Go.Lib.hid (O2.out.below k2)
      have HK2 := Go.Lib.hid (HK.out.trans (k2.mono hs1))
      have ir : I64 (i : Int) := by unfold I64; omega
      have iff' : I64 (fr : Int) := by unfold I64; omega
      have hlk := sq_look (sq_drew hM) ir iff'
      have hlk0 := sq_look hM ir iff'
      rw [fI_nat] at hlk hlk0
      unfold sq at hlk hlk0
      have HF := Go.Lib.hid hF
      have HRW := Go.Lib.hid hRw
      obtain ⟨rl, hrl⟩ : ∃ rl, rs.length = rl := ⟨_, rfl⟩
      have HRL := Go.Lib.hid hrl
      rw [hrl] at x1 hl4
      clear cl k2 hF hRw hM hO hrl s0 s1 s2 s3 s4 s5 f0 f1 f2 f3 f4 f5 d0
      have s0 := O4.out.s0
      have s1 := O4.out.s1
      have s2 := O4.out.s2
      have s3 := O4.out.s3
      have s4 := O4.out.s4
      have s5 := O4.out.s5
      have f0 := O4.out.frozen 0
      have f1 := O4.out.frozen 1
      have f2 := O4.out.frozen 2
      have f3 := O4.out.frozen 3
      have f4 := O4.out.frozen 4
      have f5 := O4.out.frozen 5
      have OD := Go.Lib.hid (show ObjAt w2.drew w.heap.size _ 50 from O4.out)
      have HKD := Go.Lib.hid (show Below w.heap.size w w2.drew from HK2.out.drew)
      by_cases hft : fr = to
      · have hnone := none_at HF.out (by have := HAT.out; rw [← hft] at this; exact this)
        rw [hnone] at hlk hlk0
        simp only [Option.map_none, Option.getD_none, Option.isSome_none] at hlk hlk0
        have HE := Go.Lib.hid hft
        clear hnone hft
        have O5 := Go.Lib.hid (set6 O4.out (.int .i64 0) (.int .i64 0) (.int .i64 0) (.int .i64 0) (.int .i64 0) (.int .i64 0))
        go_wp2_with fail
        go_region
        all_goals
          go_wp2
          have t0 := O5.out.drew.s0
          have t1 := O5.out.drew.s1
          have t2 := O5.out.drew.s2
          have t3 := O5.out.drew.s3
          have t4 := O5.out.drew.s4
          have t5 := O5.out.drew.s5
          refine bodyPost_ret (v := .tuple #[rectV 0 0 0 0 0 0, .int .i64 20]) ?_ rfl ⟨.inr ⟨i, k, fr, to, m, rfl, rfl, HAT.out, .inl ⟨HE.out, rfl⟩⟩, ?_⟩
          · unfold rectV
            simp [results, Try.results20, go_sem, *]
          · exact ((((((HK2.out.setCell (Nat.le_refl _) _).setCell (Nat.le_refl _) _).setCell (Nat.le_refl _) _).setCell (Nat.le_refl _) _).setCell (Nat.le_refl _) _).setCell (Nat.le_refl _) _).drew
      · have hlt : fr < to := by omega
        obtain ⟨j, q, hj, hqj, hql, hqr, hqrow, hqb, m2, hqa⟩ := HF.out.get (plT_ok T) HAT.out hlt
        rw [hj] at hlk hlk0
        simp only [Option.map_some, Option.getD_some, Option.isSome_some] at hlk hlk0
        obtain ⟨hjl, hqe⟩ := List.getElem?_eq_some_iff.1 hqj
        have hjrl : j < rl := by rw [← HRL.out]; exact hjl
        obtain ⟨gr, hgr⟩ : ∃ gr, rc = some ⟨gr, 0, none⟩ := by
          obtain ⟨_, h | ⟨g, cap, cur, he, _⟩⟩ := id HRW.out
          · have := h.2; omega
          · injection he with he1; exact ⟨_, he1⟩
        subst hgr
        have dd := fun d (hd : d < 6) => (HRW.out.cellAt (j * 6 + d) (by omega)).trans (rcC_get rs j hjl d hd)
        rw [hqe] at dd
        have v0 : w2.cell? ⟨gr, j * 6, none⟩ = some (.int .i64 (q.row : Nat)) := by have := dd 0 (by omega); simpa [rcV] using this
        have v1 : w2.cell? ⟨gr, j * 6 + 1, none⟩ = some (.int .i64 (q.cell : Nat)) := by have := dd 1 (by omega); simpa [rcV] using this
        have v2 : w2.cell? ⟨gr, j * 6 + 2, none⟩ = some (.int .i64 (q.row : Nat)) := by have := dd 2 (by omega); simpa [rcV] using this
        have v3 : w2.cell? ⟨gr, j * 6 + 3, none⟩ = some (.int .i64 (q.left : Nat)) := by have := dd 3 (by omega); simpa [rcV] using this
        have v4 : w2.cell? ⟨gr, j * 6 + 4, none⟩ = some (.int .i64 (q.bot : Nat)) := by have := dd 4 (by omega); simpa [rcV] using this
        have v5 : w2.cell? ⟨gr, j * 6 + 5, none⟩ = some (.int .i64 (q.right : Nat)) := by have := dd 5 (by omega); simpa [rcV] using this
        have HFIN := Go.Lib.hid (show PlcR T (i : Nat) (k : Nat) (.returned (.tuple #[rectV q.row q.cell q.row q.left q.bot q.right, .int .i64 0])) from
          .inr ⟨i, k, fr, to, m, rfl, rfl, HAT.out, .inr ⟨hlt, q.cell, q.bot, m2, hqa, hqb, by rw [hqrow, hql, hqr]⟩⟩)
        have j0 : (0 : Int) ≤ (j : Int) := by omega
        have j1 : (j : Int) < (rl : Int) := by omega
        have O5 := Go.Lib.hid (set6 O4.out (.int .i64 (q.row : Nat)) (.int .i64 (q.cell : Nat)) (.int .i64 (q.row : Nat)) (.int .i64 (q.left : Nat)) (.int .i64 (q.bot : Nat)) (.int .i64 (q.right : Nat)))
        clear dd hqj hql hqr hqrow hqb hqa hjl hqe hj hft hlt
        go_wp2_with fail
        go_region
        all_goals
          go_wp2
          have t0 := O5.out.drew.s0
          have t1 := O5.out.drew.s1
          have t2 := O5.out.drew.s2
          have t3 := O5.out.drew.s3
          have t4 := O5.out.drew.s4
          have t5 := O5.out.drew.s5
          refine bodyPost_ret (v := .tuple #[rectV q.row q.cell q.row q.left q.bot q.right, .int .i64 0]) ?_ rfl ⟨HFIN.out, ?_⟩
          · unfold rectV
            simp [results, Try.results20, go_sem, *]
          · exact ((((((HK2.out.setCell (Nat.le_refl _) _).setCell (Nat.le_refl _) _).setCell (Nat.le_refl _) _).setCell (Nat.le_refl _) _).setCell (Nat.le_refl _) _).setCell (Nat.le_refl _) _).drew
end Go.Proofs.Ytkdhffidkopmcaa
