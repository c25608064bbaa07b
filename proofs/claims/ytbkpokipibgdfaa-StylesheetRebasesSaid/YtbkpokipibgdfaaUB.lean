/- Layer 8: slices.Clone of styles (80), clone (60). -/
import Derived.Test.YtbkpokipibgdfaaUA
import Derived.Test.YtbkpokipibgdfaaTK
import Derived.Test.YtbkpokipibgdfaaTR
namespace Go.Proofs.Ytbkpokipibgdfaa
open Go.RowKit Go.Lib
set_option linter.unusedVariables false

set_option maxRecDepth 100000 in
set_option maxHeartbeats 4000000 in
theorem clone80_any (g o n c : Nat) (L : List Sa) (hL : L.length = n) (hn : 0 < n) (h1000 : n ≤ 1000) (w : World) (hg : g < w.heap.size) (hrow : ∀ j u, (rowA L)[j]? = some u → w.cell? ⟨g, o + j, none⟩ = some u) :
    Calls Try.prog 80 #[.slice (some ⟨g, o, none⟩) n c] w fun e w' => (∃ g' cb, e = .returned (.slice (some ⟨g', 0, none⟩) n cb) ∧ w'.ownsRow w.heap.size 28 6 (.slice (some ⟨g', 0, none⟩) n cb) n (rowA L)) ∧ Below w.heap.size w w' := by
  obtain ⟨i0, hi, hz0, hz1, hz2⟩ := info_parts info28
  have q43 : ∀ (w : World) (a : Option Addr) (n c n' c' : Nat), (binOp .eql 22 (.slice a n c) (.slice none n' c')).run Try.prog w = .ok (.bool a.isNone) w := fun w a n c n' c' => Lib.run_eql_slice_nil w _ _ a n c n' c' Try.underlying22
  have hcell := Go.Lib.hid hrow
  have hln := Go.Lib.hid ((rowA_len L).trans (by rw [hL]))
  clear hrow hL
  go_enter Try.func80, Try.ntmps80
  go_wp2_with (at_builtin; refine wpList_append_own _ rfl _ _ 22 rfl w.heap.size 28 i0 _ 6 72 Try.underlying22 hi hz0 hz1 hz2 rfl (by decide) _ _ _ rfl (World.ownsRow_made w #[] 0 (Nat.le_refl _) (Nat.zero_le _) (by simp)) ⟨g, o, none⟩ n c (rowA L) rfl ?qc1 ?qc2 ?qc3 ?qc4 ?qc5 ?qc6 ?_)
  case qc1 => exact hln.out
  case qc2 =>
    intro j u hj
    rw [Addr.add_lit]
    exact Lib.cell?_alloc_some _ (hcell.out j u hj)
  case qc3 => exact rowA_one L
  case qc4 => rw [Nat.zero_add]; unfold maxLen; omega
  case qc5 => rw [Nat.zero_add]; omega
  case qc6 => simp
  intro v' w1 hown hgrow hnil
  have hown' : w1.ownsRow w.heap.size 28 6 v' n (rowA L) := by simpa using hown
  obtain ⟨g', cb, rfl, _⟩ := own_cells hown' hn
  clear hown hnil
  go_wp2
  go_ret
  exact ⟨⟨g', cb, rfl, hown'⟩, ((Below.refl _ w).alloc (Nat.le_refl _) _).grown hgrow (by simp) (by intro k hk; simp [Value.ownBlock] at hk; omega)⟩
/-- A list of styles of one's own. -/
structure OwnS (w : World) (base g n cb : Nat) (L : List Sa) : Prop where
  row : w.ownsRow base 28 6 (.slice (some ⟨g, 0, none⟩) n cb) n (rowA L)
  len : L.length = n
  prs : Ps w g L
theorem OwnS.lt {w : World} {base g n cb : Nat} {L : List Sa} (h : OwnS w base g n cb L) : base ≤ g ∧ g < w.heap.size := h.row.lt g rfl
theorem OwnS.cell {w : World} {base g n cb : Nat} {L : List Sa} (h : OwnS w base g n cb L) {k : Nat} (hk : k < L.length) {j : Nat} (hj : j < 6) : w.cell? ⟨g, k * 6 + j, none⟩ = (rowA1 L[k])[j]? := by
  rw [h.row.cellAt (k * 6 + j) (by have := h.len; omega)]
  exact rowA_get L k hk j hj
theorem OwnS.below {w w' : World} {base g n cb : Nat} {L : List Sa} (h : OwnS w base g n cb L) (hb : Below w.heap.size w w') : OwnS w' base g n cb L := ⟨row_below h.row hb, h.len, h.prs.below hb⟩
theorem OwnS.put {w : World} {base g n cb : Nat} {L : List Sa} (h : OwnS w base g n cb L) {k j : Nat} (hk : k < L.length) (hj : j < 6) {y : Sa} {u : Value} (hy : rowA1 y = (rowA1 L[k]).set j u)
    (hp : y.1.props.length ≤ y.2.2 ∧ y.2.2 ≤ maxLen ∧ PrAt w y.2.1 y.1.props ∧ (y.1.props = [] ∨ ∀ a, y.2.1 = some a → a.block ≠ g)) : OwnS (w.setCell ⟨g, k * 6 + j, none⟩ u) base g n cb (L.set k y) := by
  refine ⟨?_, by rw [List.length_set]; exact h.len, (h.prs.put (k := k) hp).set _ _⟩
  rw [← rowA_set L k j hk hj y u hy]
  exact row_set h.row _ (by have := h.len; omega) u
theorem OwnS.ls {w : World} {base g n cb : Nat} {L : List Sa} (h : OwnS w base g n cb L) : LsAt w (some ⟨g, 0, none⟩) (L.map (·.1)) := rows_ls h.row h.len h.prs
theorem row_ne {w : World} {base g n cb : Nat} {B : Option Addr} {xs : List Value} (h : w.ownsRow base 55 2 (.slice B n cb) n xs) (hg : g < base) : ∀ a, B = some a → a.block ≠ g := by
  rintro ⟨b, o, s⟩ rfl
  rcases h.2 with ⟨hv, _⟩ | ⟨g', cap, cur, hv, hb, _⟩
  · cases hv
  · injection hv with e1 _ _
    injection e1 with e1
    injection e1 with e1
    show b ≠ g
    omega
set_option maxRecDepth 100000 in
set_option maxHeartbeats 8000000 in
theorem clone60_any (l : List St) (A : Option Addr) (n c : Nat) (hn : l.length = n) (h0 : 0 < n) (h1000 : n ≤ 1000) (hps : PrsOk l) (w : World) (hA : LsAt w A l) :
    Calls Try.prog 60 #[.slice A n c] w fun e w' => (∃ g cb L, e = .returned (.slice (some ⟨g, 0, none⟩) n cb) ∧ OwnS w' w.heap.size g n cb L ∧ L.map (·.1) = l) ∧ Below w.heap.size w w' := by
  obtain ⟨ga, oa, L, rfl, hga, hLm, hrow, hpp⟩ := ls_row hA (by intro e; rw [e] at hn; simp at hn; omega)
  have hLl : L.length = n := by rw [← hn, ← hLm, List.length_map]
  have c8 := clone80_any ga oa n c L hLl h0 h1000 w hga hrow
  have HPP := Go.Lib.hid hpp
  have HPS := Go.Lib.hid hps
  have HL0 := Go.Lib.hid (And.intro hLm hLl)
  clear hA hrow hpp hps hLm hLl hn
  go_enter Try.func60, Try.ntmps60
  go_wp2_with fail
  (with_reducible refine c8.mono ?_)
  rintro e w1 ⟨⟨g, cb, rfl, hr⟩, k1⟩
  have K1 := Go.Lib.hid k1
  have s1 := k1.size
  have HO := Go.Lib.hid (show OwnS w1 w.heap.size g n cb L from ⟨hr, HL0.out.2, fun x hx => ⟨(HPP.out x hx).1, (HPP.out x hx).2.1, (HPP.out x hx).2.2.below k1 (Nat.le_refl _), by
    have h1 := (hr.lt g rfl).1
    rcases (HPP.out x hx).2.2 with h | ⟨b, o, e, hb, _⟩
    · exact .inl h
    · right
      intro a ha
      rw [e] at ha; cases ha
      show b ≠ g
      omega⟩⟩)
  have hgb := (hr.lt g rfl).1
  clear c8 k1 hr
  go_wp2_with fail
  go_loopw [4, 9] (fun _ s9 wr => ∃ (i : Nat) (M : List Sa), i ≤ n ∧ s9 = .int .i64 (i : Nat) ∧ Hid (OwnS wr w.heap.size g n cb M) ∧ Hid (M.map (·.1) = l) ∧ Hid (Below w.heap.size w wr)) (fun _ s9 _ => n - (intOf s9).toNat)
  case atStart => exact ⟨0, L, Nat.zero_le _, rfl, HO, Go.Lib.hid HL0.out.1, K1⟩
  case round =>
    obtain ⟨i, M, hi, rfl, HM, HML, HB⟩ := hrel
    have hs := HB.out.size
    by_cases hlt : i < n
    · have hil : i < M.length := by rw [HM.out.len]; exact hlt
      have z5 : _ = some (Value.slice M[i].2.1 M[i].1.props.length M[i].2.2) := HM.out.cell hil (j := 5) (by omega)
      obtain ⟨p1, p2, p3, _⟩ := HM.out.prs _ (List.getElem_mem hil)
      have hpl : M[i].1.props.length ≤ 1000 := HPS.out _ (by rw [← HML.out]; exact List.mem_map.2 ⟨_, List.getElem_mem hil, rfl⟩)
      have cC := clone_any M[i].2.1 M[i].1.props.length M[i].2.2 M[i].1.props rfl ⟨p1, p2⟩ hpl wr p3
      have f0 : (0 : Int) ≤ (i : Int) := by omega
      have f1 : (i : Int) < (n : Int) := by omega
      clear p1 p2 p3 hpl
      generalize hx : M[i] = x at z5 cC
      have HX := Go.Lib.hid hx
      obtain ⟨⟨a1, a2, a3, a4, a5, ps⟩, ax, ac⟩ := x
      dsimp only at z5 cC
      clear hx
      go_wp2_with fail
      (with_reducible refine cC.mono ?_)
      rintro e w2 ⟨B2, cb2, rfl, hr2, k2⟩
      have hgw : g < wr.heap.size := HM.out.lt.2
      have hb2 := Go.Lib.hid k2
      have HM2 := Go.Lib.hid (HM.out.below k2)
      have K2 := Go.Lib.hid (HB.out.trans (k2.mono hs))
      have y5 := (k2.cell (p := ⟨g, i * 6 + 5, none⟩) hgw).trans z5
      have t5 := HM2.out.row.frozenAt (i * 6 + 5)
      obtain ⟨q1, q2, q3⟩ := row_prat hr2 rfl
      have HNE := Go.Lib.hid (row_ne hr2 hgw)
      have HQ := Go.Lib.hid (And.intro q1 (And.intro q2 q3))
      clear cC k2 z5 hr2 q1 q2 q3
      go_wp2_with fail
      go_roundw
      case rel =>
        refine ⟨i + 1, M.set i (⟨a1, a2, a3, a4, a5, ps⟩, B2, cb2), by omega, by go_num, Go.Lib.hid ?_, Go.Lib.hid ?_, Go.Lib.hid (K2.out.setCell (p := ⟨g, i * 6 + 5, none⟩) hgb _)⟩
        · exact HM2.out.put (k := i) hil (by omega) (by rw [HX.out]; rfl) ⟨HQ.out.1, HQ.out.2.1, HQ.out.2.2, .inr HNE.out⟩
        · rw [List.map_set, HML.out]
          have e : (⟨a1, a2, a3, a4, a5, ps⟩ : St) = l[i]'(by rw [← HML.out, List.length_map]; exact hil) := by
            have : (M.map (·.1))[i]'(by rw [List.length_map]; exact hil) = M[i].1 := List.getElem_map _
            have h2 : M[i].1 = (⟨a1, a2, a3, a4, a5, ps⟩ : St) := by rw [HX.out]
            rw [← h2, ← this]
            congr 1
          rw [e]
          exact List.set_getElem_self _
      case measure => simp [intOf]; omega
    · obtain rfl : i = n := by omega
      clear hlt
      go_wp2
      go_ret
      exact ⟨⟨g, cb, M, rfl, HM.out, HML.out⟩, HB.out⟩
end Go.Proofs.Ytbkpokipibgdfaa
