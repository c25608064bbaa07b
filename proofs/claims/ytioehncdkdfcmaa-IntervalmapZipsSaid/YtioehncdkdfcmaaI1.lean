/- Layer 5: lists of integers: the reference's New, Set, Add, Splice. -/
import Derived.Test.YtioehncdkdfcmaaC6
import Derived.OwnWalk
import Derived.Maps.AppendAt
import Derived.Laws.OwnMore
import Derived.Laws.AppendOwnNone
namespace Go.Proofs.Ytioehncdkdfcmaa
open Go.RowKit Go.Lib Im

theorem info3 : (Try.prog.info? 3).map (fun i => (i.zero, i.size, i.bytes)) = some (some (.int .i64 0), 1, 8) := by kernel_rfl
def intsV (l : List Int) : List Value := l.map (Value.int .i64)
theorem intsV_snoc (l : List Int) (x : Int) : intsV (l ++ [x]) = intsV l ++ [.int .i64 x] := by simp [intsV]
theorem intsV_append (a b : List Int) : intsV (a ++ b) = intsV a ++ intsV b := by simp [intsV]
theorem intsV_len (l : List Int) : (intsV l).length = l.length := by simp [intsV]
theorem intsV_get {l : List Int} {k : Nat} (h : k < l.length) : (intsV l)[k]? = some (.int .i64 l[k]) := by simp [intsV, h]
theorem intsV_one (l : List Int) : ∀ u ∈ intsV l, u.oneCell' = true := by
  intro u hu
  unfold intsV at hu
  rw [List.mem_map] at hu
  obtain ⟨x, _, rfl⟩ := hu
  rfl
theorem cell_new1 (w : World) (a : Value) (t : TypeId) : ∀ j u, [a][j]? = some u → (w.alloc (.cells #[a] t)).cell? ((⟨w.heap.size, 0, none⟩ : Addr).add j) = some u := by
  intro j u hj
  match j, hj with
  | 0, hj => simp at hj; subst hj; simp [Addr.add]
/-- Append from what may be nil. -/
theorem wpList_append_src {P : Program} {w : World} {ops : Array Oper} {rest : List Oper} {o : Oper} {a : Act} {Q : Exit → Act → World → Prop} (hgd : o.guard = none) (s x : Operand) (t : TypeId)
    (ho : o.op = .call { callee := .builtin .append, args := #[s, x], argTypes := #[t, t] })
    (base : Nat) (e : TypeId) (i : TypeInfo) (z : Value) (size bytes : Nat) (ht : P.underlying t = some (.slice e)) (hi : P.info? e = some i) (hz : i.zero = some z)
    (hsize : i.size = size) (hby : i.bytes = bytes) (hzs : z.cells.size = size) (hsz : 0 < size)
    (v : Value) (n : Nat) (xs : List Value) (hs : a.eval s = v) (hown : w.ownsRow base e size v n xs)
    (X : Option Addr) (m c : Nat) (news : List Value) (hx : a.eval x = .slice X m c) (hX : X = none → m = 0 ∧ c = 0) (hl : news.length = m * size) (hnews : ∀ ad, X = some ad → ∀ j u, news[j]? = some u → w.cell? (ad.add j) = some u) (h1 : ∀ u ∈ news, u.oneCell' = true)
    (h63 : n + m ≤ maxLen) (hbytes : (n + m) * bytes ≤ 140737488355328) (hbase : base ≤ w.heap.size)
    (h : ∀ v' w', w'.ownsRow base e size v' (n + m) (xs ++ news) → w.grownBy w' v.ownBlock → wpList P ops Q rest (a.put o.dst v') w') : wpList P ops Q (o :: rest) a w := by
  cases X with
  | none =>
    obtain ⟨rfl, rfl⟩ := hX rfl
    obtain rfl : news = [] := List.eq_nil_of_length_eq_zero (by rw [hl]; omega)
    exact wpList_append_own_none hgd s x t ho base e i size ht hi v n xs hs hown hx (h v w (by simpa using hown) (World.grownBy.refl _ _))
  | some ad => exact wpList_append_own w hgd s x t ho base e i z size bytes ht hi hz hsize hby hzs hsz v n xs hs hown ad m c news hx hl (hnews ad rfl) h1 h63 hbytes hbase fun v' w' h2 h3 _ => h v' w' h2 h3
/-- A list of integers of the call's own, handed back. -/
def OwnL (l : List Int) (n : Nat) (w : World) (e : Ending) (w' : World) : Prop := ∃ B c, e = .returned (.slice B n c) ∧ w'.ownsRow w.heap.size 3 1 (.slice B n c) n (intsV l) ∧ Below w.heap.size w w'
theorem own_formI {w : World} {base n : Nat} {v : Value} {xs : List Value} (h : w.ownsRow base 3 1 v n xs) : ∃ B cb, v = .slice B n cb ∧ (B = none → n = 0 ∧ cb = 0) ∧ ∀ a, B = some a → a = ⟨a.block, 0, none⟩ ∧ base ≤ a.block ∧ a.block < w.heap.size := by
  have h0 := h
  rcases h.2 with ⟨hv, hn⟩ | ⟨g, cap, cur, hv, _⟩
  · exact ⟨none, 0, by rw [hv, hn], fun _ => ⟨hn, rfl⟩, fun a e => by cases e⟩
  · refine ⟨_, _, hv, (fun e => by cases e), fun a e => ?_⟩
    injection e with e
    subst e
    subst hv
    have := h0.lt g rfl
    exact ⟨rfl, this.1, this.2⟩
set_option maxRecDepth 100000 in
set_option maxHeartbeats 4000000 in
theorem rnew_any (n : Nat) (v : Int) (w : World) (hn : n ≤ 1048576) : Calls Try.prog 35 #[.int .i64 n, .int .i64 v] w (OwnL (List.replicate n v) n w) := by
  obtain ⟨i0, hi, hz0, hz1, hz2⟩ := info_parts info3
  go_enter Try.func35, Try.ntmps35
  go_wp2
  go_loopw [5, 6] (fun o i wr => ∃ (k : Nat) (B : Option Addr) (cb : Nat), k ≤ n ∧ i = .int .i64 k ∧ o = .slice B k cb ∧ Hid (wr.ownsRow w.heap.size 3 1 (.slice B k cb) k (intsV (List.replicate k v))) ∧ Hid (Below w.heap.size w wr)) (fun _ i _ => n - (RowKit.intOf i).toNat)
  case atStart => exact ⟨0, none, 0, Nat.zero_le _, rfl, rfl, Go.Lib.hid (World.ownsRow_nil _ _ _ _), Go.Lib.hid (Below.refl _ _)⟩
  case round =>
    obtain ⟨k, B, cb, hk, rfl, rfl, HO, HB⟩ := hrel
    have hb := HB.out.size
    by_cases hlt : k < n
    · go_wp2_with (at_builtin; refine wpList_append_own _ rfl _ _ 26 rfl w.heap.size 3 i0 (.int .i64 0) 1 8 Try.underlying26 hi hz0 hz1 hz2 rfl (by decide) _ _ _ rfl (HO.out.alloc _) ⟨wr.heap.size, 0, none⟩ 1 1 [.int .i64 v] rfl rfl (cell_new1 _ _ _) (by intro u hu; simp at hu; subst hu; rfl) (by unfold maxLen; omega) (by omega) (by simp; omega) ?_; intro v1 w1 hown1 hgrow1 _; obtain ⟨g1, cap1, rfl⟩ := ownsRow_succ hown1)
      go_roundw
      case rel =>
        refine ⟨k + 1, some ⟨g1, 0, none⟩, cap1, by omega, by go_num, rfl, Go.Lib.hid ?_, Go.Lib.hid ((HB.out.alloc hb _).grown hgrow1 (by simp; omega) (fun j e => (HO.out.lt j e).1))⟩
        rw [List.replicate_succ', intsV_snoc]; exact hown1
      case measure => simp [RowKit.intOf]; omega
    · obtain rfl : n = k := by omega
      go_wp2
      go_ret
      exact ⟨B, cb, rfl, HO.out, HB.out⟩
/-- A part of the values is turned by fn. -/
def mp (fn : Int → Int) (l : List Int) (f k : Nat) : List Int := l.take f ++ (((l.drop f).take k).map fn ++ (l.drop f).drop k)
theorem mp_zero (fn : Int → Int) (l : List Int) (f : Nat) : mp fn l f 0 = l := by simp [mp]
theorem mp_len (fn : Int → Int) (l : List Int) (f k : Nat) : (mp fn l f k).length = l.length := by
  unfold mp
  simp only [List.length_append, List.length_map, List.length_take, List.length_drop]
  omega
theorem mp_step (fn : Int → Int) (l : List Int) (f k : Nat) (h : f + k < l.length) : (intsV (mp fn l f k))[f + k]? = some (.int .i64 l[f + k]) ∧ (intsV (mp fn l f k)).set (f + k) (.int .i64 (fn l[f + k])) = intsV (mp fn l f (k + 1)) := by
  have hk : k < (l.drop f).length := by rw [List.length_drop]; omega
  have e : (l.drop f)[k] = l[f + k] := List.getElem_drop ..
  obtain ⟨P, hP⟩ : ∃ P, P = l.take f ++ ((l.drop f).take k).map fn := ⟨_, rfl⟩
  have hPl : P.length = f + k := by rw [hP]; simp only [List.length_append, List.length_map, List.length_take, List.length_drop]; omega
  have e0 : mp fn l f k = P ++ l[f + k] :: (l.drop f).drop (k + 1) := by
    unfold mp
    rw [hP, ← e, List.append_assoc, List.getElem_cons_drop]
  have e1 : mp fn l f (k + 1) = P ++ fn l[f + k] :: (l.drop f).drop (k + 1) := by
    unfold mp
    rw [hP, ← e, List.take_succ_eq_append_getElem hk, List.map_append]
    simp [List.append_assoc]
  rw [e0, e1]
  generalize l[f + k] = x
  have hI : ∀ y, intsV (P ++ y :: (l.drop f).drop (k + 1)) = intsV P ++ (.int .i64 y :: intsV ((l.drop f).drop (k + 1))) := fun y => by simp [intsV]
  rw [hI, hI, ← hPl]
  refine ⟨?_, ?_⟩
  · rw [List.getElem?_append_right (by rw [intsV_len]; exact Nat.le_refl _), intsV_len, Nat.sub_self]; rfl
  · rw [List.set_append_right _ _ (by rw [intsV_len]; exact Nat.le_refl _), intsV_len, Nat.sub_self]; rfl
theorem own_setI {w : World} {base g n c : Nat} {xs : List Value} (h : w.ownsRow base 3 1 (.slice (some ⟨g, 0, none⟩) n c) n xs) (p : Nat) (v : Value) :
    (w.setCell ⟨g, p, none⟩ v).ownsRow base 3 1 (.slice (some ⟨g, 0, none⟩) n c) n (xs.set p v) := by
  rcases h.2 with ⟨hv, h0⟩ | ⟨g', cap, cur, hv, hb, hg, hc1, hc2, hsz, htk⟩
  · cases hv
  · injection hv with e1 _ e2
    injection e1 with e1
    injection e1 with e1 _ _
    subst e1 e2
    refine ⟨by rw [List.length_set]; exact h.1, .inr ⟨g, c, cur.set! p v, rfl, hb, ?_, hc1, hc2, ?_, ?_⟩⟩
    · rw [setCell_eq_setRow w g p cur 3 (0, 0) _ hg]
      exact setRow_heap w g _ _ 3 _ hg
    · simp [hsz]
    · rw [← htk]
      simp [List.take_set]
def adI (d x : Int) : Int := wrap64 (x + d)
set_option maxRecDepth 100000 in
set_option maxHeartbeats 8000000 in
theorem rset_any (A : Option Addr) (n c : Nat) (l : List Int) (hl : l.length = n) (f t : Nat) (d : Int) (w : World) (hA : w.ownsRow 0 3 1 (.slice A n c) n (intsV l)) (hft : f ≤ t) (htn : t ≤ n) (hn : n ≤ 1000000) :
    Calls Try.prog 36 #[.slice A n c, .int .i64 f, .int .i64 t, .int .i64 d] w (OwnL (mp (fun _ => d) l f (t - f)) n w) := by
  obtain ⟨i0, hi, hz0, hz1, hz2⟩ := info_parts info3
  have hN : A = none → n = 0 ∧ c = 0 := by
    obtain ⟨B, cb, e, h, _⟩ := own_formI hA
    injection e with e1 _ e3
    subst e1; subst e3
    exact h
  have hSRC : ∀ ad, A = some ad → ∀ j u, (intsV l)[j]? = some u → (w.alloc (.cells #[] 3)).cell? (ad.add j) = some u := by
    intro ad e j u hj
    subst e
    obtain ⟨B, cb, e, _, h⟩ := own_formI hA
    injection e with e1 _ e3
    obtain ⟨e2, _, hlt⟩ := h ad e1.symm
    have := (hA.cells (g := ad.block) (by rw [e2]; rfl)) j u hj
    rw [Addr.add_lit] at this
    rw [e2, Addr.add_lit]
    exact Lib.cell?_alloc_some _ this
  have HL := Go.Lib.hid hl
  have HSRC := Go.Lib.hid hSRC
  have HLN := Go.Lib.hid ((intsV_len l).trans hl)
  have HNN := Go.Lib.hid hN
  clear hA hN hSRC hl
  go_enter Try.func36, Try.ntmps36
  go_wp2_with (at_builtin; refine wpList_append_src rfl _ _ 26 rfl w.heap.size 3 i0 (.int .i64 0) 1 8 Try.underlying26 hi hz0 hz1 hz2 rfl (by decide) _ _ _ rfl (World.ownsRow_made w #[] 0 (Nat.le_refl _) (Nat.zero_le _) (by simp)) A n c (intsV l) rfl HNN.out (HLN.out.trans (Nat.mul_one _).symm) HSRC.out (intsV_one l) (by rw [Nat.zero_add]; unfold maxLen; omega) (by rw [Nat.zero_add]; omega) (by simp) ?_; intro v1 w1 hown1 hgrow1; have hown2 : w1.ownsRow w.heap.size 3 1 v1 n (intsV l) := (by simpa using hown1); obtain ⟨B1, cb1, rfl, hB1n, hB1⟩ := own_formI hown2)
  have hb1 : Below w.heap.size w w1 := ((Below.refl _ w).alloc (Nat.le_refl _) _).grown hgrow1 (by simp) (fun j e => ((World.ownsRow_made (base := w.heap.size) (e := 3) (size := 1) w #[] 0 (Nat.le_refl _) (Nat.zero_le _) rfl).lt j e).1)
  have HO1 := Go.Lib.hid hown2
  have HB1 := Go.Lib.hid hb1
  clear hown1 hown2 hgrow1 hb1
  go_loopw [10] (fun i wr => ∃ k : Nat, f + k ≤ t ∧ i = .int .i64 ((f + k : Nat) : Int) ∧ Hid (wr.ownsRow w.heap.size 3 1 (.slice B1 n cb1) n (intsV (mp (fun _ => d) l f k))) ∧ Hid (Below w.heap.size w wr)) (fun i _ => t - (RowKit.intOf i).toNat)
  case atStart => exact ⟨0, by omega, by rw [Nat.add_zero], by rw [mp_zero]; exact HO1, HB1⟩
  case round =>
    obtain ⟨k, hk, rfl, HO, HB⟩ := hrel
    by_cases hlt : f + k < t
    · have hkl : f + k < l.length := by rw [HL.out]; omega
      obtain ⟨g1, hg1⟩ : ∃ g1, B1 = some ⟨g1, 0, none⟩ := by
        cases B1 with
        | none => have := hB1n rfl; omega
        | some a => exact ⟨a.block, by rw [(hB1 a rfl).1]⟩
      subst hg1
      obtain ⟨r0, r1⟩ := mp_step (fun _ => d) l f k hkl
      have hc := (HO.out.cellAt (f + k) (by omega)).trans r0
      have hf := HO.out.frozenAt (f + k)
      have HN1 := Go.Lib.hid (own_setI HO.out (f + k) (.int .i64 ((fun _ => d) l[f + k])))
      rw [r1] at HN1
      have HB2 := Go.Lib.hid (HB.out.setCell (p := ⟨g1, f + k, none⟩) (HO.out.lt g1 rfl).1 (.int .i64 ((fun _ => d) l[f + k])))
      clear r0 r1
      generalize l[f + k] = x at hc HN1 HB2
      go_wp2
      go_roundw
      case rel => exact ⟨k + 1, by omega, by go_num, HN1, HB2⟩
      case measure => simp [RowKit.intOf]; omega
    · have hkt : k = t - f := by omega
      go_wp2
      go_ret
      exact ⟨B1, cb1, rfl, by rw [← hkt]; exact HO.out, HB.out⟩
set_option maxRecDepth 100000 in
set_option maxHeartbeats 8000000 in
theorem radd_any (A : Option Addr) (n c : Nat) (l : List Int) (hl : l.length = n) (f t : Nat) (d : Int) (w : World) (hA : w.ownsRow 0 3 1 (.slice A n c) n (intsV l)) (hft : f ≤ t) (htn : t ≤ n) (hn : n ≤ 1000000) :
    Calls Try.prog 37 #[.slice A n c, .int .i64 f, .int .i64 t, .int .i64 d] w (OwnL (mp (adI d) l f (t - f)) n w) := by
  obtain ⟨i0, hi, hz0, hz1, hz2⟩ := info_parts info3
  have hN : A = none → n = 0 ∧ c = 0 := by
    obtain ⟨B, cb, e, h, _⟩ := own_formI hA
    injection e with e1 _ e3
    subst e1; subst e3
    exact h
  have hSRC : ∀ ad, A = some ad → ∀ j u, (intsV l)[j]? = some u → (w.alloc (.cells #[] 3)).cell? (ad.add j) = some u := by
    intro ad e j u hj
    subst e
    obtain ⟨B, cb, e, _, h⟩ := own_formI hA
    injection e with e1 _ e3
    obtain ⟨e2, _, hlt⟩ := h ad e1.symm
    have := (hA.cells (g := ad.block) (by rw [e2]; rfl)) j u hj
    rw [Addr.add_lit] at this
    rw [e2, Addr.add_lit]
    exact Lib.cell?_alloc_some _ this
  have HL := Go.Lib.hid hl
  have HSRC := Go.Lib.hid hSRC
  have HLN := Go.Lib.hid ((intsV_len l).trans hl)
  have HNN := Go.Lib.hid hN
  clear hA hN hSRC hl
  go_enter Try.func37, Try.ntmps37
  go_wp2_with (at_builtin; refine wpList_append_src rfl _ _ 26 rfl w.heap.size 3 i0 (.int .i64 0) 1 8 Try.underlying26 hi hz0 hz1 hz2 rfl (by decide) _ _ _ rfl (World.ownsRow_made w #[] 0 (Nat.le_refl _) (Nat.zero_le _) (by simp)) A n c (intsV l) rfl HNN.out (HLN.out.trans (Nat.mul_one _).symm) HSRC.out (intsV_one l) (by rw [Nat.zero_add]; unfold maxLen; omega) (by rw [Nat.zero_add]; omega) (by simp) ?_; intro v1 w1 hown1 hgrow1; have hown2 : w1.ownsRow w.heap.size 3 1 v1 n (intsV l) := (by simpa using hown1); obtain ⟨B1, cb1, rfl, hB1n, hB1⟩ := own_formI hown2)
  have hb1 : Below w.heap.size w w1 := ((Below.refl _ w).alloc (Nat.le_refl _) _).grown hgrow1 (by simp) (fun j e => ((World.ownsRow_made (base := w.heap.size) (e := 3) (size := 1) w #[] 0 (Nat.le_refl _) (Nat.zero_le _) rfl).lt j e).1)
  have HO1 := Go.Lib.hid hown2
  have HB1 := Go.Lib.hid hb1
  clear hown1 hown2 hgrow1 hb1
  go_loopw [10] (fun i wr => ∃ k : Nat, f + k ≤ t ∧ i = .int .i64 ((f + k : Nat) : Int) ∧ Hid (wr.ownsRow w.heap.size 3 1 (.slice B1 n cb1) n (intsV (mp (adI d) l f k))) ∧ Hid (Below w.heap.size w wr)) (fun i _ => t - (RowKit.intOf i).toNat)
  case atStart => exact ⟨0, by omega, by rw [Nat.add_zero], by rw [mp_zero]; exact HO1, HB1⟩
  case round =>
    obtain ⟨k, hk, rfl, HO, HB⟩ := hrel
    by_cases hlt : f + k < t
    · have hkl : f + k < l.length := by rw [HL.out]; omega
      obtain ⟨g1, hg1⟩ : ∃ g1, B1 = some ⟨g1, 0, none⟩ := by
        cases B1 with
        | none => have := hB1n rfl; omega
        | some a => exact ⟨a.block, by rw [(hB1 a rfl).1]⟩
      subst hg1
      obtain ⟨r0, r1⟩ := mp_step (adI d) l f k hkl
      have hc := (HO.out.cellAt (f + k) (by omega)).trans r0
      have hf := HO.out.frozenAt (f + k)
      have HN1 := Go.Lib.hid (own_setI HO.out (f + k) (.int .i64 ((adI d) l[f + k])))
      rw [r1] at HN1
      have HB2 := Go.Lib.hid (HB.out.setCell (p := ⟨g1, f + k, none⟩) (HO.out.lt g1 rfl).1 (.int .i64 ((adI d) l[f + k])))
      clear r0 r1
      generalize l[f + k] = x at hc HN1 HB2
      go_wp2
      go_roundw
      case rel => exact ⟨k + 1, by omega, by go_num, HN1, HB2⟩
      case measure => simp [RowKit.intOf]; omega
    · have hkt : k = t - f := by omega
      go_wp2
      go_ret
      exact ⟨B1, cb1, rfl, by rw [← hkt]; exact HO.out, HB.out⟩
end Go.Proofs.Ytioehncdkdfcmaa
