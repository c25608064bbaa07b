/- Layer 23: slices.DeleteFunc of deletions. -/
import Derived.Test.YtjhppkjngifibaaEA
import Derived.Laws.CopyOwn
namespace Go.Proofs.Ytjhppkjngifibaa
open Go.RowKit Go.Lib
set_option linter.unusedVariables false

def keepD (q : Dl → Bool) (l : List Dl) : List Dl := l.filter fun y => !q y
theorem keepD_snoc (q : Dl → Bool) (l : List Dl) (k : Nat) (h : k < l.length) : keepD q (l.take (k + 1)) = keepD q (l.take k) ++ (if q l[k] = true then [] else [l[k]]) := by
  unfold keepD
  rw [List.take_succ_eq_append_getElem h, List.filter_append]
  by_cases e : q l[k] = true
  · rw [if_pos e, List.filter_cons_of_neg (p := fun y : Dl => !q y) (by simp [e])]; rfl
  · rw [if_neg e, List.filter_cons_of_pos (p := fun y : Dl => !q y) (by simp [e])]; rfl
theorem keepD_all {q : Dl → Bool} {l : List Dl} (h : ∀ j (h : j < l.length), q l[j] = false) : keepD q l = l := by
  unfold keepD
  rw [List.filter_eq_self]
  intro x hx
  obtain ⟨j, hj, rfl⟩ := List.mem_iff_getElem.1 hx
  rw [h j hj]; rfl
theorem tset (cs : List Value) (x : Nat) (v : Value) : (cs.toArray).modify x (fun _ => v) = (cs.set x v).toArray := by
  apply Array.ext
  · simp
  · intro i h1 h2
    simp only [List.modify_toArray, List.getElem_toArray, List.getElem_modify, List.getElem_set]
theorem run_clearN (w : World) (g o m c : Nat) (cs : List Value) (t : TypeId) (hg : w.heap[g]? = some (.cells cs.toArray t (0, 0))) (hfit : o + m * 2 ≤ cs.length) (hm : 0 < m) :
    ∃ zs : List Value, zs.length = m * 2 ∧ ∀ ty, (Builtin.clear_ #[23] ty #[.slice (some ⟨g, o, none⟩) m c]).run Try.prog w = .ok (.tuple #[]) (w.setRow g (cs.take o ++ zs ++ cs.drop (o + m * 2)).toArray) := by
  have hz := Try.zeroValue59 w
  have hl : (Builtin.zeroCells (Value.agg #[.int .i64 0, .int .i64 0]).cells m).toList.length = m * 2 := by
    rw [Array.length_toList, Go.size_zeroCells]; rfl
  have h1 : ∀ u ∈ (Builtin.zeroCells (Value.agg #[.int .i64 0, .int .i64 0]).cells m).toList, u.oneCell' = true := by
    intro u hu
    unfold Builtin.zeroCells at hu
    simp only [Array.toList_map, List.mem_map] at hu
    obtain ⟨i, _, rfl⟩ := hu
    have : i % 2 = 0 ∨ i % 2 = 1 := by omega
    show ((#[Value.int .i64 0, Value.int .i64 0] : Array Value)[i % 2]!).oneCell' = true
    rcases this with e | e <;> rw [e] <;> rfl
  have e1 := run_storeCells_at Try.prog g o t _ 0 cs.toArray w hg (by rw [hl]; simpa using hfit) h1
  refine ⟨_, hl, fun ty => ?_⟩
  rw [hl] at e1
  simp only [Nat.add_zero] at e1
  cases m with
  | zero => omega
  | succ m => simp [Builtin.clear_, run_underlying Try.underlying23, hz, e1]
theorem grown_setC (W : World) (b i : Nat) (u : Value) : W.grownBy (W.setCell ⟨b, i, none⟩ u) (some b) :=
  ⟨rfl, rfl, rfl, by simp [World.setCell], fun k hk hne => Below.heap_setCell W ⟨b, i, none⟩ u k (by rintro rfl; exact hne rfl)⟩
theorem take_set2 (cs : List Value) (i : Nat) (a b : Value) (h : i * 2 + 1 < cs.length) : ((cs.set (i * 2) a).set (i * 2 + 1) b).take ((i + 1) * 2) = cs.take (i * 2) ++ [a, b] := by
  apply List.ext_getElem?
  intro q
  rw [List.getElem?_take]
  by_cases h1 : q < i * 2
  · rw [if_pos (by omega), List.getElem?_set_ne (by omega), List.getElem?_set_ne (by omega), List.getElem?_append_left (by simp; omega), List.getElem?_take, if_pos h1]
  · have hl : (cs.take (i * 2)).length = i * 2 := by simp; omega
    rw [List.getElem?_append_right (by omega), hl]
    by_cases h2 : q = i * 2
    · subst h2
      rw [if_pos (by omega), List.getElem?_set_ne (by omega), List.getElem?_set_self (by omega), Nat.sub_self]; rfl
    · by_cases h3 : q = i * 2 + 1
      · subst h3
        rw [if_pos (by omega), List.getElem?_set_self (by simp; omega), show i * 2 + 1 - i * 2 = 1 by omega]; rfl
      · rw [if_neg (by omega), List.getElem?_eq_none (by simp; omega)]
theorem ObjAt.set {W : World} {b : Nat} {c : Array Value} {t : TypeId} (h : ObjAt W b c t) (k : Nat) (v : Value) : ObjAt (W.setCell ⟨b, k, none⟩ v) b (c.modify k (fun _ => v)) t := by
  obtain ⟨hlt, hk⟩ := Array.getElem?_eq_some_iff.1 h
  show (W.heap.modify b _)[b]? = _
  rw [Array.getElem?_eq_getElem (by rw [Array.size_modify]; exact hlt), Array.getElem_modify_self, hk]
  rfl
theorem row_setO {w : World} {base n sz b : Nat} {t : TypeId} {v : Value} {xs : List Value} (h : w.ownsRow base t sz v n xs) (hb : b < base) (i : Nat) (u : Value) : (w.setCell ⟨b, i, none⟩ u).ownsRow base t sz v n xs := by
  refine h.kept (grown_setC w b i u) ?_
  rcases h.2 with ⟨rfl, _⟩ | ⟨g, cap, cur, rfl, hg, _⟩
  · exact .inl rfl
  · right
    intro e
    injection e with e
    have e' : g = b := e
    omega
/-- A row of one's own, gone through up to j: i of them are kept. -/
structure DL (base g cap : Nat) (l : List Dl) (gr : Dl → Bool) (w : World) (i j : Nat) (cs : List Value) (wr : World) : Prop where
  lt : i < j
  le : j ≤ l.length
  len : cs.length = cap * 2
  row : ObjAt wr g cs.toArray 59
  kept : cs.take (i * 2) = rowD (keepD gr (l.take j))
  rest : ∀ q (h : q < l.length), j ≤ q → cs[q * 2]? = some (.int .i64 l[q].rev) ∧ cs[q * 2 + 1]? = some (.int .i64 l[q].move)
  below : Below base w wr
  oth : ∀ k, k < w.heap.size → k ≠ g → wr.heap[k]? = w.heap[k]?
set_option maxRecDepth 100000 in
set_option maxHeartbeats 8000000 in
theorem delfunc_any (l : List Dl) (n cap : Nat) (hn : l.length = n) (h1000 : n ≤ 100000) (B : Option Addr) (base : Nat) (gr : Dl → Bool) (g' : Nat) (cbv : Array Value) (w : World) (hbs : base ≤ w.heap.size) (hown : w.ownsRow base 59 2 (.slice B n cap) n (rowD l)) (hT : TestD g' cbv gr base w) :
    Calls Try.prog 82 #[.slice B n cap, .func (.func g') #[] cbv] w fun e w' => ∃ k, e = .returned (.slice B k cap) ∧ (keepD gr l).length = k ∧ w'.ownsRow base 59 2 (.slice B k cap) k (rowD (keepD gr l)) ∧ Below base w w' ∧ (∀ q, q < w.heap.size → (∀ g o f, B = some ⟨g, o, f⟩ → q ≠ g) → w'.heap[q]? = w.heap[q]?) := by
  obtain ⟨A2, c2, he2, hc1, hc2, hpr⟩ := at_rowD hown hn
  injection he2 with q1 q2 q3
  subst q1 q3
  clear q2
  have cI := indexD_any l n hn h1000 B cap g' cbv gr w hpr (hT.later ((Below.refl _ w).mono hbs) hbs)
  have eg := hT.en
  have hor := fstQ_or gr l
  have HO := Lib.hid hown
  have HN := Lib.hid hn
  have CB := Lib.hid (fun a b w' (hb : Below base w w') => hT.run a b w' hb)
  unfold maxLen at hc2
  clear hown hT hpr hn
  rcases hor with ⟨k, hk, hf, hk1, hk2⟩ | ⟨hf, hall⟩
  · rw [hf] at cI
    go_enter Try.func82, Try.ntmps82
    go_wp2_with fail
    (with_reducible refine cI.mono ?_)
    rintro e w1 ⟨rfl, k1⟩
    have hkn : k < n := by rw [← HN.out]; exact hk
    have e1 : ((k : Int) == -1) = false := by rw [beq_eq_false_iff_ne]; omega
    have hro := row_below HO.out k1
    rcases hro.2 with ⟨hvv, h0⟩ | ⟨g, cap', cur, hvv, hgb, hg, hcap, hcm, hsz, htk⟩
    · omega
    injection hvv with z1 z2 z3
    subst z1 z3
    obtain ⟨cs⟩ := cur
    simp only [List.size_toArray] at hsz htk
    have hks : keepD gr (l.take k) = l.take k := keepD_all (fun j hj => by
      rw [List.length_take] at hj
      rw [List.getElem_take]
      exact hk2 j (by omega) (by omega))
    have hcell : ∀ q u, (rowD l)[q]? = some u → cs[q]? = some u := fun q u hq => by
      rw [← htk, List.getElem?_take] at hq
      split at hq
      · exact hq
      · cases hq
    have S0 := Lib.hid (show DL base g cap l gr w k (k + 1) cs w1 from ⟨by omega, by omega, by rw [hsz], hg, by
        rw [keepD_snoc gr l k hk, if_pos hk1, List.append_nil, hks]
        have := congrArg (List.take (k * 2)) htk
        rw [List.take_take, Nat.min_eq_left (by omega)] at this
        rw [this]
        have e : rowD l = rowD (l.take k) ++ rowD (l.drop k) := by rw [← rowD_append, List.take_append_drop]
        rw [e, List.take_left' (by rw [rowD_len, List.length_take]; omega)],
      fun q hq _ => by
        have hl := rowD_get l q hq
        exact ⟨by have := hl 0 (by omega); exact hcell _ _ this, by have := hl 1 (by omega); exact hcell _ _ this⟩, k1.mono hbs, fun q hq _ => k1.block q hq⟩)
    clear cI hk1 hk2 hro hg htk hks hcell k1 hcm
    go_wp2_with fail
    go_loopw [5, 6] (fun s5 s6 wr => ∃ (i j : Nat) (cs : List Value), s5 = .int .i64 (i : Nat) ∧ s6 = .int .i64 (j : Nat) ∧ j ≤ n ∧ Hid (DL base g cap l gr w i j cs wr)) (fun _ s6 _ => n - (intOf s6).toNat)
    case atStart => exact ⟨k, k + 1, cs, rfl, by go_num, by omega, S0⟩
    case round =>
      obtain ⟨i, j, cs', rfl, rfl, hj, HD⟩ := hrel
      clear S0
      by_cases hlt : j < n
      · have hjl : j < l.length := by rw [HN.out]; exact hlt
        have hr := HD.out.rest j hjl (Nat.le_refl _)
        have z0 := HD.out.row.get (k := j * 2) (v := .int .i64 l[j].rev) (by simpa using hr.1)
        have z1 := HD.out.row.get (k := j * 2 + 1) (v := .int .i64 l[j].move) (by simpa using hr.2)
        have f0 : (0 : Int) ≤ (j : Int) := by omega
        have f1 : (j : Int) < (n : Int) := by omega
        have hij := HD.out.lt
        have hs : base ≤ wr.heap.size := Nat.le_trans hbs HD.out.below.size
        have HK := Lib.hid (keepD_snoc gr l j hjl)
        clear hr
        generalize l[j] = x at z0 z1 HK
        obtain ⟨xa, xb⟩ := x
        dsimp only at z0 z1
        have cb := CB.out xa xb (wr.alloc (.cells #[.int .i64 xa, .int .i64 xb] 59)) (HD.out.below.alloc hs _)
        have U := ObjAt.new wr #[.int .i64 xa, .int .i64 xb] 59
        have R1 := HD.out.row.alloc (.cells #[.int .i64 xa, .int .i64 xb] 59)
        have B1 := HD.out.below.alloc hs (.cells #[.int .i64 xa, .int .i64 xb] 59)
        have u0 := U.a0
        have u1 := U.a1
        have sB : base ≤ (wr.alloc (.cells #[.int .i64 xa, .int .i64 xb] 59)).heap.size := by rw [World.size_alloc]; omega
        cases hv : gr ⟨xa, xb⟩ with
        | true =>
          rw [hv] at cb
          go_wp2_with (go_at_fn g'; fail)
          go_at_fn g'
          (with_reducible refine cb.mono ?_)
          rintro e w5 ⟨rfl, k5⟩
          have HD' := Lib.hid (show DL base g cap l gr w i (j + 1) cs' w5 from ⟨by omega, by omega, HD.out.len, R1.below k5, by rw [HK.out, if_pos hv, List.append_nil]; exact HD.out.kept, fun q hq hqj => HD.out.rest q hq (by omega), B1.trans (k5.mono sB), fun q hq hqg => (k5.block q (by have := HD.out.below.size; rw [World.size_alloc]; omega)).trans ((Below.heap_alloc wr _ q (by have := HD.out.below.size; omega)).trans (HD.out.oth q hq hqg))⟩)
          clear cb k5 U R1 B1 u0 u1 z0 z1
          go_wp2
          go_roundw
          case rel => exact ⟨i, j + 1, cs', rfl, by go_num, by omega, HD'⟩
          case measure => simp [intOf]; omega
        | false =>
          rw [hv] at cb
          go_wp2_with (go_at_fn g'; fail)
          go_at_fn g'
          (with_reducible refine cb.mono ?_)
          rintro e w5 ⟨rfl, k5⟩
          have U5 := U.below k5
          have v0 := U5.a0
          have v1 := U5.a1
          have R5 := R1.below k5
          have w0 := R5.get (k := i * 2) (v := cs'[i * 2]'(by have := HD.out.len; omega)) (by simp)
          have w1 := R5.get (k := i * 2 + 1) (v := cs'[i * 2 + 1]'(by have := HD.out.len; omega)) (by simp)
          have y0 := R5.frozen (i * 2)
          have y1 := R5.frozen (i * 2 + 1)
          have g0 : (0 : Int) ≤ (i : Int) := by omega
          have g1 : (i : Int) < (n : Int) := by omega
          have HLN := Lib.hid HD.out.len
          have HD' := Lib.hid (show DL base g cap l gr w (i + 1) (j + 1) ((cs'.set (i * 2) (.int .i64 xa)).set (i * 2 + 1) (.int .i64 xb)) ((w5.setCell ⟨g, i * 2, none⟩ (.int .i64 xa)).setCell ⟨g, i * 2 + 1, none⟩ (.int .i64 xb)) from by
            have r1 := (R5.set (i * 2) (.int .i64 xa)).set (i * 2 + 1) (.int .i64 xb)
            rw [tset, tset] at r1
            have hb5 := B1.trans (k5.mono sB)
            refine ⟨by omega, by omega, by simp [HLN.out], r1, ?_, fun q hq hqj => ?_, (hb5.grown (grown_setC w5 g (i * 2) _) (Nat.le_trans hbs hb5.size) (fun e h => by cases h; exact hgb)).grown (grown_setC _ g (i * 2 + 1) _) (by have := Nat.le_trans hbs hb5.size; simpa [World.setCell] using this) (fun e h => by cases h; exact hgb), fun q hq hqg => ?_⟩
            · rw [HK.out, if_neg (by rw [hv]; simp), rowD_snoc, ← HD.out.kept]
              exact take_set2 cs' i _ _ (by have := HLN.out; omega)
            · have := HD.out.rest q hq (by omega)
              rw [List.getElem?_set_ne (by omega), List.getElem?_set_ne (by omega), List.getElem?_set_ne (by omega), List.getElem?_set_ne (by omega)]
              exact this
            · rw [Below.heap_setCell _ ⟨g, i * 2 + 1, none⟩ _ q hqg, Below.heap_setCell _ ⟨g, i * 2, none⟩ _ q hqg, k5.block q (by have := HD.out.below.size; rw [World.size_alloc]; omega), Below.heap_alloc wr _ q (by have := HD.out.below.size; omega)]
              exact HD.out.oth q hq hqg)
          clear cb k5 U R1 B1 u0 u1 z0 z1 U5 R5
          go_wp2_with fail
          go_roundw
          case rel => exact ⟨i + 1, j + 1, _, by go_num, by go_num, by omega, HD'⟩
          case measure => simp [intOf]; omega
      · obtain rfl : j = n := by omega
        have hij := HD.out.lt
        have hcapn : ¬ (cap = i) := by omega
        have hcc : i ≤ cap := by omega
        have hln := HD.out.len
        obtain ⟨zs, hzl, hclr⟩ := run_clearN wr g (i * 2) (j - i) (cap - i) cs' 59 HD.out.row (by omega) (by omega)
        have HK := Lib.hid HD.out.kept
        have hkl : (keepD gr l).length = i := by
          have h1 := congrArg List.length HD.out.kept
          rw [List.length_take, List.take_of_length_le (by rw [HN.out]; exact Nat.le_refl _), rowD_len] at h1
          omega
        have HKL := Lib.hid hkl
        have hsb : base ≤ wr.heap.size := Nat.le_trans hbs HD.out.below.size
        clear hkl
        go_wp2_with fail
        go_ret
        have htl : l.take j = l := List.take_of_length_le (by rw [HN.out]; exact Nat.le_refl _)
        have hk2 := HK.out
        rw [htl] at hk2
        refine ⟨i, rfl, HKL.out, ⟨by rw [rowD_len, HKL.out], .inr ⟨g, cap, _, rfl, hgb, setRow_heap wr g _ _ 59 _ HD.out.row, hcc, by unfold maxLen; omega, ?_, ?_⟩⟩, below_setRow HD.out.below hgb _, fun q hq hqg => (setRow_other wr g q _ (hqg g 0 none rfl)).trans (HD.out.oth q hq (hqg g 0 none rfl))⟩
        · simp only [List.size_toArray, List.length_append, List.length_take, List.length_drop, hzl, hln]
          omega
        · show (cs'.take (i * 2) ++ _).take (i * 2) = _
          rw [List.take_left' (by rw [List.length_take, hln]; omega), hk2]
  · rw [hf] at cI
    have hka := Lib.hid (keepD_all hall)
    clear hf hall
    go_enter Try.func82, Try.ntmps82
    go_wp2_with fail
    (with_reducible refine cI.mono ?_)
    rintro e w1 ⟨rfl, k1⟩
    go_wp2
    go_ret
    exact ⟨n, rfl, by rw [hka.out]; exact HN.out, by rw [hka.out]; exact row_below HO.out k1, k1.mono hbs, fun q hq _ => k1.block q hq⟩
end Go.Proofs.Ytjhppkjngifibaa
