/- Layer 22: slices.DeleteFunc on a table of one's own (41), the closure of Remove (43), Remove (19), Find (18). -/
import Derived.Test.YtmpklkhjipclmaaVT
import Derived.Laws.CopyOwn
import Derived.Deep.RegionHeld3
namespace Go.Proofs.Ytmpklkhjipclmaa
open Go.RowKit Go.Lib
set_option linter.unusedVariables false

def keepR (q : Rv → Bool) (l : List Rv) : List Rv := l.filter fun y => !q y
theorem keepR_snoc (q : Rv → Bool) (l : List Rv) (k : Nat) (h : k < l.length) : keepR q (l.take (k + 1)) = keepR q (l.take k) ++ (if q l[k] = true then [] else [l[k]]) := by
  unfold keepR
  rw [List.take_succ_eq_append_getElem h, List.filter_append]
  by_cases e : q l[k] = true
  · rw [if_pos e, List.filter_cons_of_neg (p := fun y : Rv => !q y) (by simp [e])]; rfl
  · rw [if_neg e, List.filter_cons_of_pos (p := fun y : Rv => !q y) (by simp [e])]; rfl
theorem keepR_all {q : Rv → Bool} {l : List Rv} (h : ∀ j (h : j < l.length), q l[j] = false) : keepR q l = l := by
  unfold keepR
  rw [List.filter_eq_self]
  intro x hx
  obtain ⟨j, hj, rfl⟩ := List.mem_iff_getElem.1 hx
  rw [h j hj]; rfl
theorem keepR_len (q : Rv → Bool) (l : List Rv) : (keepR q l).length ≤ l.length := List.length_filter_le _ _
theorem tset (cs : List Value) (x : Nat) (v : Value) : (cs.toArray).modify x (fun _ => v) = (cs.set x v).toArray := by
  apply Array.ext
  · simp
  · intro i h1 h2
    simp only [List.modify_toArray, List.getElem_toArray, List.getElem_modify, List.getElem_set]
theorem run_clear3 (w : World) (g o m c : Nat) (cs : List Value) (t : TypeId) (hg : w.heap[g]? = some (.cells cs.toArray t (0, 0))) (hfit : o + m * 3 ≤ cs.length) (hm : 0 < m) :
    ∃ zs : List Value, zs.length = m * 3 ∧ ∀ ty, (Builtin.clear_ #[24] ty #[.slice (some ⟨g, o, none⟩) m c]).run Try.prog w = .ok (.tuple #[]) (w.setRow g (cs.take o ++ zs ++ cs.drop (o + m * 3)).toArray) := by
  have hz := Try.zeroValue23 w
  have hl : (Builtin.zeroCells (Value.agg #[.int .i64 0, .string ⟨#[]⟩, .int .i64 0]).cells m).toList.length = m * 3 := by
    rw [Array.length_toList, Go.size_zeroCells]; rfl
  have h1 : ∀ u ∈ (Builtin.zeroCells (Value.agg #[.int .i64 0, .string ⟨#[]⟩, .int .i64 0]).cells m).toList, u.oneCell' = true := by
    intro u hu
    unfold Builtin.zeroCells at hu
    simp only [Array.toList_map, List.mem_map] at hu
    obtain ⟨i, _, rfl⟩ := hu
    have : i % 3 = 0 ∨ i % 3 = 1 ∨ i % 3 = 2 := by omega
    show ((#[Value.int .i64 0, Value.string ⟨#[]⟩, Value.int .i64 0] : Array Value)[i % 3]!).oneCell' = true
    rcases this with e | e | e <;> rw [e] <;> rfl
  have e1 := run_storeCells_at Try.prog g o t _ 0 cs.toArray w hg (by rw [hl]; simpa using hfit) h1
  refine ⟨_, hl, fun ty => ?_⟩
  rw [hl] at e1
  simp only [Nat.add_zero] at e1
  cases m with
  | zero => omega
  | succ m => simp [Builtin.clear_, run_underlying Try.underlying24, hz, e1]
theorem take_set3 (cs : List Value) (i : Nat) (a b c : Value) (h : i * 3 + 2 < cs.length) : (((cs.set (i * 3) a).set (i * 3 + 1) b).set (i * 3 + 2) c).take ((i + 1) * 3) = cs.take (i * 3) ++ [a, b, c] := by
  apply List.ext_getElem?
  intro q
  rw [List.getElem?_take]
  by_cases h1 : q < i * 3
  · rw [if_pos (by omega), List.getElem?_set_ne (by omega), List.getElem?_set_ne (by omega), List.getElem?_set_ne (by omega), List.getElem?_append_left (by simp; omega), List.getElem?_take, if_pos h1]
  · have hl : (cs.take (i * 3)).length = i * 3 := by simp; omega
    rw [List.getElem?_append_right (by omega), hl]
    by_cases h2 : q = i * 3
    · subst h2
      rw [if_pos (by omega), List.getElem?_set_ne (by omega), List.getElem?_set_ne (by omega), List.getElem?_set_self (by omega), Nat.sub_self]; rfl
    · by_cases h3 : q = i * 3 + 1
      · subst h3
        rw [if_pos (by omega), List.getElem?_set_ne (by omega), List.getElem?_set_self (by simp; omega), show i * 3 + 1 - i * 3 = 1 by omega]; rfl
      · by_cases h4 : q = i * 3 + 2
        · subst h4
          rw [if_pos (by omega), List.getElem?_set_self (by simp; omega), show i * 3 + 2 - i * 3 = 2 by omega]; rfl
        · rw [if_neg (by omega), List.getElem?_eq_none (by simp; omega)]
/-- A test of revisions by the closure of Remove. -/
def TestR (b1 : Nat) (q : Rv → Bool) (B : Nat) (w : World) : Prop :=
  ∀ (x : Rv), I64 x.id → ∀ w', Below B w w' → Calls Try.prog 43 #[.agg #[.int .i64 x.id, .string x.author, .int .i64 x.time], .pointer (some ⟨b1, 0, none⟩)] w' fun e w'' => e = .returned (.bool (q x)) ∧ Below w'.heap.size w' w''
set_option maxRecDepth 100000 in
set_option maxHeartbeats 8000000 in
theorem indexrm_in (l : List Rv) (n : Nat) (hn : l.length = n) (h1000 : n ≤ 1000) (A : Option Addr) (c : Nat) (q : Rv → Bool) (b1 : Nat) (w : World) (hA : RsAt w A l) (hok : RsOk l) (hT : TestR b1 q w.heap.size w) :
    Calls Try.prog 57 #[.slice A n c, .func (.func 43) #[] #[.pointer (some ⟨b1, 0, none⟩)]] w fun e w' => e = .returned (.int .i64 (fstQ q l)) ∧ Below w.heap.size w w' := by
  have HN := Lib.hid hn
  have HA := Lib.hid hA
  have CB := Lib.hid hT
  have HOK := Lib.hid hok
  clear hn hA hT hok
  go_enter Try.func57, Try.ntmps57
  go_wp2_with fail
  go_loopw [5, 8] (fun _ s8 wr => ∃ k : Nat, k ≤ n ∧ s8 = .int .i64 (k : Nat) ∧ Hid (BeforeQ q l k) ∧ Hid (Below w.heap.size w wr)) (fun _ s8 _ => n - (intOf s8).toNat)
  case atStart => exact ⟨0, Nat.zero_le _, rfl, Lib.hid (BeforeQ.zero _ _), Lib.hid (Below.refl _ _)⟩
  case round =>
    obtain ⟨k, hk, rfl, HM, HB⟩ := hrel
    by_cases hlt : k < n
    · have hkl : k < l.length := by rw [HN.out]; exact hlt
      obtain ⟨g, o, rfl, hg, hcl⟩ := HA.out.pos (by omega)
      obtain ⟨z0, z1, z2⟩ := hcl k hkl
      replace z0 := (HB.out.cell (p := ⟨g, o + k * 3, none⟩) hg).trans z0
      replace z1 := (HB.out.cell (p := ⟨g, o + k * 3 + 1, none⟩) hg).trans z1
      replace z2 := (HB.out.cell (p := ⟨g, o + k * 3 + 2, none⟩) hg).trans z2
      have HY := Lib.hid (fun (h : q l[k] = true) => fstQ_yes hkl h HM.out)
      have HX := Lib.hid (fun (h : q l[k] = false) => HM.out.succ hkl h)
      have hs := HB.out.size
      have cb := CB.out l[k] (HOK.out _ (List.getElem_mem hkl)).1 wr HB.out
      clear hcl
      generalize l[k] = x at z0 z1 z2 HY HX cb
      obtain ⟨a1, a2, a3⟩ := x
      dsimp only [rvV] at z0 z1 z2 HY HX cb
      cases hv : q ⟨a1, a2, a3⟩ with
      | true =>
        have HE := Lib.hid (HY.out hv)
        rw [hv] at cb
        clear HY HX hv
        go_wp2_with fail
        (with_reducible refine cb.mono ?_)
        rintro e w7 ⟨rfl, k7⟩
        have K7 := Go.Lib.hid (HB.out.trans (k7.mono hs))
        clear cb k7
        go_wp2
        go_ret
        exact ⟨by rw [← HE.out]; rfl, K7.out⟩
      | false =>
        rw [hv] at cb
        have HE := Lib.hid (HX.out hv)
        clear HY HX hv
        go_wp2_with fail
        (with_reducible refine cb.mono ?_)
        rintro e w7 ⟨rfl, k7⟩
        have K7 := Go.Lib.hid (HB.out.trans (k7.mono hs))
        clear cb k7 z0 z1 z2
        go_wp2
        go_roundw
        case rel => exact ⟨k + 1, by omega, by go_num, HE, K7⟩
        case measure => simp [intOf]; omega
    · obtain rfl : k = n := by omega
      have HE := Lib.hid (fstQ_no (q := q) (l := l) fun j h => HM.out j h (by rw [← HN.out]; exact h))
      go_wp2
      go_ret
      exact ⟨by rw [HE.out]; rfl, HB.out⟩

/-- A row of one's own, gone through up to j: i of them are kept. -/
structure DL (base g cap : Nat) (l : List Rv) (p : Rv → Bool) (w : World) (i j : Nat) (cs : List Value) (wr : World) : Prop where
  lt : i < j
  le : j ≤ l.length
  len : cs.length = cap * 3
  row : ObjAt wr g cs.toArray 23
  kept : cs.take (i * 3) = rowR (keepR p (l.take j))
  rest : ∀ q (h : q < l.length), j ≤ q → cs[q * 3]? = some (.int .i64 l[q].id) ∧ cs[q * 3 + 1]? = some (.string l[q].author) ∧ cs[q * 3 + 2]? = some (.int .i64 l[q].time)
  below : Below base w wr
set_option maxRecDepth 100000 in
set_option maxHeartbeats 8000000 in
theorem delfunc_any (l : List Rv) (n cap : Nat) (hn : l.length = n) (h1000 : n ≤ 1000) (B : Option Addr) (base : Nat) (p : Rv → Bool) (bg : Nat) (w : World) (hbs : base ≤ w.heap.size) (hown : w.ownsRow base 23 3 (.slice B n cap) n (rowR l)) (hok : RsOk l) (hT : TestR bg p base w) :
    Calls Try.prog 41 #[.slice B n cap, .func (.func 43) #[] #[.pointer (some ⟨bg, 0, none⟩)]] w fun e w' => ∃ k, e = .returned (.slice B k cap) ∧ (keepR p l).length = k ∧ w'.ownsRow base 23 3 (.slice B k cap) k (rowR (keepR p l)) ∧ Below base w w' := by
  obtain ⟨A2, c2, he2, hc1, hc2, hpr⟩ := row_rs hown hn
  injection he2 with q1 q2 q3
  subst q1 q3
  clear q2
  have cI := indexrm_in l n hn h1000 B cap p bg w hpr hok (fun x hx w' hb => hT x hx w' (hb.mono hbs))
  have HOK := Lib.hid hok
  have hor := fstQ_or p l
  have HO := Lib.hid hown
  have HN := Lib.hid hn
  have CB := Lib.hid hT
  unfold maxLen at hc2
  clear hown hT hpr hn hok
  rcases hor with ⟨k, hk, hf, hk1, hk2⟩ | ⟨hf, hall⟩
  · rw [hf] at cI
    go_enter Try.func41, Try.ntmps41
    go_wp2_with fail
    (with_reducible refine cI.mono ?_)
    rintro e w1 ⟨rfl, k1⟩
    have hkn : k < n := by rw [← HN.out]; exact hk
    have e1 : ((k : Int) == -1) = false := by rw [beq_eq_false_iff_ne]; omega
    have gk : IntKind.i64.wrap ((k : Int) + 1) = ((k + 1 : Nat) : Int) := by rw [IntKind.wrap_i64]; omega
    have hro := row_below HO.out k1
    rcases hro.2 with ⟨hvv, h0⟩ | ⟨g, cap', cur, hvv, hgb, hg, hcap, hcm, hsz, htk⟩
    · omega
    injection hvv with z1 z2 z3
    subst z1 z3
    obtain ⟨cs⟩ := cur
    simp only [List.size_toArray] at hsz htk
    have hks : keepR p (l.take k) = l.take k := keepR_all (fun j hj => by
      rw [List.length_take] at hj
      rw [List.getElem_take]
      exact hk2 j (by omega) (by omega))
    have hcell : ∀ q u, (rowR l)[q]? = some u → cs[q]? = some u := fun q u hq => by
      rw [← htk, List.getElem?_take] at hq
      split at hq
      · exact hq
      · cases hq
    have S0 := Lib.hid (show DL base g cap l p w k (k + 1) cs w1 from ⟨by omega, by omega, by rw [hsz], hg, by
        rw [keepR_snoc p l k hk, if_pos hk1, List.append_nil, hks]
        have := congrArg (List.take (k * 3)) htk
        rw [List.take_take, Nat.min_eq_left (by omega)] at this
        rw [this]
        have e : rowR l = rowR (l.take k) ++ rowR (l.drop k) := by rw [← rowR_append, List.take_append_drop]
        rw [e, List.take_left' (by rw [rowR_len, List.length_take]; omega)],
      fun q hq _ => by
        have hl := rowR_get l q hq
        exact ⟨by have := hl 0 (by omega); exact hcell _ _ this, by have := hl 1 (by omega); exact hcell _ _ this, by have := hl 2 (by omega); exact hcell _ _ this⟩, k1.mono hbs⟩)
    clear cI hk1 hk2 hro hg htk hks hcell k1 hcm hf
    go_wp2_with fail
    go_loopw [5, 6] (fun s5 s6 wr => ∃ (i j : Nat) (cs : List Value), s5 = .int .i64 (i : Nat) ∧ s6 = .int .i64 (j : Nat) ∧ j ≤ n ∧ Hid (DL base g cap l p w i j cs wr)) (fun _ s6 _ => n - (intOf s6).toNat)
    case atStart => exact ⟨k, k + 1, cs, rfl, by first | rfl | go_num, by omega, S0⟩
    case round =>
      obtain ⟨i, j, cs', rfl, rfl, hj, HD⟩ := hrel
      clear S0
      by_cases hlt : j < n
      · have hjl : j < l.length := by rw [HN.out]; exact hlt
        have hr := HD.out.rest j hjl (Nat.le_refl _)
        have z0 := HD.out.row.get (k := j * 3) (v := .int .i64 l[j].id) (by simpa using hr.1)
        have z1 := HD.out.row.get (k := j * 3 + 1) (v := .string l[j].author) (by simpa using hr.2.1)
        have z2 := HD.out.row.get (k := j * 3 + 2) (v := .int .i64 l[j].time) (by simpa using hr.2.2)
        have f0 : (0 : Int) ≤ (j : Int) := by omega
        have f1 : (j : Int) < (n : Int) := by omega
        have hij := HD.out.lt
        have hs : base ≤ wr.heap.size := Nat.le_trans hbs HD.out.below.size
        have HK := Lib.hid (keepR_snoc p l j hjl)
        clear hr
        have i1 := (HOK.out _ (List.getElem_mem hjl)).1
        generalize l[j] = x at z0 z1 z2 HK i1
        obtain ⟨xa, xs, xt⟩ := x
        dsimp only at z0 z1 z2 i1
        have cb : Calls Try.prog 43 #[.agg #[.int .i64 xa, .string xs, .int .i64 xt], .pointer (some ⟨bg, 0, none⟩)] (wr.alloc (.cells #[.int .i64 xa, .string xs, .int .i64 xt] 23)) (fun e w'' => e = .returned (.bool (p ⟨xa, xs, xt⟩)) ∧ Below (wr.alloc (.cells #[.int .i64 xa, .string xs, .int .i64 xt] 23)).heap.size (wr.alloc (.cells #[.int .i64 xa, .string xs, .int .i64 xt] 23)) w'') := CB.out ⟨xa, xs, xt⟩ i1 (wr.alloc (.cells #[.int .i64 xa, .string xs, .int .i64 xt] 23)) (HD.out.below.alloc hs _)
        have U := ObjAt.new wr #[.int .i64 xa, .string xs, .int .i64 xt] 23
        have R1 := HD.out.row.alloc (.cells #[.int .i64 xa, .string xs, .int .i64 xt] 23)
        have B1 := HD.out.below.alloc hs (.cells #[.int .i64 xa, .string xs, .int .i64 xt] 23)
        have u0 := U.b0
        have u1 := U.b1
        have u2 := U.b2
        have sB : base ≤ (wr.alloc (.cells #[.int .i64 xa, .string xs, .int .i64 xt] 23)).heap.size := by rw [World.size_alloc]; omega
        cases hv : p ⟨xa, xs, xt⟩ with
        | true =>
          rw [hv] at cb
          go_wp2_with fail
          (with_reducible refine cb.mono ?_)
          rintro e w5 ⟨rfl, k5⟩
          have HD' := Lib.hid (show DL base g cap l p w i (j + 1) cs' w5 from ⟨by omega, by omega, HD.out.len, R1.below k5, by rw [HK.out, if_pos hv, List.append_nil]; exact HD.out.kept, fun q hq hqj => HD.out.rest q hq (by omega), B1.trans (k5.mono sB)⟩)
          clear cb k5 U R1 B1 u0 u1 u2 z0 z1 z2
          go_wp2
          go_roundw
          case rel => exact ⟨i, j + 1, cs', rfl, by go_num, by omega, HD'⟩
          case measure => simp [intOf]; omega
        | false =>
          rw [hv] at cb
          go_wp2_with fail
          (with_reducible refine cb.mono ?_)
          rintro e w5 ⟨rfl, k5⟩
          have U5 := U.below k5
          have v0 := U5.b0
          have v1 := U5.b1
          have v2 := U5.b2
          have R5 := R1.below k5
          have w0 := R5.get (k := i * 3) (v := cs'[i * 3]'(by have := HD.out.len; omega)) (by simp)
          have w1 := R5.get (k := i * 3 + 1) (v := cs'[i * 3 + 1]'(by have := HD.out.len; omega)) (by simp)
          have w2 := R5.get (k := i * 3 + 2) (v := cs'[i * 3 + 2]'(by have := HD.out.len; omega)) (by simp)
          have y0 := R5.frozen (i * 3)
          have y1 := R5.frozen (i * 3 + 1)
          have y2 := R5.frozen (i * 3 + 2)
          have g0 : (0 : Int) ≤ (i : Int) := by omega
          have g1 : (i : Int) < (n : Int) := by omega
          have HLN := Lib.hid HD.out.len
          have HD' := Lib.hid (show DL base g cap l p w (i + 1) (j + 1) (((cs'.set (i * 3) (.int .i64 xa)).set (i * 3 + 1) (.string xs)).set (i * 3 + 2) (.int .i64 xt)) (((w5.setCell ⟨g, i * 3, none⟩ (.int .i64 xa)).setCell ⟨g, i * 3 + 1, none⟩ (.string xs)).setCell ⟨g, i * 3 + 2, none⟩ (.int .i64 xt)) from by
            have r1 := ((R5.set (i * 3) (.int .i64 xa)).set (i * 3 + 1) (.string xs)).set (i * 3 + 2) (.int .i64 xt)
            rw [tset, tset, tset] at r1
            have hb5 := B1.trans (k5.mono sB)
            have sz5 := Nat.le_trans hbs hb5.size
            refine ⟨by omega, by omega, by simp [HLN.out], r1, ?_, fun q hq hqj => ?_, ((hb5.grown (grown_setC w5 g (i * 3) _) sz5 (fun e h => by cases h; exact hgb)).grown (grown_setC _ g (i * 3 + 1) _) (by simpa [World.setCell] using sz5) (fun e h => by cases h; exact hgb)).grown (grown_setC _ g (i * 3 + 2) _) (by simpa [World.setCell] using sz5) (fun e h => by cases h; exact hgb)⟩
            · rw [HK.out, if_neg (by rw [hv]; simp), rowR_snoc, ← HD.out.kept]
              exact take_set3 cs' i _ _ _ (by have := HLN.out; omega)
            · have := HD.out.rest q hq (by omega)
              rw [List.getElem?_set_ne (by omega), List.getElem?_set_ne (by omega), List.getElem?_set_ne (by omega), List.getElem?_set_ne (by omega), List.getElem?_set_ne (by omega), List.getElem?_set_ne (by omega), List.getElem?_set_ne (by omega), List.getElem?_set_ne (by omega), List.getElem?_set_ne (by omega)]
              exact this)
          clear cb k5 U R1 B1 u0 u1 u2 z0 z1 z2 U5 R5
          go_wp2_with fail
          go_roundw
          case rel => exact ⟨i + 1, j + 1, _, by go_num, by go_num, by omega, HD'⟩
          case measure => simp [intOf]; omega
      · obtain rfl : j = n := by omega
        have hij := HD.out.lt
        have hcapn : ¬ (cap = i) := by omega
        have hcc : i ≤ cap := by omega
        have hln := HD.out.len
        obtain ⟨zs, hzl, hclr⟩ := run_clear3 wr g (i * 3) (j - i) (cap - i) cs' 23 HD.out.row (by omega) (by omega)
        have HK := Lib.hid HD.out.kept
        have hkl : (keepR p l).length = i := by
          have h1 := congrArg List.length HD.out.kept
          rw [List.length_take, List.take_of_length_le (by rw [HN.out]; exact Nat.le_refl _), rowR_len] at h1
          omega
        have HKL := Lib.hid hkl
        have hsb : base ≤ wr.heap.size := Nat.le_trans hbs HD.out.below.size
        clear hkl
        go_wp2_with fail
        go_ret
        have htl : l.take j = l := List.take_of_length_le (by rw [HN.out]; exact Nat.le_refl _)
        have hk2 := HK.out
        rw [htl] at hk2
        refine ⟨i, rfl, HKL.out, ⟨by rw [rowR_len, HKL.out], .inr ⟨g, cap, _, rfl, hgb, setRow_heap wr g _ _ 23 _ HD.out.row, hcc, by unfold maxLen; omega, ?_, ?_⟩⟩, below_setRow HD.out.below hgb _⟩
        · simp only [List.size_toArray, List.length_append, List.length_take, List.length_drop, hzl, hln]
          omega
        · show (cs'.take (i * 3) ++ _).take (i * 3) = _
          rw [List.take_left' (by rw [List.length_take, hln]; omega), hk2]
  · rw [hf] at cI
    have hka := Lib.hid (keepR_all hall)
    clear hf hall
    go_enter Try.func41, Try.ntmps41
    go_wp2_with fail
    (with_reducible refine cI.mono ?_)
    rintro e w1 ⟨rfl, k1⟩
    go_wp2
    go_ret
    exact ⟨n, rfl, by rw [hka.out]; exact HN.out, by rw [hka.out]; exact row_below HO.out k1, k1.mono hbs⟩
set_option maxRecDepth 100000 in
theorem f43_any (x : Rv) (hx : I64 x.id) (l : List Int) (pb b n : Nat) (w : World) (h1 : w.cell? ⟨pb, 0, none⟩ = some (.map (some b))) (hS : SetI w b n l) :
    Calls Try.prog 43 #[rvV x, .pointer (some ⟨pb, 0, none⟩)] w fun e w' => e = .returned (.bool (decide (x.id ∈ l))) ∧ Below w.heap.size w w' := by
  have hb := Lib.hid ((Below.refl w.heap.size w).alloc (Nat.le_refl _) (.cells #[.int .i64 x.id, .string x.author, .int .i64 x.time] 23))
  have hp : pb < w.heap.size := World.block_lt_of_cell? w ⟨pb, 0, none⟩ h1
  have hk := (hS.below hS.lt hb.out).look hx
  have h2 := (hb.out.cell (p := ⟨pb, 0, none⟩) hp).trans h1
  generalize decide (x.id ∈ l) = r at hk ⊢
  clear hS
  go_enter Try.func43, Try.ntmps43
  go_wp2
  go_ret
  exact ⟨rfl, hb.out⟩
/-- What is left without the numbers. -/
def remL (l : List Rv) (ids : List Int) : List Rv := keepR (fun x => decide (x.id ∈ ids)) l
set_option maxRecDepth 100000 in
set_option maxHeartbeats 8000000 in
theorem remove_any (l : List Rv) (n : Nat) (hn : l.length = n) (h1000 : n ≤ 1000) (hok : RsOk l) (A : Option Addr) (c : Nat) (hc : n ≤ c ∧ c ≤ maxLen) (ids : List Int) (m : Nat) (hm : ids.length = m) (hm1000 : m ≤ 1000) (hiok : ∀ a ∈ ids, I64 a) (B : Option Addr) (d : Nat) (w : World) (hA : RsAt w A l) (hB : NsAt w B ids) :
    Calls Try.prog 19 #[.slice A n c, .slice B m d] w fun e w' => ∃ C cap, e = .returned (.slice C (remL l ids).length cap) ∧ w'.ownsRow w.heap.size 23 3 (.slice C (remL l ids).length cap) (remL l ids).length (rowR (remL l ids)) ∧ Below w.heap.size w w' := by
  have cS := setofi_any ids m hm hm1000 hiok B d w hB
  have HA := Lib.hid hA
  have HOK := Lib.hid hok
  have HN := Lib.hid hn
  have HC := Lib.hid hc
  clear hA hok hn hc hB
  go_enter Try.func19, Try.ntmps19
  go_wp2_with fail
  (with_reducible refine cS.mono ?_)
  rintro e w1 ⟨b, k, rfl, hbb, hS, hk, k1⟩
  have K1 := Lib.hid k1
  have s1 := k1.size
  have HS := Lib.hid (hS.kept (World.grownBy_alloc w1 (.cells #[.map (some b)] 71) none) (by simp))
  have X2 := Lib.hid (Boxed.new w1 71 (.map (some b)))
  have K2 := Lib.hid (K1.out.alloc s1 (.cells #[.map (some b)] 71))
  have s2 := K2.out.size
  have hp1 : w1.heap.size < (w1.alloc (.cells #[.map (some b)] 71)).heap.size := by simp
  have cC := clone_any A n c l HN.out HC.out h1000 (w1.alloc (.cells #[.map (some b)] 71)) (HA.out.below K2.out)
  clear cS k1 hS
  go_wp2_with fail
  (with_reducible refine cC.mono ?_)
  rintro e w3 ⟨C, cb, rfl, hr3, k3⟩
  have K3 := Lib.hid (K2.out.trans (k3.mono s2))
  have s3 := K3.out.size
  have hTT : TestR w1.heap.size (fun x => decide (x.id ∈ ids)) (w1.alloc (.cells #[.map (some b)] 71)).heap.size w3 := fun x hx w' hb =>
    f43_any x hx ids w1.heap.size b k w' (((k3.trans hb).cell (p := ⟨w1.heap.size, 0, none⟩) hp1).trans X2.out.cell) (HS.out.below HS.out.lt (k3.trans hb))
  have cD := delfunc_any l n cb HN.out h1000 C _ (fun x => decide (x.id ∈ ids)) w1.heap.size w3 k3.size hr3 HOK.out hTT
  have B3 := Lib.hid k3
  clear cC k3 hr3 hTT
  go_wp2_with fail
  (with_reducible refine cD.mono ?_)
  rintro e w4 ⟨m4, rfl, hk4, hr4, k4⟩
  go_wp2
  go_ret
  have hk5 : (remL l ids).length = m4 := hk4
  exact ⟨C, cb, by rw [hk5]; rfl, by rw [hk5]; exact own_lower (b' := w.heap.size) hr4 s2, K2.out.trans ((B3.out.trans k4).mono s2)⟩
/-- What Find hands back. -/
def FR (l : List Rv) (p : Int) (e : Ending) : Prop := (∃ (k : Nat) (h : k < l.length), fnd p l = (k : Int) ∧ e = .returned (.tuple #[rvV l[k], .bool true])) ∨ (fnd p l = -1 ∧ e = .returned (.tuple #[.agg #[.int .i64 0, .string ⟨#[]⟩, .int .i64 0], .bool false]))
set_option maxRecDepth 100000 in
set_option maxHeartbeats 8000000 in
theorem find18_any (l : List Rv) (n : Nat) (hn : l.length = n) (h1000 : n ≤ 1000) (hz : SzOk l) (A : Option Addr) (c : Nat) (p : Int) (w : World) (hA : RsAt w A l) :
    Calls Try.prog 18 #[.slice A n c, .int .i64 p] w fun e w' => FR l p e ∧ Below w.heap.size w w' := by
  have b0 := (Below.refl w.heap.size w).alloc (Nat.le_refl _) (.cells #[.int .i64 0, .string ⟨#[]⟩, .int .i64 0] 23)
  have O0 := ObjAt.new w #[.int .i64 0, .string ⟨#[]⟩, .int .i64 0] 23
  have cF := find39_any l n hn h1000 hz A c p (w.alloc (.cells #[.int .i64 0, .string ⟨#[]⟩, .int .i64 0] 23)) (hA.below b0)
  have HO := Lib.hid O0
  have HB := Lib.hid b0
  have s0 := b0.size
  have HA := Lib.hid hA
  have HN := Lib.hid hn
  have HF := Lib.hid (fnd_or p l)
  clear O0 b0 hA hn hz
  go_enter Try.func18, Try.ntmps18
  go_wp2_with fail
  (with_reducible refine cF.mono ?_)
  rintro e w1 ⟨⟨x, rfl, hx⟩, k1⟩
  have O1 := HO.out.below k1
  have x0 := O1.get (k := 0) rfl
  have x1 := O1.get (k := 1) rfl
  have x2 := O1.get (k := 2) rfl
  have t0 := O1.frozen 0
  have t1 := O1.frozen 1
  have t2 := O1.frozen 2
  have K1 := Lib.hid (HB.out.trans (k1.mono s0))
  rcases HF.out with ⟨k, hk, hf, hke, _⟩ | ⟨hf, hno⟩
  · have hd : decide (0 ≤ fnd p l) = true := decide_eq_true (by omega)
    have hxk : x = (k : Int) := (hx (by omega)).trans hf
    subst hxk
    rw [hd]
    have hkn : k < n := by rw [← HN.out]; exact hk
    obtain ⟨g, o, rfl, hg, hcl⟩ := HA.out.pos (by omega)
    obtain ⟨c0, c1, c2⟩ := hcl k hk
    have z0 := (K1.out.cell (p := ⟨g, o + k * 3, none⟩) hg).trans c0
    have z1 := (K1.out.cell (p := ⟨g, o + k * 3 + 1, none⟩) hg).trans c1
    have z2 := (K1.out.cell (p := ⟨g, o + k * 3 + 2, none⟩) hg).trans c2
    have g0 : (0 : Int) ≤ (k : Int) := by omega
    have g1 : (k : Int) < (n : Int) := by omega
    have HE := Lib.hid (show FR l p (.returned (.tuple #[.agg #[.int .i64 l[k].id, .string l[k].author, .int .i64 l[k].time], .bool true])) from .inl ⟨k, hk, hf, rfl⟩)
    clear hcl c0 c1 c2 hf hke hx hd cF
    generalize l[k] = y at z0 z1 z2 HE
    obtain ⟨ya, ys, yt⟩ := y
    dsimp only at z0 z1 z2 HE
    have O3 := ((O1.set 0 (.int .i64 ya)).set 1 (.string ys)).set 2 (.int .i64 yt)
    have q0 := O3.get (k := 0) (v := .int .i64 ya) (by simp)
    have q1 := O3.get (k := 1) (v := .string ys) (by simp)
    have q2 := O3.get (k := 2) (v := .int .i64 yt) (by simp)
    have KF := Lib.hid (((K1.out.setCell (p := ⟨w.heap.size, 0, none⟩) (Nat.le_refl _) (.int .i64 ya)).setCell (p := ⟨w.heap.size, 1, none⟩) (Nat.le_refl _) (.string ys)).setCell (p := ⟨w.heap.size, 2, none⟩) (Nat.le_refl _) (.int .i64 yt))
    clear O1 O3
    go_wp2
    exact bodyPost_ret (v := .tuple #[.agg #[.int .i64 ya, .string ys, .int .i64 yt], .bool true]) (by simp [results, Try.results18, go_sem, q0, q1, q2]) rfl ⟨HE.out, KF.out⟩
  · have hd : decide (0 ≤ fnd p l) = false := decide_eq_false (by omega)
    rw [hd]
    have HE := Lib.hid (show FR l p (.returned (.tuple #[.agg #[.int .i64 0, .string ⟨#[]⟩, .int .i64 0], .bool false])) from .inr ⟨hf, rfl⟩)
    have O3 := ((O1.set 0 (.int .i64 0)).set 1 (.string ⟨#[]⟩)).set 2 (.int .i64 0)
    have q0 := O3.get (k := 0) (v := .int .i64 0) (by simp)
    have q1 := O3.get (k := 1) (v := .string ⟨#[]⟩) (by simp)
    have q2 := O3.get (k := 2) (v := .int .i64 0) (by simp)
    have KF := Lib.hid (((K1.out.setCell (p := ⟨w.heap.size, 0, none⟩) (Nat.le_refl _) (.int .i64 0)).setCell (p := ⟨w.heap.size, 1, none⟩) (Nat.le_refl _) (.string ⟨#[]⟩)).setCell (p := ⟨w.heap.size, 2, none⟩) (Nat.le_refl _) (.int .i64 0))
    clear O1 O3 cF hf hd hx hno
    go_wp2
    exact bodyPost_ret (v := .tuple #[.agg #[.int .i64 0, .string ⟨#[]⟩, .int .i64 0], .bool false]) (by simp [results, Try.results18, go_sem, q0, q1, q2]) rfl ⟨HE.out, KF.out⟩
end Go.Proofs.Ytmpklkhjipclmaa
