/- Layer 23: search, Get, put, drop, Set, Clear. -/
import Derived.Test.YtjhppkjngifibaaE3
import Derived.Test.YtjhppkjngifibaaEC
namespace Go.Proofs.Ytjhppkjngifibaa
open Go.RowKit Go.Lib
set_option linter.unusedVariables false

/-- What the search over properties hands back. -/
def FoundP (l : List Pr) (p : Int) (w : World) (e : Ending) (w' : World) : Prop := ∃ i : Nat, PartP l p i ∧ Below w.heap.size w w' ∧ e = .returned (.tuple #[.int .i64 i, .bool (decide (∃ h : i < l.length, l[i].1 = p))])
theorem psearch_any (l : List Pr) (hs : SortP l) (A : Option Addr) (c : Nat) (p : Int) (w : World) (hl : l.length ≤ 1000) (hA : AtP w A l) :
    Calls Try.prog 99 #[.slice A l.length c, .int .i64 p, .func (.func 100) #[] #[]] w (FoundP l p w) := by
  refine (searchP_any l (fun i j hi hj hij => ?_) A c p w hl hA).mono ?_
  · rw [List.length_map] at hi hj
    rw [List.getElem_map, List.getElem_map]
    exact hs.le i j hi hj hij
  · rintro e w' ⟨i, ⟨h1, h2, h3⟩, hb, rfl⟩
    rw [List.length_map] at h1
    refine ⟨i, ⟨h1, fun k h hk => ?_, fun k h hk => ?_⟩, hb, ?_⟩
    · have := h2 k (by rw [List.length_map]; exact h) hk
      rwa [List.getElem_map] at this
    · have := h3 k (by rw [List.length_map]; exact h) hk
      rwa [List.getElem_map] at this
    · refine ret_pair rfl (decide_eq_decide.2 ⟨fun ⟨h, e⟩ => ?_, fun ⟨h, e⟩ => ?_⟩)
      · rw [List.length_map] at h
        rw [List.getElem_map] at e
        exact ⟨h, e⟩
      · exact ⟨by rw [List.length_map]; exact h, by rw [List.getElem_map]; exact e⟩
theorem rowP_get2 (l : List Pr) (k : Nat) (h : k < l.length) : (rowP l)[k * 2]? = some (.int .i64 l[k].1) ∧ (rowP l)[k * 2 + 1]? = some (.int .i64 l[k].2) := ⟨by have := rowP_get l k h 0 (by decide); exact this, by have := rowP_get l k h 1 (by decide); exact this⟩
/-- What the search hands back for a key that the list has, and for another one. -/
theorem search_yes (l : List Pr) (hs : SortP l) (A : Option Addr) (len c : Nat) (hl : l.length = len) (hl2 : len ≤ 1000) (p : Int) (w : World) (hA : AtP w A l) (hb : getB l p = true) :
    Calls Try.prog 72 #[.slice A len c, .int .i64 p] w fun e w' => (∃ i, ∃ h : i < l.length, l[i].1 = p ∧ e = .returned (.tuple #[.int .i64 (i : Nat), .bool true])) ∧ Below w.heap.size w w' := by
  have cS := fun w' (hA : AtP w' A l) => psearch_any l hs A c p w' (by rw [hl]; exact hl2) hA
  rw [hl] at cS
  have HB := Go.Lib.hid hb
  have HS := Go.Lib.hid hs
  clear hb hs
  go_enter Try.func72, Try.ntmps72
  go_wp2_with (go_at_call 99; (with_reducible refine (cS _ hA).mono ?_); rintro e w1 ⟨i, PT, hb1, rfl⟩; have P := Go.Lib.hid PT; clear PT)
  go_ret2
  obtain ⟨k, hk, hkp⟩ := getB_mem HB.out
  obtain ⟨h1, h2, h3⟩ := P.out
  have hki : ¬ k < i := fun h => by have := h2 k hk h; omega
  have hil : i < l.length := by omega
  have h4 := h3 i hil (Nat.le_refl _)
  have h5 := HS.out.le i k hil hk (by omega)
  have e1 : l[i].1 = p := by omega
  exact ⟨⟨i, hil, e1, ret_pair rfl (decide_eq_true ⟨by rw [← hl]; exact hil, e1⟩)⟩, hb1⟩
theorem search_no (l : List Pr) (hs : SortP l) (A : Option Addr) (len c : Nat) (hl : l.length = len) (hl2 : len ≤ 1000) (p : Int) (w : World) (hA : AtP w A l) (hb : getB l p = false) :
    Calls Try.prog 72 #[.slice A len c, .int .i64 p] w fun e w' => (∃ i, PartP l p i ∧ e = .returned (.tuple #[.int .i64 (i : Nat), .bool false])) ∧ Below w.heap.size w w' := by
  have cS := fun w' (hA : AtP w' A l) => psearch_any l hs A c p w' (by rw [hl]; exact hl2) hA
  rw [hl] at cS
  have HB := Go.Lib.hid hb
  clear hb
  go_enter Try.func72, Try.ntmps72
  go_wp2_with (go_at_call 99; (with_reducible refine (cS _ hA).mono ?_); rintro e w1 ⟨i, PT, hb1, rfl⟩; have P := Go.Lib.hid PT; clear PT)
  go_ret2
  refine ⟨⟨i, P.out, ret_pair rfl (decide_eq_false fun ⟨h, he⟩ => ?_)⟩, hb1⟩
  have := HB.out
  unfold getB at this
  rw [List.any_eq_false] at this
  exact this (l[i]'(by rw [hl]; exact h)) (List.getElem_mem _) (by simpa using he)
theorem getV_at {l : List Pr} (hs : SortP l) {p : Int} {i : Nat} (h : i < l.length) (he : l[i].1 = p) : getV l p = l[i].2 :=
  (get_at h he fun j hj hji hjp => by have := hs j i hj h hji; omega).2

set_option maxRecDepth 100000 in
set_option maxHeartbeats 4000000 in
theorem get_any (l : List Pr) (hs : SortP l) (A : Option Addr) (len c : Nat) (hl : l.length = len) (hl2 : len ≤ 1000) (hc : len ≤ c ∧ c ≤ maxLen) (p : Int) (w : World) (hA : AtP w A l) :
    Calls Try.prog 37 #[.slice A len c, .int .i64 p] w fun e w' => e = .returned (.tuple #[.int .i64 (getV l p), .bool (getB l p)]) ∧ Below w.heap.size w w' := by
  have HL := Go.Lib.hid hl
  obtain ⟨hc1, hc2⟩ := hc
  unfold maxLen at hc2
  cases hb : getB l p with
  | true =>
    have cS := fun w' (hA : AtP w' A l) => search_yes l hs A len c hl hl2 p w' hA hb
    have HB := Go.Lib.hid hb
    clear hb hl
    go_enter Try.func37, Try.ntmps37
    go_wp2_with fail
    refine (cS _ hA).mono ?_
    rintro e w1 ⟨⟨i, hi, he, rfl⟩, hb1⟩
    have hil : i < len := by rw [← HL.out]; exact hi
    rcases hA with hA0 | ⟨g, o', rfl, hg, hcl⟩
    · rw [hA0] at hi; exact absurd hi (Nat.not_lt_zero _)
    have c1 := (hb1.cell (p := ⟨g, o' + i * 2 + 1, none⟩) hg).trans (hcl i hi).2
    have HV := Go.Lib.hid (getV_at hs hi he)
    clear hcl cS he
    generalize l[i] = y at c1 HV
    obtain ⟨ya, yb⟩ := y
    dsimp only at c1 HV
    go_wp2
    go_ret2
    exact ⟨ret_pair HV.out.symm rfl, hb1⟩
  | false =>
    have cS := fun w' (hA : AtP w' A l) => search_no l hs A len c hl hl2 p w' hA hb
    have HV := Go.Lib.hid (get_none (l := l) (p := p) fun j h he => by
      unfold getB at hb
      rw [List.any_eq_false] at hb
      exact hb l[j] (List.getElem_mem h) (by simpa using he)).2
    clear hb hl
    go_enter Try.func37, Try.ntmps37
    go_wp2_with (go_at_call 72; (with_reducible refine (cS _ hA).mono ?_); rintro e w1 ⟨⟨i, PT, rfl⟩, hb1⟩; clear PT)
    go_ret2
    exact ⟨ret_pair HV.out.symm rfl, hb1⟩
theorem rowP_set (l : List Pr) : ∀ (i : Nat) (k v : Int) (h : i < l.length), l[i].1 = k → (rowP l).set (i * 2 + 1) (.int .i64 v) = rowP (l.take i ++ (k, v) :: l.drop (i + 1)) := by
  induction l with
  | nil => intro i k v h; simp at h
  | cons x l ih =>
    intro i k v h hk
    rw [show rowP (x :: l) = [.int .i64 x.1, .int .i64 x.2] ++ rowP l from rfl]
    cases i with
    | zero =>
      simp only [List.getElem_cons_zero] at hk
      subst hk
      simp [rowP, rowP1]
    | succ i =>
      have e1 : (i + 1) * 2 + 1 = i * 2 + 1 + 1 + 1 := by omega
      rw [e1]
      show (Value.int .i64 x.1 :: Value.int .i64 x.2 :: rowP l).set (i * 2 + 1 + 1 + 1) (.int .i64 v) = _
      rw [List.set_cons_succ, List.set_cons_succ, ih i k v (by simpa using h) (by simpa using hk), List.take_succ_cons, List.cons_append, List.drop_succ_cons]
      rfl
theorem own_store {w : World} {base g n cb i : Nat} {l : List Pr} {k v : Int} (h : w.ownsRow base 61 2 (.slice (some ⟨g, 0, none⟩) n cb) n (rowP l)) (hl : l.length = n) (hi : i < n) (hk : (l[i]'(by omega)).1 = k) :
    (w.setCell ⟨g, i * 2 + 1, none⟩ (.int .i64 v)).ownsRow base 61 2 (.slice (some ⟨g, 0, none⟩) n cb) n (rowP (l.take i ++ (k, v) :: l.drop (i + 1))) := by
  rcases h.2 with ⟨hv, h0⟩ | ⟨g', cap, cur, hv, hb, hg, hc1, hc2, hsz, htk⟩
  · cases hv
  · injection hv with e1 _ e2
    injection e1 with e1
    injection e1 with e1 _ _
    subst e1 e2
    have hset := rowP_set l i k v (by omega) hk
    refine ⟨by rw [← hset, List.length_set, rowP_len, hl], .inr ⟨g, cb, cur.set! (i * 2 + 1) (.int .i64 v), rfl, hb, ?_, hc1, hc2, ?_, ?_⟩⟩
    · rw [setCell_eq_setRow w g (i * 2 + 1) cur 61 (0, 0) _ hg]
      exact setRow_heap w g _ _ 61 _ hg
    · simp [hsz]
    · rw [← hset, ← htk]
      simp [List.take_set]
set_option maxRecDepth 100000 in
set_option maxHeartbeats 8000000 in
theorem put_yes (w : World) (base n : Nat) (B : Option Addr) (cb : Nat) (l : List Pr) (k v : Int) (hs : SortP l) (hl : l.length = n) (hn : n ≤ 900)
    (hown : w.ownsRow base 61 2 (.slice B n cb) n (rowP l)) (hb : getB l k = true) (hbw : base ≤ w.heap.size) :
    Calls Try.prog 90 #[.slice B n cb, .int .i64 k, .int .i64 v] w (OwP base n (setP l k v) w) := by
  obtain ⟨hc1, hc2⟩ := own_caps hown
  unfold maxLen at hc2
  have cS := fun w' hA => search_yes l hs B n cb hl (by omega) k w' hA hb
  have hP := own_atP hown hl
  have HL := Go.Lib.hid hl
  clear hl hb
  go_enter Try.func90, Try.ntmps90
  go_wp2_with fail
  refine (cS _ hP).mono ?_
  rintro e w1 ⟨⟨i, hi, hk, rfl⟩, hb1⟩
  have hin : i < n := by rw [← HL.out]; exact hi
  have hset := set_at hs v hi hk
  obtain ⟨gb, hB⟩ : ∃ gb, B = some ⟨gb, 0, none⟩ := by
    obtain ⟨m, rfl⟩ : ∃ m, n = m + 1 := ⟨n - 1, by omega⟩
    obtain ⟨g', cap', hv⟩ := ownsRow_succ hown
    exact ⟨g', by injection hv⟩
  subst hB
  have hown1 := row_below hown hb1
  have hgb := (hown1.lt gb rfl).1
  obtain ⟨e1, e2⟩ := rowP_get2 l i hi
  have c1 := (hown1.cellAt (i * 2 + 1) (by omega)).trans e2
  have f1 := hown1.frozenAt (i * 2 + 1)
  have hfin := own_store (v := v) hown1 HL.out hin hk
  have HF := Go.Lib.hid hfin
  have HSET := Go.Lib.hid hset
  clear hown hown1 hP cS hs hfin hset e1 e2 hk
  generalize (l[i]).2 = ov at c1
  go_wp2
  go_ret
  exact ⟨some ⟨gb, 0, none⟩, cb, rfl, by rw [HSET.out]; exact HF.out, ((hb1.mono hbw).setCell (p := ⟨gb, i * 2 + 1, none⟩) hgb _)⟩
set_option maxRecDepth 100000 in
set_option maxHeartbeats 8000000 in
theorem put_no (w : World) (base n : Nat) (B : Option Addr) (cb : Nat) (l : List Pr) (k v : Int) (hs : SortP l) (hl : l.length = n) (hn : n ≤ 900)
    (hown : w.ownsRow base 61 2 (.slice B n cb) n (rowP l)) (hb : getB l k = false) (hbw : base ≤ w.heap.size) :
    Calls Try.prog 90 #[.slice B n cb, .int .i64 k, .int .i64 v] w (OwP base (n + 1) (setP l k v) w) := by
  obtain ⟨hc1, hc2⟩ := own_caps hown
  unfold maxLen at hc2
  have cS := fun w' hA => search_no l hs B n cb hl (by omega) k w' hA hb
  have hP := own_atP hown hl
  have HL := Go.Lib.hid hl
  have HB := Go.Lib.hid hb
  clear hl hb
  go_enter Try.func90, Try.ntmps90
  go_wp2_with fail
  refine (cS _ hP).mono ?_
  rintro e w1 ⟨⟨i, hpart, rfl⟩, hb1⟩
  have hset := set_absent v HB.out hpart
  have hin : i ≤ n := by rw [← HL.out]; exact hpart.1
  have hown1 := (row_below hown hb1).alloc (.cells #[.int .i64 k, .int .i64 0] 61)
  have hz1 := hb1.size
  have cI := insertP_any (w1.alloc (.cells #[.int .i64 k, .int .i64 0] 61)) base n i w1.heap.size B cb l k 0 HL.out hin (by omega) (by rw [World.size_alloc]; omega) hown1 (ObjAt.new w1 _ 61) (fun e => by
    subst e
    have := ((row_below hown hb1).lt w1.heap.size rfl).2
    omega)
  have HSET := Go.Lib.hid hset
  clear hown hown1 hP cS hs hset hpart
  go_wp2_with fail
  refine cI.mono ?_
  rintro e w2 ⟨B2, cb2, rfl, hown2, hb2⟩
  obtain ⟨gb, hB⟩ : ∃ gb, B2 = some ⟨gb, 0, none⟩ := by
    obtain ⟨g', cap', hv⟩ := ownsRow_succ hown2
    exact ⟨g', by injection hv⟩
  subst hB
  have hl1 : (l.take i ++ (k, 0) :: l.drop i).length = n + 1 := by rw [insP_len l i _ (by rw [HL.out]; exact hin), HL.out]
  have hlt : (l.take i).length = i := by rw [List.length_take, HL.out]; omega
  have hgb := (hown2.lt gb rfl).1
  have hki : ((l.take i ++ (k, 0) :: l.drop i)[i]'(by omega)) = (k, 0) := by
    rw [List.getElem_append_right (by omega)]
    simp [hlt]
  obtain ⟨e1, e2⟩ := rowP_get2 (l.take i ++ (k, 0) :: l.drop i) i (by omega)
  rw [hki] at e2
  have c1 := (hown2.cellAt (i * 2 + 1) (by omega)).trans e2
  have f1 := hown2.frozenAt (i * 2 + 1)
  obtain ⟨_, hcm2⟩ := own_caps hown2
  unfold maxLen at hcm2
  have hfin := own_store (i := i) (k := k) (v := v) hown2 hl1 (by omega) (by rw [hki])
  have HF := Go.Lib.hid hfin
  have hin2 : i < n + 1 := by omega
  have HLT := Go.Lib.hid hlt
  have HBB := Go.Lib.hid ((((hb1.mono hbw).alloc (by omega) _).trans hb2).setCell (p := ⟨gb, i * 2 + 1, none⟩) hgb (.int .i64 v))
  clear hown2 hfin e1 e2 hki hl1 hlt cI hb1 hb2
  dsimp only at c1
  go_wp2
  go_ret
  refine ⟨some ⟨gb, 0, none⟩, cb2, rfl, ?_, HBB.out⟩
  have e : (l.take i ++ (k, 0) :: l.drop i).take i ++ (k, v) :: (l.take i ++ (k, 0) :: l.drop i).drop (i + 1) = l.take i ++ (k, v) :: l.drop i := by
    rw [List.take_left' HLT.out, List.drop_append, HLT.out, List.drop_eq_nil_of_le (by rw [HLT.out]; omega), Nat.add_sub_cancel_left, List.nil_append, List.drop_succ_cons, List.drop_zero]
  rw [HSET.out, ← e]
  exact HF.out
/-- A list that is handed back, somewhere in memory. -/
def OutP (o : List Pr) (w : World) (e : Ending) (w' : World) : Prop := ∃ B n cb, e = .returned (.slice B n cb) ∧ o.length = n ∧ n ≤ cb ∧ cb ≤ maxLen ∧ w'.ownsRow w.heap.size 61 2 (.slice B n cb) n (rowP o) ∧ Below w.heap.size w w'
set_option maxRecDepth 100000 in
theorem cloneProps_any (A : Option Addr) (len c : Nat) (l : List Pr) (hl : l.length = len) (hc : len ≤ c ∧ c ≤ maxLen) (hs : len ≤ 100000) (w : World) (hA : AtP w A l) :
    Calls Try.prog 62 #[.slice A len c] w (OwP w.heap.size len l w) := by
  have cS := cloneP_any A len c l hl hc hs w hA
  clear hl hA
  go_enter Try.func62, Try.ntmps62
  go_wp2_with (go_at_call 89; (with_reducible refine cS.mono ?_); rintro e w1 ⟨B, cb, rfl, hown, hb1⟩)
  go_ret
  exact ⟨B, cb, rfl, hown, hb1⟩
theorem put_any (w : World) (base n : Nat) (B : Option Addr) (cb : Nat) (l : List Pr) (k v : Int) (hs : SortP l) (hl : l.length = n) (hn : n ≤ 900)
    (hown : w.ownsRow base 61 2 (.slice B n cb) n (rowP l)) (hbw : base ≤ w.heap.size) :
    Calls Try.prog 90 #[.slice B n cb, .int .i64 k, .int .i64 v] w (OwP base (setP l k v).length (setP l k v) w) := by
  cases hb : getB l k with
  | true =>
    obtain ⟨i, hi, he⟩ := getB_mem hb
    have e := set_at hs v hi he
    have hlen : (setP l k v).length = n := by
      rw [e]
      have h1 : (l.take i ++ (k, v) :: l.drop (i + 1)).length = (l.take i).length + ((l.drop (i + 1)).length + 1) := by rw [List.length_append]; rfl
      rw [h1, List.length_take, List.length_drop]; omega
    rw [hlen]
    exact put_yes w base n B cb l k v hs hl hn hown hb hbw
  | false =>
    have hlen : (setP l k v).length = n + 1 := by
      unfold setP
      rw [clear_absent hb]
      have h1 := congrArg List.length (List.takeWhile_append_dropWhile (p := fun x : Pr => decide (x.1 < k)) (l := l))
      rw [List.length_append] at h1 ⊢
      exact (show (l.takeWhile (fun x : Pr => decide (x.1 < k))).length + ((l.dropWhile (fun x : Pr => decide (x.1 < k))).length + 1) = n + 1 from by omega)
    rw [hlen]
    exact put_no w base n B cb l k v hs hl hn hown hb hbw
set_option maxRecDepth 100000 in
set_option maxHeartbeats 8000000 in
theorem drop_yes (w : World) (base m : Nat) (B : Option Addr) (cb : Nat) (l : List Pr) (k : Int) (hs : SortP l) (hl : l.length = m + 1) (hn : m ≤ 900)
    (hown : w.ownsRow base 61 2 (.slice B (m + 1) cb) (m + 1) (rowP l)) (hb : getB l k = true) (hbw : base ≤ w.heap.size) :
    Calls Try.prog 91 #[.slice B (m + 1) cb, .int .i64 k] w (OwP base m (clearP l k) w) := by
  obtain ⟨hc1, hc2⟩ := own_caps hown
  unfold maxLen at hc2
  have cS := fun w' hA => search_yes l hs B (m + 1) cb hl (by omega) k w' hA hb
  have hP := own_atP hown hl
  have HL := Go.Lib.hid hl
  clear hl hb
  go_enter Try.func91, Try.ntmps91
  go_wp2_with fail
  refine (cS _ hP).mono ?_
  rintro e w1 ⟨⟨i, hi, hk, rfl⟩, hb1⟩
  have him : i ≤ m := by have := HL.out; omega
  have hclr := clear_at hs hi hk
  have HC := Go.Lib.hid hclr
  have hown1 := row_below hown hb1
  have cD := deleteP_any w1 base m i B cb l HL.out him (by omega) hown1
  clear hown hown1 hP cS hs hk hclr
  go_wp2_with fail
  refine cD.mono ?_
  rintro e w2 ⟨B2, cb2, rfl, hown2, hb2⟩
  have HO := Go.Lib.hid hown2
  clear hown2 cD
  go_wp2
  go_ret
  exact ⟨B2, cb2, rfl, by rw [HC.out]; exact HO.out, (hb1.mono hbw).trans hb2⟩
set_option maxRecDepth 100000 in
set_option maxHeartbeats 8000000 in
theorem drop_no (w : World) (base n : Nat) (B : Option Addr) (cb : Nat) (l : List Pr) (k : Int) (hs : SortP l) (hl : l.length = n) (hn : n ≤ 900)
    (hown : w.ownsRow base 61 2 (.slice B n cb) n (rowP l)) (hb : getB l k = false) (hbw : base ≤ w.heap.size) :
    Calls Try.prog 91 #[.slice B n cb, .int .i64 k] w (OwP base n (clearP l k) w) := by
  have cS := fun w' hA => search_no l hs B n cb hl (by omega) k w' hA hb
  have hP := own_atP hown hl
  have HB := Go.Lib.hid hb
  clear hl hb
  go_enter Try.func91, Try.ntmps91
  go_wp2_with fail
  refine (cS _ hP).mono ?_
  rintro e w1 ⟨⟨i, hpart, rfl⟩, hb1⟩
  have HO := Go.Lib.hid (row_below hown hb1)
  clear hown hP cS hpart
  go_wp2
  go_ret
  exact ⟨B, cb, rfl, by rw [clear_absent HB.out]; exact HO.out, hb1.mono hbw⟩
theorem drop_any (w : World) (base n : Nat) (B : Option Addr) (cb : Nat) (l : List Pr) (k : Int) (hs : SortP l) (hl : l.length = n) (hn : n ≤ 900)
    (hown : w.ownsRow base 61 2 (.slice B n cb) n (rowP l)) (hbw : base ≤ w.heap.size) :
    Calls Try.prog 91 #[.slice B n cb, .int .i64 k] w (OwP base (clearP l k).length (clearP l k) w) := by
  cases hb : getB l k with
  | true =>
    obtain ⟨i, hi, he⟩ := getB_mem hb
    obtain ⟨m, rfl⟩ : ∃ m, n = m + 1 := ⟨n - 1, by omega⟩
    have hlen : (clearP l k).length = m := by rw [clear_at hs hi he, List.length_append, List.length_take, List.length_drop]; omega
    rw [hlen]
    exact drop_yes w base m B cb l k hs hl (by omega) hown hb hbw
  | false =>
    have hlen : (clearP l k).length = n := by rw [clear_absent hb]; exact hl
    rw [hlen]
    exact drop_no w base n B cb l k hs hl hn hown hb hbw
theorem OwP.outP {base : Nat} {o : List Pr} {w w0 w' : World} {e : Ending} (h : OwP base o.length o w e w') (hb : Below w0.heap.size w0 w) (hbase : base = w0.heap.size) : OutP o w0 e w' := by
  obtain ⟨B, cb, rfl, hown, hbw⟩ := h
  obtain ⟨h1, h2⟩ := own_caps hown
  subst hbase
  exact ⟨B, _, cb, rfl, rfl, h1, h2, hown, hb.trans hbw⟩
set_option maxRecDepth 100000 in
set_option maxHeartbeats 4000000 in
theorem set_any (A : Option Addr) (len c : Nat) (l : List Pr) (hs : SortP l) (hl : l.length = len) (hc : len ≤ c ∧ c ≤ maxLen) (hn : len ≤ 900) (k v : Int) (w : World) (hA : AtP w A l) :
    Calls Try.prog 63 #[.slice A len c, .int .i64 k, .int .i64 v] w (OutP (setP l k v) w) := by
  have cC := cloneProps_any A len c l hl hc (by omega) w hA
  have cP := fun w1 B cb hown hbw => put_any w1 w.heap.size len B cb l k v hs hl hn hown hbw
  clear hl hA hs
  go_enter Try.func63, Try.ntmps63
  go_wp2_with fail
  refine cC.mono ?_
  rintro e w1 ⟨B, cb, rfl, hown, hb1⟩
  have cP1 := cP w1 B cb hown hb1.size
  clear cP cC hown
  go_wp2_with fail
  refine cP1.mono ?_
  rintro e w2 hr
  obtain ⟨B2, n2, cb2, rfl, h1, h2, h3, h4, h5⟩ := hr.outP hb1 rfl
  clear hr cP1
  have H1 := Go.Lib.hid h1
  clear h1
  go_wp2
  go_ret
  exact ⟨B2, n2, cb2, rfl, H1.out, h2, h3, h4, h5⟩
set_option maxRecDepth 100000 in
set_option maxHeartbeats 4000000 in
theorem clearF_any (A : Option Addr) (len c : Nat) (l : List Pr) (hs : SortP l) (hl : l.length = len) (hc : len ≤ c ∧ c ≤ maxLen) (hn : len ≤ 900) (k : Int) (w : World) (hA : AtP w A l) :
    Calls Try.prog 64 #[.slice A len c, .int .i64 k] w (OutP (clearP l k) w) := by
  have cC := cloneProps_any A len c l hl hc (by omega) w hA
  have cP := fun w1 B cb hown hbw => drop_any w1 w.heap.size len B cb l k hs hl hn hown hbw
  clear hl hA hs
  go_enter Try.func64, Try.ntmps64
  go_wp2_with fail
  refine cC.mono ?_
  rintro e w1 ⟨B, cb, rfl, hown, hb1⟩
  have cP1 := cP w1 B cb hown hb1.size
  clear cP cC hown
  go_wp2_with fail
  refine cP1.mono ?_
  rintro e w2 hr
  obtain ⟨B2, n2, cb2, rfl, h1, h2, h3, h4, h5⟩ := hr.outP hb1 rfl
  clear hr cP1
  have H1 := Go.Lib.hid h1
  clear h1
  go_wp2
  go_ret
  exact ⟨B2, n2, cb2, rfl, H1.out, h2, h3, h4, h5⟩
end Go.Proofs.Ytjhppkjngifibaa
