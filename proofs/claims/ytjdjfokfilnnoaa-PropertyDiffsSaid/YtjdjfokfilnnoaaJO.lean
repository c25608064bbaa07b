/- Layer 7: drop, Set, Clear. -/
import Derived.Test.YtjdjfokfilnnoaaJN
namespace Go.Proofs.Ytjdjfokfilnnoaa
open Go.RowKit Go.Lib

theorem put_any (w : World) (base n : Nat) (B : Option Addr) (cb : Nat) (l : List Pr) (k v : Int) (hs : SortP l) (hl : l.length = n) (hn : n ≤ 900)
    (hown : w.ownsRow base 57 2 (.slice B n cb) n (rowP l)) (hbw : base ≤ w.heap.size) :
    Calls Try.prog 52 #[.slice B n cb, .int .i64 k, .int .i64 v] w (InsRet base (setP l k v).length (setP l k v) w) := by
  cases hb : getB l k with
  | true =>
    obtain ⟨i, hi, he⟩ := getB_mem hb
    have e := set_at hs v hi he
    have hlen : (setP l k v).length = n := by
      rw [e]
      have h1 : (l.take i ++ (k, v) :: l.drop (i + 1)).length = (l.take i).length + ((l.drop (i + 1)).length + 1) := by rw [List.length_append]; rfl
      rw [h1, List.length_take, List.length_drop]; omega
    rw [hlen]
    exact put_yes w base n B cb l k v hs hl hn hown hb hbw
  | false =>
    have hlen : (setP l k v).length = n + 1 := by
      unfold setP
      rw [clear_absent hb]
      have h1 := congrArg List.length (List.takeWhile_append_dropWhile (p := fun x : Pr => decide (x.1 < k)) (l := l))
      rw [List.length_append] at h1 ⊢
      exact (show (l.takeWhile (fun x : Pr => decide (x.1 < k))).length + ((l.dropWhile (fun x : Pr => decide (x.1 < k))).length + 1) = n + 1 from by omega)
    rw [hlen]
    exact put_no w base n B cb l k v hs hl hn hown hb hbw
set_option maxRecDepth 100000 in
set_option maxHeartbeats 8000000 in
theorem drop_yes (w : World) (base m : Nat) (B : Option Addr) (cb : Nat) (l : List Pr) (k : Int) (hs : SortP l) (hl : l.length = m + 1) (hn : m ≤ 900)
    (hown : w.ownsRow base 57 2 (.slice B (m + 1) cb) (m + 1) (rowP l)) (hb : getB l k = true) (hbw : base ≤ w.heap.size) :
    Calls Try.prog 53 #[.slice B (m + 1) cb, .int .i64 k] w (InsRet base m (clearP l k) w) := by
  obtain ⟨hc1, hc2⟩ := own_caps hown
  unfold maxLen at hc2
  have cS := fun w' hA => search_yes l hs B (m + 1) cb hl (by omega) k w' hA hb
  have hP := own_prat' hown hl
  have HL := Go.Lib.hid hl
  clear hl hb
  go_enter Try.func53, Try.ntmps53
  go_wp2_with fail
  refine (cS _ hP).mono ?_
  rintro e w1 ⟨⟨i, hi, hk, rfl⟩, hb1⟩
  have him : i ≤ m := by have := HL.out; omega
  have hclr := clear_at hs hi hk
  have HC := Go.Lib.hid hclr
  have hown1 := row_below hown hb1
  have cD := delete_any w1 base m i B cb l HL.out him (by omega) hown1
  clear hown hown1 hP cS hs hk hclr
  go_wp2_with fail
  refine cD.mono ?_
  rintro e w2 ⟨B2, cb2, rfl, hown2, hb2⟩
  have HO := Go.Lib.hid hown2
  clear hown2 cD
  go_wp2
  go_ret
  exact ⟨B2, cb2, rfl, by rw [HC.out]; exact HO.out, (hb1.mono hbw).trans hb2⟩
set_option maxRecDepth 100000 in
set_option maxHeartbeats 8000000 in
theorem drop_no (w : World) (base n : Nat) (B : Option Addr) (cb : Nat) (l : List Pr) (k : Int) (hs : SortP l) (hl : l.length = n) (hn : n ≤ 900)
    (hown : w.ownsRow base 57 2 (.slice B n cb) n (rowP l)) (hb : getB l k = false) (hbw : base ≤ w.heap.size) :
    Calls Try.prog 53 #[.slice B n cb, .int .i64 k] w (InsRet base n (clearP l k) w) := by
  have cS := fun w' hA => search_no l hs B n cb hl (by omega) k w' hA hb
  have hP := own_prat' hown hl
  have HB := Go.Lib.hid hb
  clear hl hb
  go_enter Try.func53, Try.ntmps53
  go_wp2_with fail
  refine (cS _ hP).mono ?_
  rintro e w1 ⟨⟨i, hpart, rfl⟩, hb1⟩
  have HO := Go.Lib.hid (row_below hown hb1)
  clear hown hP cS hpart
  go_wp2
  go_ret
  exact ⟨B, cb, rfl, by rw [clear_absent HB.out]; exact HO.out, hb1.mono hbw⟩
theorem drop_any (w : World) (base n : Nat) (B : Option Addr) (cb : Nat) (l : List Pr) (k : Int) (hs : SortP l) (hl : l.length = n) (hn : n ≤ 900)
    (hown : w.ownsRow base 57 2 (.slice B n cb) n (rowP l)) (hbw : base ≤ w.heap.size) :
    Calls Try.prog 53 #[.slice B n cb, .int .i64 k] w (InsRet base (clearP l k).length (clearP l k) w) := by
  cases hb : getB l k with
  | true =>
    obtain ⟨i, hi, he⟩ := getB_mem hb
    obtain ⟨m, rfl⟩ : ∃ m, n = m + 1 := ⟨n - 1, by omega⟩
    have hlen : (clearP l k).length = m := by rw [clear_at hs hi he, List.length_append, List.length_take, List.length_drop]; omega
    rw [hlen]
    exact drop_yes w base m B cb l k hs hl (by omega) hown hb hbw
  | false =>
    have hlen : (clearP l k).length = n := by rw [clear_absent hb]; exact hl
    rw [hlen]
    exact drop_no w base n B cb l k hs hl hn hown hb hbw
theorem InsRet.outN {base : Nat} {o : List Pr} {w w0 w' : World} {e : Ending} (h : InsRet base o.length o w e w') (hb : Below w0.heap.size w0 w) (hbase : base = w0.heap.size) : OutN o w0 e w' := by
  obtain ⟨B, cb, rfl, hown, hbw⟩ := h
  obtain ⟨h1, h2⟩ := own_caps hown
  subst hbase
  exact ⟨B, _, cb, rfl, rfl, h1, h2, own_prat' hown rfl, hb.trans hbw⟩
set_option maxRecDepth 100000 in
set_option maxHeartbeats 4000000 in
theorem set_any (A : Option Addr) (len c : Nat) (l : List Pr) (hs : SortP l) (hl : l.length = len) (hc : len ≤ c ∧ c ≤ maxLen) (hn : len ≤ 900) (k v : Int) (w : World) (hA : PrAt w A l) :
    Calls Try.prog 33 #[.slice A len c, .int .i64 k, .int .i64 v] w (OutN (setP l k v) w) := by
  have cC := clone_any A len c l hl hc (by omega) w hA
  have cP := fun w1 B cb hown hbw => put_any w1 w.heap.size len B cb l k v hs hl hn hown hbw
  clear hl hA hs
  go_enter Try.func33, Try.ntmps33
  go_wp2_with fail
  refine cC.mono ?_
  rintro e w1 ⟨B, cb, rfl, hown, hb1⟩
  have cP1 := cP w1 B cb hown hb1.size
  clear cP cC hown
  go_wp2_with fail
  refine cP1.mono ?_
  rintro e w2 hr
  obtain ⟨B2, n2, cb2, rfl, h1, h2, h3, h4, h5⟩ := hr.outN hb1 rfl
  clear hr cP1
  have H1 := Go.Lib.hid h1
  clear h1
  go_wp2
  go_ret
  exact ⟨B2, n2, cb2, rfl, H1.out, h2, h3, h4, h5⟩
set_option maxRecDepth 100000 in
set_option maxHeartbeats 4000000 in
theorem clearF_any (A : Option Addr) (len c : Nat) (l : List Pr) (hs : SortP l) (hl : l.length = len) (hc : len ≤ c ∧ c ≤ maxLen) (hn : len ≤ 900) (k : Int) (w : World) (hA : PrAt w A l) :
    Calls Try.prog 34 #[.slice A len c, .int .i64 k] w (OutN (clearP l k) w) := by
  have cC := clone_any A len c l hl hc (by omega) w hA
  have cP := fun w1 B cb hown hbw => drop_any w1 w.heap.size len B cb l k hs hl hn hown hbw
  clear hl hA hs
  go_enter Try.func34, Try.ntmps34
  go_wp2_with fail
  refine cC.mono ?_
  rintro e w1 ⟨B, cb, rfl, hown, hb1⟩
  have cP1 := cP w1 B cb hown hb1.size
  clear cP cC hown
  go_wp2_with fail
  refine cP1.mono ?_
  rintro e w2 hr
  obtain ⟨B2, n2, cb2, rfl, h1, h2, h3, h4, h5⟩ := hr.outN hb1 rfl
  clear hr cP1
  have H1 := Go.Lib.hid h1
  clear h1
  go_wp2
  go_ret
  exact ⟨B2, n2, cb2, rfl, H1.out, h2, h3, h4, h5⟩
end Go.Proofs.Ytjdjfokfilnnoaa
