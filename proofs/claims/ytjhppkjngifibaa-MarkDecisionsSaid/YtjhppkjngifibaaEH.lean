/- Layer 23: states: before, present, put. -/
import Derived.Test.YtjhppkjngifibaaEE
import Derived.Test.YtjhppkjngifibaaEG
import Derived.Test.YtjhppkjngifibaaEB
namespace Go.Proofs.Ytjhppkjngifibaa
open Go.RowKit Go.Lib
set_option linter.unusedVariables false

abbrev stV (s : St) : Value := .agg #[.int .i64 s.1, .bool s.2]
set_option maxRecDepth 100000 in
theorem before_any (a b c : Int) (d : Bool) (w : World) : Calls Try.prog 75 #[.agg #[.int .i64 a, .int .i64 b, .int .i64 c, .bool d]] w fun e w' => e = .returned (.agg #[.int .i64 c, .bool d]) ∧ Below w.heap.size w w' := by
  have KF := Lib.hid (((Below.refl w.heap.size w).alloc (Nat.le_refl _) (.cells #[.int .i64 a, .int .i64 b, .int .i64 c, .bool d] 74)).alloc (by simp) (.cells #[.int .i64 c, .bool d] 99))
  have O3 := ObjAt.new (w.alloc (.cells #[.int .i64 a, .int .i64 b, .int .i64 c, .bool d] 74)) #[.int .i64 c, .bool d] 99
  rw [World.size_alloc] at O3
  have q0 := O3.get (k := 0) (v := .int .i64 c) rfl
  have q1 := O3.get (k := 1) (v := .bool d) rfl
  clear O3
  go_enter Try.func75, Try.ntmps75
  go_wp2
  exact bodyPost_ret (v := .agg #[.int .i64 c, .bool d]) (by simp [results, Try.results75, go_sem, q0, q1]) rfl ⟨rfl, KF.out⟩
set_option maxRecDepth 100000 in
set_option maxHeartbeats 4000000 in
theorem present_any (h : Hd) (hs : SortP h.props) (hm : Mod h) (A B C : Option Addr) (np cp nd cd nl cl : Nat) (k : Int) (w : World) (hA : HAt w A B C np cp nd cd nl cl h) :
    Calls Try.prog 69 #[hdV A B C np cp nd cd nl cl h.ins h.move, .int .i64 k] w fun e w' => e = .returned (stV (pres h.props k)) ∧ Below w.heap.size w w' := by
  have b0 := ((Below.refl w.heap.size w).alloc (Nat.le_refl _) (.cells #[.slice A np cp, .int .i64 h.ins, .int .i64 h.move, .slice B nd cd, .slice C nl cl] 28)).alloc (by simp) (.cells #[.int .i64 0, .bool false] 99)
  have O1 := ObjAt.new (w.alloc (.cells #[.slice A np cp, .int .i64 h.ins, .int .i64 h.move, .slice B nd cd, .slice C nl cl] 28)) #[.int .i64 0, .bool false] 99
  rw [World.size_alloc] at O1
  have cG := get_any h.props hs A np cp hA.ep (by have := hA.ep; have := hm.p; omega) hA.cp k _ (hA.p.below b0 (Nat.le_refl _))
  have HB := Lib.hid b0
  have s0 := b0.size
  have HO := Lib.hid O1
  unfold pres stV hdV
  generalize getV h.props k = v at cG ⊢
  generalize getB h.props k = b at cG ⊢
  generalize h.ins = hi at cG HB HO s0 ⊢
  generalize h.move = hmv at cG HB HO s0 ⊢
  clear b0 O1 hA hm hs
  go_enter Try.func69, Try.ntmps69
  go_wp2_with fail
  (with_reducible refine cG.mono ?_)
  rintro e w1 ⟨rfl, k1⟩
  have O2 := HO.out.below k1
  have x0 := O2.get (k := 0) (v := .int .i64 0) rfl
  have x1 := O2.get (k := 1) (v := .bool false) rfl
  have t0 := O2.frozen 0
  have t1 := O2.frozen 1
  have O3 := (O2.set 0 (.int .i64 v)).set 1 (.bool b)
  have q0 := O3.get (k := 0) (v := .int .i64 v) (by simp)
  have q1 := O3.get (k := 1) (v := .bool b) (by simp)
  have K1 := HB.out.trans (k1.mono s0)
  have KF := Lib.hid ((K1.setCell (p := ⟨w.heap.size + 1, 0, none⟩) (Nat.le_succ _) (.int .i64 v)).setCell (p := ⟨w.heap.size + 1, 1, none⟩) (Nat.le_succ _) (.bool b))
  clear O2 O3 cG k1 K1
  go_wp2
  exact bodyPost_ret (v := .agg #[.int .i64 v, .bool b]) (by simp [results, Try.results69, go_sem, q0, q1]) rfl ⟨rfl, KF.out⟩
set_option maxRecDepth 100000 in
set_option maxHeartbeats 4000000 in
theorem stput_any (A : Option Addr) (len c : Nat) (l : List Pr) (hs : SortP l) (hl : l.length = len) (hc : len ≤ c ∧ c ≤ maxLen) (hn : len ≤ 900) (s : St) (k : Int) (w : World) (hA : AtP w A l) :
    Calls Try.prog 71 #[stV s, .slice A len c, .int .i64 k] w (OutP (putS s l k) w) := by
  obtain ⟨v, b⟩ := s
  have b0 := (Below.refl w.heap.size w).alloc (Nat.le_refl _) (.cells #[.int .i64 v, .bool b] 99)
  have cS := set_any A len c l hs hl hc hn k v _ (hA.below b0 (Nat.le_refl _))
  have cC := clearF_any A len c l hs hl hc hn k _ (hA.below b0 (Nat.le_refl _))
  have HB := Lib.hid b0
  have s0 := b0.size
  unfold stV putS
  dsimp only
  clear hA hs hl b0
  cases b with
  | true =>
    rw [if_pos rfl]
    go_enter Try.func71, Try.ntmps71
    go_wp2_with fail
    (with_reducible refine cS.mono ?_)
    rintro e w1 ⟨B, n, cb, rfl, h1, h2, h3, h4, k1⟩
    have K1 := Lib.hid (HB.out.trans (k1.mono s0))
    have H1 := Lib.hid h1
    have H4 := Lib.hid h4
    clear h1 h4 k1 cS cC
    go_wp2
    go_ret
    exact ⟨B, n, cb, rfl, H1.out, h2, h3, own_lower H4.out (by simp), K1.out⟩
  | false =>
    rw [if_neg (by decide)]
    go_enter Try.func71, Try.ntmps71
    go_wp2_with fail
    (with_reducible refine cC.mono ?_)
    rintro e w1 ⟨B, n, cb, rfl, h1, h2, h3, h4, k1⟩
    have K1 := Lib.hid (HB.out.trans (k1.mono s0))
    have H1 := Lib.hid h1
    have H4 := Lib.hid h4
    clear h1 h4 k1 cS cC
    go_wp2
    go_ret
    exact ⟨B, n, cb, rfl, H1.out, h2, h3, own_lower H4.out (by simp), K1.out⟩
end Go.Proofs.Ytjhppkjngifibaa
