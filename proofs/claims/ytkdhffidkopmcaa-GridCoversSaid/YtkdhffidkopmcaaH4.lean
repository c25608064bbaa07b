/- Layer 12: slices.Backward over rectangles (45, 67). -/
import Derived.Test.YtkdhffidkopmcaaH2
import Derived.Test.YtkdhffidkopmcaaH3
namespace Go.Proofs.Ytkdhffidkopmcaa
open Go.RowKit Go.Lib Go.Maps
open Rg (SeqG rangeG2 Kpt OwnT AbT postT)
set_option linter.unusedVariables false
attribute [local go_sem] Oper.semAt_some

def TZ (_ : TypeId) : Bool := false
def rcAgg (q : Gd.Rc) : Value := .agg #[.int .i64 (q.row : Nat), .int .i64 (q.cell : Nat), .int .i64 (q.row : Nat), .int .i64 (q.left : Nat), .int .i64 (q.bot : Nat), .int .i64 (q.right : Nat)]
/-- How the iterator ends. -/
def BackPost (cs : List Gd.Rc) (J Jx : List (Nat × Gd.Rc) → World → Prop) (e : Ending) (W' : World) : Prop :=
  (∃ v, e = .returned v) ∧ ((∃ xs, xs.map (·.2) = cs.reverse ∧ J xs W') ∨ (∃ pre, (∀ x ∈ pre, x.2 ∈ cs) ∧ Jx pre W'))
abbrev bEnc (x : Nat × Gd.Rc) : Array Value := #[.int .i64 x.1, rcAgg x.2]
set_option maxRecDepth 100000 in
set_option maxHeartbeats 4000000 in
theorem backF_any (A : Option Addr) (n c : Nat) (w : World) :
    Calls Try.prog 45 #[.slice A n c] w fun e w' => e = .returned (.func (.func 67) #[] #[.pointer (some ⟨w.heap.size, 0, none⟩)]) ∧ w' = w.alloc (.cells #[.slice A n c] 45) := by
  go_enter Try.func45, Try.ntmps45
  go_wp2
  go_ret
  exact ⟨rfl, rfl⟩
set_option maxRecDepth 100000 in
set_option maxHeartbeats 8000000 in
theorem back_gen (n : Nat) (hn : 1 ≤ n) (L Ba : Nat) (A : Option Addr) (m d : Nat) (cs : List Gd.Rc) (hcs : cs.length = m) (hm : m ≤ 1000) (J Jx : List (Nat × Gd.Rc) → World → Prop) (n0 base : Nat) (w0 W : World)
    (hn0 : w0.heap.size ≤ n0) (hA : w0.ownsRow base 50 6 (.slice A m d) m (rcC cs)) (hG : ∀ pre W', J pre W' → Below n0 w0 W') (ha : Boxed W Ba 45 (.slice A m d))
    (hY : ∀ pre x W1, J pre W1 → pre.length < m → (∀ y ∈ pre ++ [x], y.2 ∈ cs) → YieldAt Fence.wide (n - 1) Try.prog L (bEnc x) W1 fun e W' =>
      (e = .returned (.bool true) ∧ J (pre ++ [x]) W' ∧ Kpt TZ Ba W1 W') ∨ (e = .returned (.bool false) ∧ Jx (pre ++ [x]) W')) (h0 : J [] W) :
    CallsIn Fence.wide n Try.prog 67 #[.func (.yield L) #[] #[], .pointer (some ⟨Ba, 0, none⟩)] W (BackPost cs J Jx) := by
  have YY := Go.Lib.hid hY
  have GG := Go.Lib.hid hG
  have J0 := Go.Lib.hid h0
  have PA := Go.Lib.hid hA
  have HC := Go.Lib.hid hcs
  have HB0 := Go.Lib.hid ha
  have hac := ha.cell
  clear hY hG h0 hA ha hcs
  refine callsIn_of_wp Try.func67 rfl trivial ?_ rfl
  simp only [Try.ntmps67, List.size_toArray, List.length_cons, List.length_nil, Nat.reduceAdd, Nat.reduceSub, Array.replicate_succ, Array.replicate_zero, List.push_toArray, List.append_toArray, List.nil_append, List.cons_append]
  gi_wp2
  gi_loopw [3] (fun s3 wr => ∃ (k : Nat) (j : Int) (pre : List (Nat × Gd.Rc)), s3 = .int .i64 j ∧ j = (k : Int) - 1 ∧ pre.length + k = m ∧ Hid (pre.map (·.2) = (cs.drop k).reverse) ∧ Hid (J pre wr) ∧ Hid (Boxed wr Ba 45 (.slice A m d))) (fun s3 _ => (RowKit.intOf s3 + 1).toNat)
  case atStart => exact ⟨m, _, [], rfl, by go_num, by simp, Go.Lib.hid (by rw [List.drop_of_length_le (by rw [HC.out]; exact Nat.le_refl _)]; rfl), J0, HB0⟩
  case round =>
    obtain ⟨k, j, pre, rfl, hj, hpk, HX, HJ, HB⟩ := hrel
    clear hac J0 HB0
    have hbx := HB.out.cell
    cases k with
    | zero =>
      have hj0 : j < 0 := by omega
      clear hj
      gi_wp2
      go_end0
      exact ⟨⟨_, rfl⟩, .inl ⟨pre, by have := HX.out; simpa using this, HJ.out⟩⟩
    | succ k =>
      obtain rfl : j = (k : Int) := by omega
      clear hj
      have hkc : k < cs.length := by rw [HC.out]; omega
      have f0 : (0 : Int) ≤ (k : Int) := by omega
      have f1 : (k : Int) < (m : Int) := by omega
      obtain ⟨gr, hgr⟩ : ∃ gr, A = some ⟨gr, 0, none⟩ := by
        obtain ⟨_, h | ⟨g, cap, cur, he, _⟩⟩ := id PA.out
        · have := h.2; omega
        · injection he with he1; exact ⟨_, he1⟩
      subst hgr
      have hgl := (World.ownsRow.lt PA.out gr rfl).2
      have hbw := GG.out pre wr HJ.out
      have hg' := Nat.lt_of_lt_of_le hgl hn0
      have dd := fun e (he : e < 6) => (hbw.cell (p := ⟨gr, k * 6 + e, none⟩) hg').trans ((PA.out.cellAt (k * 6 + e) (by omega)).trans (rcC_get cs k hkc e he))
      have c0 : wr.cell? ⟨gr, k * 6, none⟩ = some (.int .i64 (cs[k].row : Nat)) := by have := dd 0 (by omega); simpa [rcV] using this
      have c1 : wr.cell? ⟨gr, k * 6 + 1, none⟩ = some (.int .i64 (cs[k].cell : Nat)) := by have := dd 1 (by omega); simpa [rcV] using this
      have c2 : wr.cell? ⟨gr, k * 6 + 2, none⟩ = some (.int .i64 (cs[k].row : Nat)) := by have := dd 2 (by omega); simpa [rcV] using this
      have c3 : wr.cell? ⟨gr, k * 6 + 3, none⟩ = some (.int .i64 (cs[k].left : Nat)) := by have := dd 3 (by omega); simpa [rcV] using this
      have c4 : wr.cell? ⟨gr, k * 6 + 4, none⟩ = some (.int .i64 (cs[k].bot : Nat)) := by have := dd 4 (by omega); simpa [rcV] using this
      have c5 : wr.cell? ⟨gr, k * 6 + 5, none⟩ = some (.int .i64 (cs[k].right : Nat)) := by have := dd 5 (by omega); simpa [rcV] using this
      have HN := Go.Lib.hid (show (pre ++ [(k, cs[k])]).map (·.2) = (cs.drop k).reverse from by rw [List.map_append, HX.out, List.drop_eq_getElem_cons hkc, List.reverse_cons]; rfl)
      have HIN := Go.Lib.hid (show ∀ y ∈ pre ++ [(k, cs[k])], y.2 ∈ cs from fun y hy => by
        have h1 : y.2 ∈ (pre ++ [(k, cs[k])]).map (·.2) := List.mem_map_of_mem hy
        rw [HN.out, List.mem_reverse] at h1
        exact List.mem_of_mem_drop h1)
      have HLt := Go.Lib.hid (show pre.length < m from by omega)
      clear dd hbw
      generalize cs[k] = y at c0 c1 c2 c3 c4 c5 HN HIN
      clear hkc
      obtain ⟨fn, tmps, assign, body, hy, hRd⟩ := YY.out pre (k, y) wr HJ.out HLt.out HIN.out
      unfold bEnc rcAgg at hy
      dsimp only at hy
      gi_wp2
      refine hRd.mono ?_
      rintro e w8 (⟨rfl, hJ8, hk8⟩ | ⟨rfl, hJx8⟩)
      · have HJ8 := Go.Lib.hid hJ8
        have HB8 := Go.Lib.hid (show Boxed w8 Ba 45 _ from hk8.str.trans HB.out)
        clear hy hJ8 hk8 hRd
        gi_wp2
        go_roundw
        case rel => exact ⟨k, _, pre ++ [(k, y)], rfl, by go_num, by rw [List.length_append]; simp; omega, HN, HJ8, HB8⟩
        case measure => simp [RowKit.intOf]
      · gi_wp2
        refine bodyPost_ret (results_none rfl _ _ _) rfl ?_
        exact ⟨⟨_, rfl⟩, .inr ⟨_, HIN.out, hJx8⟩⟩
theorem back_any (n : Nat) (hn : 1 ≤ n) (Ba : Nat) (A : Option Addr) (m d : Nat) (cs : List Gd.Rc) (hcs : cs.length = m) (hm : m ≤ 1000) (n0 base : Nat) (w0 w : World)
    (hn0 : w0.heap.size ≤ n0) (hA : w0.ownsRow base 50 6 (.slice A m d) m (rcC cs)) (ha : Boxed w Ba 45 (.slice A m d)) :
    SeqG TZ Ba Fence.wide n Try.prog 67 #[.pointer (some ⟨Ba, 0, none⟩)] bEnc (fun xs => xs.map (·.2) = cs.reverse) (fun pre => ∀ x ∈ pre, x.2 ∈ cs) m (fun W => Below n0 w0 W) w := by
  intro L J Jx W hw _ _ hG hY h0
  exact back_gen n hn L Ba A m d cs hcs hm J Jx n0 base w0 W hn0 hA hG (Rg.boxed_below ha hw) (fun pre x W1 h1 h2 h3 => hY pre x W1 h1 h2 h3) h0
end Go.Proofs.Ytkdhffidkopmcaa
