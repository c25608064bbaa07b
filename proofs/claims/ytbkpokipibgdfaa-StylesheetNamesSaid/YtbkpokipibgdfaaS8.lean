/- Layer 8: the chain's iterator (51, 69). -/
import Derived.Test.YtbkpokipibgdfaaS7
import Derived.Test.YtbkpokipibgdfaaG3
import Derived.Sort.LoopGhostIn
namespace Go.Proofs.Ytbkpokipibgdfaa
open Go.RowKit Go.Shelf Go.Lib Go.Maps
set_option linter.unusedVariables false
attribute [local go_sem] Oper.semAt_some

/-- Where a chain goes on behind a style. -/
def stp (l : List St) (k : Nat) : Option Nat := plc l (l.getD k default).base
/-- Where the chain that begins at o goes on behind what has come. -/
def nxt (l : List St) (o : Option Nat) (pre : List Nat) : Option Nat := match pre.getLast? with
  | none => o
  | some k => stp l k
theorem nxt_nil (l : List St) (o : Option Nat) : nxt l o [] = o := rfl
theorem nxt_snoc (l : List St) (o : Option Nat) (pre : List Nat) (k : Nat) : nxt l o (pre ++ [k]) = stp l k := by unfold nxt; simp
/-- What has come is a beginning of the chain. -/
def ChP (l : List St) (o : Option Nat) (pre : List Nat) : Prop := ∀ q k t, pre = q ++ k :: t → nxt l o q = some k
theorem ChP.nil (l : List St) (o : Option Nat) : ChP l o [] := fun q k t h => by simp at h
theorem ChP.snoc {l : List St} {o : Option Nat} {pre : List Nat} {k : Nat} (h : ChP l o pre) (hk : nxt l o pre = some k) : ChP l o (pre ++ [k]) := by
  intro q x t e
  rcases List.eq_nil_or_concat t with rfl | ⟨t', y, rfl⟩
  · obtain ⟨e1, e2⟩ := List.append_inj' e rfl
    simp only [List.cons.injEq, and_true] at e2
    rw [← e1, ← e2]; exact hk
  · have e' : pre ++ [k] = (q ++ x :: t') ++ [y] := by rw [e]; simp
    obtain ⟨e1, _⟩ := List.append_inj' e' rfl
    exact h q x t' e1
theorem stp_lt {l : List St} {k j : Nat} (h : stp l k = some j) : j < l.length := (plc_lt h).1
theorem nxt_lt {l : List St} {i : Int} {pre : List Nat} {k : Nat} (h : nxt l (plc l i) pre = some k) : k < l.length := by
  rcases List.eq_nil_or_concat pre with rfl | ⟨p, y, rfl⟩
  · exact (plc_lt h).1
  · rw [List.concat_eq_append, nxt_snoc] at h; exact stp_lt h
theorem ChP.lt {l : List St} {i : Int} {pre : List Nat} (h : ChP l (plc l i) pre) : ∀ x ∈ pre, x < l.length := by
  intro x hx
  obtain ⟨q, t, rfl⟩ := List.append_of_mem hx
  exact nxt_lt (h q x t rfl)

abbrev cEnc (k : Nat) : Array Value := #[.int .i64 (k : Nat)]
def ChPost (l : List St) (o : Option Nat) (J Jx : List Nat → World → Prop) (e : Ending) (W' : World) : Prop :=
  (∃ v, e = .returned v) ∧ ((∃ xs, (ChP l o xs ∧ nxt l o xs = none) ∧ J xs W') ∨ (∃ pre, ChP l o pre ∧ Jx pre W'))
theorem chainF_any (A : Option Addr) (m d b : Nat) (i : Int) (w : World) :
    Calls Try.prog 51 #[.agg #[.slice A m d, .map (some b)], .int .i64 i] w fun e w' => e = .returned (.func (.func 69) #[] #[.pointer (some ⟨w.heap.size, 0, none⟩), .pointer (some ⟨w.heap.size + 1, 0, none⟩)]) ∧
      w' = (w.alloc (.cells #[.slice A m d, .map (some b)] 73)).alloc (.cells #[.int .i64 i] 3) := by
  go_enter Try.func51, Try.ntmps51
  go_wp2
  go_ret
  exact ⟨rfl, rfl⟩
def optV (o : Option Nat) : Int := (o.map (fun k => ((k : Nat) : Int))).getD 0
set_option maxRecDepth 100000 in
set_option maxHeartbeats 8000000 in
theorem chain_gen (n : Nat) (hn : 1 ≤ n) (L Ba Bi : Nat) (A : Option Addr) (m d b N : Nat) (l : List St) (i : Int) (hi : I64 i) (hok : LsOk l) (J Jx : List Nat → World → Prop) (n0 : Nat) (w0 W : World)
    (hJ : AbT TZ W.heap.size J) (hn0 : w0.heap.size = n0) (hS : ShAt w0 A m d b l) (hG : ∀ pre W', J pre W' → pre.length < N ∧ Below n0 w0 W') (ha : ObjAt W Ba #[.slice A m d, .map (some b)] 73) (hb : Boxed W Bi 3 (.int .i64 i))
    (hY : ∀ pre x W1, J pre W1 → pre.length < N → ChP l (plc l i) (pre ++ [x]) → YieldAt Fence.wide (n - 1) Try.prog L (cEnc x) W1 fun e W' =>
      (e = .returned (.bool true) ∧ J (pre ++ [x]) W' ∧ Kpt TZ Ba W1 W') ∨ (e = .returned (.bool false) ∧ Jx (pre ++ [x]) W')) (h0 : J [] W) :
    CallsIn Fence.wide n Try.prog 69 #[.func (.yield L) #[] #[], .pointer (some ⟨Ba, 0, none⟩), .pointer (some ⟨Bi, 0, none⟩)] W (ChPost l (plc l i) J Jx) := by
  have YY := Go.Lib.hid hY
  have JJ := Go.Lib.hid hJ
  have GG := Go.Lib.hid hG
  have J0 := Go.Lib.hid h0
  have HS := Go.Lib.hid hS
  have HA0 := Go.Lib.hid ha
  have HOK := Go.Lib.hid hok
  have hlk := (hS.below (hn0 ▸ (hG [] W h0).2)).look hi
  have a0 := ha.a0
  have a1 := ha.a1
  have hbc := hb.cell
  clear hY hJ hG h0 hS ha hok hb
  refine callsIn_of_wp Try.func69 rfl trivial ?_ rfl
  simp only [Try.ntmps69, List.size_toArray, List.length_cons, List.length_nil, Nat.reduceAdd, Nat.reduceSub, Array.replicate_succ, Array.replicate_zero, List.push_toArray, List.append_toArray, List.nil_append, List.cons_append]
  gi_wp2
  gi_loopg [4, 5] N (fun n s4 s5 wr => ∃ (pre : List Nat) (o : Option Nat), s4 = .int .i64 (optV o) ∧ s5 = .bool o.isSome ∧ n + pre.length = N ∧ Hid (nxt l (plc l i) pre = o) ∧ Hid (ChP l (plc l i) pre) ∧ Hid (J pre wr) ∧ Hid (ObjAt wr Ba #[.slice A m d, .map (some b)] 73))
  case atStart => exact ⟨[], _, rfl, rfl, by simp, Go.Lib.hid (nxt_nil _ _), Go.Lib.hid (ChP.nil _ _), J0, HA0⟩
  case round =>
    obtain ⟨pre, o, rfl, rfl, hnp, HO, HC, HJ, HA⟩ := hrel
    clear hlk a0 a1 hbc J0 HA0
    cases o with
    | none =>
      dsimp only [Option.isSome_none]
      gi_wp2
      all_goals (refine ⟨(fun f h => by cases h), ?_⟩)
      all_goals gi_wp2
      all_goals go_end0
      all_goals (exact ⟨⟨_, rfl⟩, .inl ⟨pre, ⟨HC.out, HO.out⟩, HJ.out⟩⟩)
    | some k =>
      dsimp only [Option.isSome_some, optV, Option.map_some, Option.getD_some]
      obtain ⟨hpN, hbw⟩ := GG.out pre wr HJ.out
      have HCs := Go.Lib.hid (HC.out.snoc HO.out)
      have hkl := nxt_lt HO.out
      obtain ⟨fn, tmps, assign, body, hy, hRd⟩ := YY.out pre k wr HJ.out hpN HCs.out
      unfold cEnc at hy
      gi_wp2
      refine hRd.mono ?_
      rintro e w8 (⟨rfl, hJ8, hk8⟩ | ⟨rfl, hJx8⟩)
      · have HJ8 := Go.Lib.hid hJ8
        have HA8 := Go.Lib.hid (show ObjAt w8 Ba _ 73 from hk8.str.trans HA.out)
        obtain ⟨hp8, hb8⟩ := GG.out _ w8 hJ8
        obtain ⟨g, oo, rfl, hg, hcl⟩ := HS.out.list.pos (by omega)
        obtain ⟨B, c, _, _, _, h3, _⟩ := hcl k hkl
        have z3 := (hb8.cell (p := ⟨g, oo + k * 6 + 3, none⟩) (show g < n0 from by rw [← hn0]; exact hg)).trans h3
        have a0 := HA8.out.a0
        have a1 := HA8.out.a1
        have hbI := (HOK.out l[k] (List.getElem_mem hkl)).2.2.1
        have hlk := (HS.out.below (hn0 ▸ bdrew1 hb8)).look hbI
        have f1 : (k : Int) < (m : Int) := by have := HS.out.len; omega
        have f0 : (0 : Int) ≤ (k : Int) := by omega
        have HST := Go.Lib.hid (show plc l l[k].base = stp l k from by unfold stp; rw [List.getD_eq_getElem?_getD, List.getElem?_eq_getElem hkl]; rfl)
        rw [HST.out] at hlk
        rw [List.length_append] at hp8
        simp only [List.length_cons, List.length_nil] at hp8
        have hJ9 := Go.Lib.hid (JJ.out _ w8 w8.drew none hJ8 (grown_below (bdrew1 (Below.refl _ w8)) rfl) (fun _ e => by cases e))
        clear hy hJ8 hk8 hRd hcl h3 hb8 hbw
        gi_wp2
        gi_region
        gi_wp2
        gi_roundg (N - pre.length - 1)
        case measure => omega
        case rel => exact ⟨pre ++ [k], stp l k, rfl, rfl, by rw [List.length_append]; simp; omega, Go.Lib.hid (nxt_snoc _ _ _ _), HCs, hJ9, Go.Lib.hid (show ObjAt w8.drew Ba _ 73 from HA8.out.drew)⟩
      · gi_wp2
        refine bodyPost_ret (results_none rfl _ _ _) rfl ?_
        exact ⟨⟨_, rfl⟩, .inr ⟨_, HCs.out, hJx8⟩⟩
theorem chain_any (n : Nat) (hn : 1 ≤ n) (Ba Bi : Nat) (A : Option Addr) (m d b N : Nat) (l : List St) (i : Int) (hi : I64 i) (hok : LsOk l) (n0 : Nat) (w0 w : World)
    (hn0 : w0.heap.size = n0) (hS : ShAt w0 A m d b l) (ha : ObjAt w Ba #[.slice A m d, .map (some b)] 73) (hb : Boxed w Bi 3 (.int .i64 i)) :
    SeqH TZ Ba Fence.wide n Try.prog 69 #[.pointer (some ⟨Ba, 0, none⟩), .pointer (some ⟨Bi, 0, none⟩)] cEnc (fun xs => ChP l (plc l i) xs ∧ nxt l (plc l i) xs = none) (ChP l (plc l i)) N (fun pre W => pre.length < N ∧ Below n0 w0 W) w := by
  intro L J Jx W hw hJ _ hG hY h0
  exact chain_gen n hn L Ba Bi A m d b N l i hi hok J Jx n0 w0 W hJ hn0 hS hG (ha.below hw) (boxed_below hb hw) (fun pre x W1 h1 h2 h3 => hY pre x W1 h1 h2 h3) h0
end Go.Proofs.Ytbkpokipibgdfaa
