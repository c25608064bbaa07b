/- Layer 8: the texts S6 S7 S8 S9 SA. -/
import Derived.Test.YtbkpokipibgdfaaNG
import Derived.Test.YtbkpokipibgdfaaNE
import Derived.Test.YtbkpokipibgdfaaNA
import Derived.Sort.LoopGhostIn
import Derived.DeepKeys4

/- Layer 8: properties that name styles (91, 100, 101), checkProps (94). -/
namespace Go.Proofs.Ytbkpokipibgdfaa
open Go.RowKit Go.Lib
set_option linter.unusedVariables false

def isSt (y : Pr) : Bool := y.1 == 20 || y.1 == 1
def stP (l : List Pr) : Bool := l.any isSt
theorem stP_yes {l : List Pr} {k : Nat} (h : k < l.length) (hp : isSt l[k] = true) : stP l = true := List.any_eq_true.2 ⟨_, List.getElem_mem h, hp⟩
theorem stP_no {l : List Pr} (hn : ∀ j (h : j < l.length), isSt l[j] = false) : stP l = false := by
  unfold stP
  rw [List.any_eq_false]
  intro x hx
  obtain ⟨j, hj, rfl⟩ := List.mem_iff_getElem.1 hx
  rw [hn j hj]; simp
def ckP (kind : Int) (l : List Pr) : Int := if stP l = true then 4 else if (kind == 2) = true then chkP 1 l else chkP 2 l

set_option maxRecDepth 100000 in
set_option maxHeartbeats 8000000 in
theorem isst_any (a b : Int) (w : World) : Calls Try.prog 101 #[.agg #[.int .i64 a, .int .i64 b]] w fun e w' => e = .returned (.bool (isSt (a, b))) ∧ Below w.heap.size w w' := by
  have HB := Lib.hid ((Below.refl w.heap.size w).alloc (Nat.le_refl _) (.cells #[.int .i64 a, .int .i64 b] 55))
  go_enter Try.func101, Try.ntmps101
  unfold isSt
  dsimp only
  by_cases h1 : (a == 20) = true
  · go_wp2
    go_ret
    exact ⟨ret_bool' (by rw [h1]; rfl), HB.out⟩
  · have h1' : (a == 20) = false := by simpa using h1
    clear h1
    by_cases h2 : (a == 1) = true
    · go_wp2
      go_ret
      exact ⟨ret_bool' (by rw [h1', h2]; rfl), HB.out⟩
    · have h2' : (a == 1) = false := by simpa using h2
      clear h2
      go_wp2
      go_ret
      exact ⟨ret_bool' (by rw [h1', h2']; rfl), HB.out⟩
/-- What the search hands back. -/
def StR (l : List Pr) (e : Ending) : Prop := ∃ z : Int, e = .returned (.int .i64 z) ∧ decide (0 ≤ z) = stP l
set_option maxRecDepth 100000 in
set_option maxHeartbeats 8000000 in
theorem indexst_any (l : List Pr) (n : Nat) (hn : l.length = n) (A : Option Addr) (c : Nat) (hc : n ≤ c ∧ c ≤ maxLen) (w : World) (hA : PrAt w A l) :
    Calls Try.prog 91 #[.slice A n c, .func (.func 101) #[] #[]] w fun e w' => StR l e ∧ Below w.heap.size w w' := by
  have HN := Lib.hid hn
  have HA := Lib.hid hA
  have CB := Lib.hid (fun a b w' => isst_any a b w')
  have hm : n ≤ maxLen := Nat.le_trans hc.1 hc.2
  unfold maxLen at hm
  clear hn hA
  go_enter Try.func91, Try.ntmps91
  go_wp2_with fail
  go_loopw [5, 8] (fun _ s8 wr => ∃ k : Nat, k ≤ n ∧ s8 = .int .i64 (k : Nat) ∧ Hid (∀ j (h : j < l.length), j < k → isSt l[j] = false) ∧ Hid (Below w.heap.size w wr)) (fun _ s8 _ => n - (intOf s8).toNat)
  case atStart => exact ⟨0, Nat.zero_le _, rfl, Lib.hid (fun j _ h => absurd h (Nat.not_lt_zero _)), Lib.hid (Below.refl _ _)⟩
  case round =>
    obtain ⟨k, hk, rfl, HM, HB⟩ := hrel
    by_cases hlt : k < n
    · have hkl : k < l.length := by rw [HN.out]; exact hlt
      rcases HA.out with hA0 | ⟨g, o, rfl, hg, hcl⟩
      · rw [hA0] at hkl; exact absurd hkl (Nat.not_lt_zero _)
      obtain ⟨z0, z1⟩ := hcl k hkl
      replace z0 := (HB.out.cell (p := ⟨g, o + k * 2, none⟩) hg).trans z0
      replace z1 := (HB.out.cell (p := ⟨g, o + k * 2 + 1, none⟩) hg).trans z1
      have HY := Lib.hid (fun (h : isSt l[k] = true) => stP_yes hkl h)
      have HX := Lib.hid (fun (h : isSt l[k] = false) => show ∀ j (h : j < l.length), j < k + 1 → isSt l[j] = false from fun j hj hl => if e : j = k then by subst e; exact h else HM.out j hj (by omega))
      have hs := HB.out.size
      clear hcl
      generalize l[k] = x at z0 z1 HY HX
      obtain ⟨a, b⟩ := x
      dsimp only at z0 z1 HY HX
      have cb := CB.out a b wr
      by_cases hv : isSt (a, b) = true
      · have HE := Lib.hid (HY.out hv)
        rw [hv] at cb
        clear HY HX hv
        go_wp2_with fail
        (with_reducible refine cb.mono ?_)
        rintro e w7 ⟨rfl, k7⟩
        have K7 := Go.Lib.hid (HB.out.trans (k7.mono hs))
        clear cb k7
        go_wp2
        go_ret
        exact ⟨⟨(k : Nat), rfl, by rw [HE.out]; simp⟩, K7.out⟩
      · have hv' : isSt (a, b) = false := by simpa using hv
        rw [hv'] at cb
        have HE := Lib.hid (HX.out hv')
        clear HY HX hv hv'
        go_wp2_with fail
        (with_reducible refine cb.mono ?_)
        rintro e w7 ⟨rfl, k7⟩
        have K7 := Go.Lib.hid (HB.out.trans (k7.mono hs))
        clear cb k7 z0 z1
        go_wp2
        go_roundw
        case rel => exact ⟨k + 1, by omega, by go_num, HE, K7⟩
        case measure => simp [intOf]; omega
    · obtain rfl : k = n := by omega
      have HE := Lib.hid (stP_no (l := l) fun j h => HM.out j h (by rw [← HN.out]; exact h))
      go_wp2
      go_ret
      exact ⟨⟨-1, rfl, by rw [HE.out]; rfl⟩, HB.out⟩
set_option maxRecDepth 100000 in
set_option maxHeartbeats 8000000 in
theorem containsst_any (l : List Pr) (n : Nat) (hn : l.length = n) (A : Option Addr) (c : Nat) (hc : n ≤ c ∧ c ≤ maxLen) (w : World) (hA : PrAt w A l) :
    Calls Try.prog 100 #[.slice A n c, .func (.func 101) #[] #[]] w fun e w' => e = .returned (.bool (stP l)) ∧ Below w.heap.size w w' := by
  have cI := indexst_any l n hn A c hc w hA
  clear hn hA
  go_enter Try.func100, Try.ntmps100
  go_wp2_with fail
  (with_reducible refine cI.mono ?_)
  rintro e w7 ⟨⟨z, rfl, hz⟩, k7⟩
  clear cI
  go_wp2
  go_ret
  exact ⟨rfl, k7⟩
set_option maxRecDepth 100000 in
set_option maxHeartbeats 8000000 in
theorem checkprops_any (kind : Int) (l : List Pr) (n : Nat) (hn : l.length = n) (A : Option Addr) (c : Nat) (hc : n ≤ c ∧ c ≤ maxLen) (w : World) (hA : PrAt w A l) :
    Calls Try.prog 94 #[.int .i64 kind, .slice A n c] w fun e w' => e = .returned (.int .i64 (ckP kind l)) ∧ Below w.heap.size w w' := by
  have cI := containsst_any l n hn A c hc w hA
  have cC := fun x (hx : 1 ≤ x ∧ x ≤ 10) w' (hb : Below w.heap.size w w') => check_in x A n c l hn hc hx w' (hA.below hb (Nat.le_refl _))
  have HC := Go.Lib.hid cC
  unfold ckP
  clear hn hA cC
  cases hs : stP l with
  | true =>
    rw [hs] at cI
    go_enter Try.func94, Try.ntmps94
    go_wp2_with fail
    (with_reducible refine cI.mono ?_)
    rintro e w7 ⟨rfl, k7⟩
    clear cI
    go_wp2
    go_ret
    exact ⟨rfl, k7⟩
  | false =>
    rw [hs] at cI
    go_enter Try.func94, Try.ntmps94
    go_wp2_with fail
    (with_reducible refine cI.mono ?_)
    rintro e w7 ⟨rfl, k7⟩
    clear cI
    by_cases hk : (kind == 2) = true
    · have cC := HC.out 1 (by omega) w7 k7
      go_wp2_with fail
      (with_reducible refine cC.mono ?_)
      rintro e w8 ⟨rfl, k8⟩
      clear cC
      go_wp2
      go_ret
      exact ⟨rfl, k7.trans (k8.mono k7.size)⟩
    · have hk' : (kind == 2) = false := by simpa using hk
      have cC := HC.out 2 (by omega) w7 k7
      go_wp2_with fail
      (with_reducible refine cC.mono ?_)
      rintro e w8 ⟨rfl, k8⟩
      clear cC
      go_wp2
      go_ret
      exact ⟨rfl, k7.trans (k8.mono k7.size)⟩
end Go.Proofs.Ytbkpokipibgdfaa

/- Layer 8: the sheet; has (61), checkLinks (85). -/
namespace Go.Proofs.Ytbkpokipibgdfaa
open Go.RowKit Go.Lib Go.Maps
set_option linter.unusedVariables false

/-- The place of the style with an id. -/
def plc (l : List St) (i : Int) : Option Nat := l.findIdx? (isId i)
theorem plc_idx (l : List St) (i : Int) : idxD l 0 i = (plc l i).map (fun k => ((k : Nat) : Int)) := by
  unfold idxD plc
  rw [List.drop_zero]
  simp
theorem plc_lt {l : List St} {i : Int} {k : Nat} (h : plc l i = some k) : ∃ hk : k < l.length, l[k].id = i := by
  obtain ⟨hk, hp, _⟩ := List.findIdx?_eq_some_iff_getElem.1 h
  exact ⟨hk, by unfold isId at hp; simpa using hp⟩
/-- Is there a style of a kind with an id? -/
def hasB (l : List St) (kind i : Int) : Bool := match plc l i with
  | some k => (l.getD k default).kind == kind
  | none => false
theorem hasB_some {l : List St} {kind i : Int} {k : Nat} (h : plc l i = some k) (hk : k < l.length) : hasB l kind i = (l[k].kind == kind) := by
  unfold hasB
  rw [h]
  show ((l.getD k default).kind == kind) = _
  rw [List.getD_eq_getElem?_getD, List.getElem?_eq_getElem hk]; rfl
theorem hasB_none {l : List St} {kind i : Int} (h : plc l i = none) : hasB l kind i = false := by unfold hasB; rw [h]
/-- The sheet of a list. -/
structure ShAt (w : World) (A : Option Addr) (m d b : Nat) (l : List St) : Prop where
  len : l.length = m
  small : m ≤ 1000
  list : LsAt w A l
  idx : ∃ n, IxAt w b n (idxD l 0)
abbrev shV (A : Option Addr) (m d b : Nat) : Value := .agg #[.slice A m d, .map (some b)]
theorem ShAt.below {w w' : World} {A : Option Addr} {m d b : Nat} {l : List St} (h : ShAt w A m d b l) (hb : Below w.heap.size w w') : ShAt w' A m d b l := by
  obtain ⟨n, hn⟩ := h.idx
  exact ⟨h.len, h.small, h.list.below hb, n, hn.below hn.lt hb⟩
theorem ShAt.look {w : World} {A : Option Addr} {m d b : Nat} {l : List St} (h : ShAt w A m d b l) {i : Int} (hi : I64 i) :
    (Instr.lookup 71 (.map (some b)) (.int .i64 i) true).run Try.prog w = .ok (.tuple #[.int .i64 (((plc l i).map (fun k => ((k : Nat) : Int))).getD 0), .bool (plc l i).isSome]) w := by
  obtain ⟨n, hn⟩ := h.idx
  rw [ix_look hn hi, plc_idx]
  simp

set_option maxRecDepth 100000 in
set_option maxHeartbeats 8000000 in
theorem has_any (l : List St) (A : Option Addr) (m d b : Nat) (kind i : Int) (hi : I64 i) (w : World) (h : ShAt w A m d b l) :
    Calls Try.prog 61 #[.agg #[.slice A m d, .map (some b)], .int .i64 kind, .int .i64 i] w fun e w' => e = .returned (.bool (hasB l kind i)) ∧ Below w.heap.size w w' := by
  have hb := (Below.refl w.heap.size w).alloc (Nat.le_refl _) (.cells #[.slice A m d, .map (some b)] 73)
  have hl := (h.below hb).look hi
  have HB := Lib.hid hb
  have HH := Lib.hid h
  clear hb h
  cases hp : plc l i with
  | none =>
    rw [hp] at hl
    dsimp only [Option.map_none, Option.getD_none, Option.isSome_none] at hl
    have HE := Lib.hid (hasB_none (kind := kind) hp)
    clear hp
    go_enter Try.func61, Try.ntmps61
    go_wp2
    go_ret
    exact ⟨ret_bool' HE.out.symm, HB.out⟩
  | some k =>
    rw [hp] at hl
    dsimp only [Option.map_some, Option.getD_some, Option.isSome_some] at hl
    obtain ⟨hk, _⟩ := plc_lt hp
    have HE := Lib.hid (hasB_some (kind := kind) hp hk)
    obtain ⟨g, o, hA, hg, hcl⟩ := HH.out.list.pos (by omega)
    obtain ⟨B, c, _, h1, _⟩ := hcl k hk
    have z1 := (HB.out.cell (p := ⟨g, o + k * 6 + 1, none⟩) hg).trans h1
    have f1 : (k : Int) < (m : Int) := by have := HH.out.len; omega
    have f0 : (0 : Int) ≤ (k : Int) := by omega
    subst hA
    clear hp hcl h1
    generalize l[k].kind = v at z1 HE
    go_enter Try.func61, Try.ntmps61
    go_wp2
    go_ret
    exact ⟨ret_bool' HE.out.symm, HB.out⟩
end Go.Proofs.Ytbkpokipibgdfaa

/- Layer 8: the chain's iterator (51, 69). -/
namespace Go.Proofs.Ytbkpokipibgdfaa
open Go.RowKit Go.Shelf Go.Lib Go.Maps
set_option linter.unusedVariables false
attribute [local go_sem] Oper.semAt_some

/-- Where a chain goes on behind a style. -/
def stp (l : List St) (k : Nat) : Option Nat := plc l (l.getD k default).base
/-- Where the chain that begins at o goes on behind what has come. -/
def nxt (l : List St) (o : Option Nat) (pre : List Nat) : Option Nat := match pre.getLast? with
  | none => o
  | some k => stp l k
theorem nxt_nil (l : List St) (o : Option Nat) : nxt l o [] = o := rfl
theorem nxt_snoc (l : List St) (o : Option Nat) (pre : List Nat) (k : Nat) : nxt l o (pre ++ [k]) = stp l k := by unfold nxt; simp
/-- What has come is a beginning of the chain. -/
def ChP (l : List St) (o : Option Nat) (pre : List Nat) : Prop := ∀ q k t, pre = q ++ k :: t → nxt l o q = some k
theorem ChP.nil (l : List St) (o : Option Nat) : ChP l o [] := fun q k t h => by simp at h
theorem ChP.snoc {l : List St} {o : Option Nat} {pre : List Nat} {k : Nat} (h : ChP l o pre) (hk : nxt l o pre = some k) : ChP l o (pre ++ [k]) := by
  intro q x t e
  rcases List.eq_nil_or_concat t with rfl | ⟨t', y, rfl⟩
  · obtain ⟨e1, e2⟩ := List.append_inj' e rfl
    simp only [List.cons.injEq, and_true] at e2
    rw [← e1, ← e2]; exact hk
  · have e' : pre ++ [k] = (q ++ x :: t') ++ [y] := by rw [e]; simp
    obtain ⟨e1, _⟩ := List.append_inj' e' rfl
    exact h q x t' e1
theorem stp_lt {l : List St} {k j : Nat} (h : stp l k = some j) : j < l.length := (plc_lt h).1
theorem nxt_lt {l : List St} {i : Int} {pre : List Nat} {k : Nat} (h : nxt l (plc l i) pre = some k) : k < l.length := by
  rcases List.eq_nil_or_concat pre with rfl | ⟨p, y, rfl⟩
  · exact (plc_lt h).1
  · rw [List.concat_eq_append, nxt_snoc] at h; exact stp_lt h
theorem ChP.lt {l : List St} {i : Int} {pre : List Nat} (h : ChP l (plc l i) pre) : ∀ x ∈ pre, x < l.length := by
  intro x hx
  obtain ⟨q, t, rfl⟩ := List.append_of_mem hx
  exact nxt_lt (h q x t rfl)

abbrev cEnc (k : Nat) : Array Value := #[.int .i64 (k : Nat)]
def ChPost (l : List St) (o : Option Nat) (J Jx : List Nat → World → Prop) (e : Ending) (W' : World) : Prop :=
  (∃ v, e = .returned v) ∧ ((∃ xs, (ChP l o xs ∧ nxt l o xs = none) ∧ J xs W') ∨ (∃ pre, ChP l o pre ∧ Jx pre W'))
theorem chainF_any (A : Option Addr) (m d b : Nat) (i : Int) (w : World) :
    Calls Try.prog 51 #[.agg #[.slice A m d, .map (some b)], .int .i64 i] w fun e w' => e = .returned (.func (.func 69) #[] #[.pointer (some ⟨w.heap.size, 0, none⟩), .pointer (some ⟨w.heap.size + 1, 0, none⟩)]) ∧
      w' = (w.alloc (.cells #[.slice A m d, .map (some b)] 73)).alloc (.cells #[.int .i64 i] 3) := by
  go_enter Try.func51, Try.ntmps51
  go_wp2
  go_ret
  exact ⟨rfl, rfl⟩
def optV (o : Option Nat) : Int := (o.map (fun k => ((k : Nat) : Int))).getD 0
set_option maxRecDepth 100000 in
set_option maxHeartbeats 8000000 in
theorem chain_gen (n : Nat) (hn : 1 ≤ n) (L Ba Bi : Nat) (A : Option Addr) (m d b N : Nat) (l : List St) (i : Int) (hi : I64 i) (hok : LsOk l) (J Jx : List Nat → World → Prop) (n0 : Nat) (w0 W : World)
    (hJ : AbT TZ W.heap.size J) (hn0 : w0.heap.size = n0) (hS : ShAt w0 A m d b l) (hG : ∀ pre W', J pre W' → pre.length < N ∧ Below n0 w0 W') (ha : ObjAt W Ba #[.slice A m d, .map (some b)] 73) (hb : Boxed W Bi 3 (.int .i64 i))
    (hY : ∀ pre x W1, J pre W1 → pre.length < N → ChP l (plc l i) (pre ++ [x]) → YieldAt Fence.wide (n - 1) Try.prog L (cEnc x) W1 fun e W' =>
      (e = .returned (.bool true) ∧ J (pre ++ [x]) W' ∧ Kpt TZ Ba W1 W') ∨ (e = .returned (.bool false) ∧ Jx (pre ++ [x]) W')) (h0 : J [] W) :
    CallsIn Fence.wide n Try.prog 69 #[.func (.yield L) #[] #[], .pointer (some ⟨Ba, 0, none⟩), .pointer (some ⟨Bi, 0, none⟩)] W (ChPost l (plc l i) J Jx) := by
  have YY := Go.Lib.hid hY
  have JJ := Go.Lib.hid hJ
  have GG := Go.Lib.hid hG
  have J0 := Go.Lib.hid h0
  have HS := Go.Lib.hid hS
  have HA0 := Go.Lib.hid ha
  have HOK := Go.Lib.hid hok
  have hlk := (hS.below (hn0 ▸ (hG [] W h0).2)).look hi
  have a0 := ha.a0
  have a1 := ha.a1
  have hbc := hb.cell
  clear hY hJ hG h0 hS ha hok hb
  refine callsIn_of_wp Try.func69 rfl trivial ?_ rfl
  simp only [Try.ntmps69, List.size_toArray, List.length_cons, List.length_nil, Nat.reduceAdd, Nat.reduceSub, Array.replicate_succ, Array.replicate_zero, List.push_toArray, List.append_toArray, List.nil_append, List.cons_append]
  gi_wp2
  gi_loopg [4, 5] N (fun n s4 s5 wr => ∃ (pre : List Nat) (o : Option Nat), s4 = .int .i64 (optV o) ∧ s5 = .bool o.isSome ∧ n + pre.length = N ∧ Hid (nxt l (plc l i) pre = o) ∧ Hid (ChP l (plc l i) pre) ∧ Hid (J pre wr) ∧ Hid (ObjAt wr Ba #[.slice A m d, .map (some b)] 73))
  case atStart => exact ⟨[], _, rfl, rfl, by simp, Go.Lib.hid (nxt_nil _ _), Go.Lib.hid (ChP.nil _ _), J0, HA0⟩
  case round =>
    obtain ⟨pre, o, rfl, rfl, hnp, HO, HC, HJ, HA⟩ := hrel
    clear hlk a0 a1 hbc J0 HA0
    cases o with
    | none =>
      dsimp only [Option.isSome_none]
      gi_wp2
      all_goals (refine ⟨(fun f h => by cases h), ?_⟩)
      all_goals gi_wp2
      all_goals go_end0
      all_goals (exact ⟨⟨_, rfl⟩, .inl ⟨pre, ⟨HC.out, HO.out⟩, HJ.out⟩⟩)
    | some k =>
      dsimp only [Option.isSome_some, optV, Option.map_some, Option.getD_some]
      obtain ⟨hpN, hbw⟩ := GG.out pre wr HJ.out
      have HCs := Go.Lib.hid (HC.out.snoc HO.out)
      have hkl := nxt_lt HO.out
      obtain ⟨fn, tmps, assign, body, hy, hRd⟩ := YY.out pre k wr HJ.out hpN HCs.out
      unfold cEnc at hy
      gi_wp2
      refine hRd.mono ?_
      rintro e w8 (⟨rfl, hJ8, hk8⟩ | ⟨rfl, hJx8⟩)
      · have HJ8 := Go.Lib.hid hJ8
        have HA8 := Go.Lib.hid (show ObjAt w8 Ba _ 73 from hk8.str.trans HA.out)
        obtain ⟨hp8, hb8⟩ := GG.out _ w8 hJ8
        obtain ⟨g, oo, rfl, hg, hcl⟩ := HS.out.list.pos (by omega)
        obtain ⟨B, c, _, _, _, h3, _⟩ := hcl k hkl
        have z3 := (hb8.cell (p := ⟨g, oo + k * 6 + 3, none⟩) (show g < n0 from by rw [← hn0]; exact hg)).trans h3
        have a0 := HA8.out.a0
        have a1 := HA8.out.a1
        have hbI := (HOK.out l[k] (List.getElem_mem hkl)).2.2.1
        have hlk := (HS.out.below (hn0 ▸ bdrew1 hb8)).look hbI
        have f1 : (k : Int) < (m : Int) := by have := HS.out.len; omega
        have f0 : (0 : Int) ≤ (k : Int) := by omega
        have HST := Go.Lib.hid (show plc l l[k].base = stp l k from by unfold stp; rw [List.getD_eq_getElem?_getD, List.getElem?_eq_getElem hkl]; rfl)
        rw [HST.out] at hlk
        rw [List.length_append] at hp8
        simp only [List.length_cons, List.length_nil] at hp8
        have hJ9 := Go.Lib.hid (JJ.out _ w8 w8.drew none hJ8 (grown_below (bdrew1 (Below.refl _ w8)) rfl) (fun _ e => by cases e))
        clear hy hJ8 hk8 hRd hcl h3 hb8 hbw
        gi_wp2
        gi_region
        gi_wp2
        gi_roundg (N - pre.length - 1)
        case measure => omega
        case rel => exact ⟨pre ++ [k], stp l k, rfl, rfl, by rw [List.length_append]; simp; omega, Go.Lib.hid (nxt_snoc _ _ _ _), HCs, hJ9, Go.Lib.hid (show ObjAt w8.drew Ba _ 73 from HA8.out.drew)⟩
      · gi_wp2
        refine bodyPost_ret (results_none rfl _ _ _) rfl ?_
        exact ⟨⟨_, rfl⟩, .inr ⟨_, HCs.out, hJx8⟩⟩
theorem chain_any (n : Nat) (hn : 1 ≤ n) (Ba Bi : Nat) (A : Option Addr) (m d b N : Nat) (l : List St) (i : Int) (hi : I64 i) (hok : LsOk l) (n0 : Nat) (w0 w : World)
    (hn0 : w0.heap.size = n0) (hS : ShAt w0 A m d b l) (ha : ObjAt w Ba #[.slice A m d, .map (some b)] 73) (hb : Boxed w Bi 3 (.int .i64 i)) :
    SeqH TZ Ba Fence.wide n Try.prog 69 #[.pointer (some ⟨Ba, 0, none⟩), .pointer (some ⟨Bi, 0, none⟩)] cEnc (fun xs => ChP l (plc l i) xs ∧ nxt l (plc l i) xs = none) (ChP l (plc l i)) N (fun pre W => pre.length < N ∧ Below n0 w0 W) w := by
  intro L J Jx W hw hJ _ hG hY h0
  exact chain_gen n hn L Ba Bi A m d b N l i hi hok J Jx n0 w0 W hJ hn0 hS hG (ha.below hw) (boxed_below hb hw) (fun pre x W1 h1 h2 h3 => hY pre x W1 h1 h2 h3) h0
end Go.Proofs.Ytbkpokipibgdfaa

/- Layer 8: checkLinks (85). -/
namespace Go.Proofs.Ytbkpokipibgdfaa
open Go.RowKit Go.Lib Go.Maps
set_option linter.unusedVariables false

/-- A base or a next style that is wrong. -/
def lnkB (l : List St) (x : St) : Bool := (x.base != 0 && !hasB l x.kind x.base) || (x.next != 0 && (x.kind == 2 || !hasB l 1 x.next))
def lnkP (l : List St) : Int := if l.any (lnkB l) = true then 25 else 0
theorem lnk_yes {l : List St} {k : Nat} (h : k < l.length) (hp : lnkB l l[k] = true) : lnkP l = 25 := by unfold lnkP; rw [if_pos (List.any_eq_true.2 ⟨_, List.getElem_mem h, hp⟩)]
theorem lnk_no {l : List St} (hn : ∀ j (h : j < l.length), lnkB l l[j] = false) : lnkP l = 0 := by
  unfold lnkP
  rw [if_neg]
  rw [List.any_eq_true]
  rintro ⟨x, hx, hp⟩
  obtain ⟨j, hj, rfl⟩ := List.mem_iff_getElem.1 hx
  rw [hn j hj] at hp; cases hp

set_option maxRecDepth 100000 in
set_option maxHeartbeats 8000000 in
theorem checklinks_any (l : List St) (hok : LsOk l) (A : Option Addr) (m d b : Nat) (w : World) (h : ShAt w A m d b l) :
    Calls Try.prog 85 #[.agg #[.slice A m d, .map (some b)]] w fun e w' => e = .returned (.int .i64 (lnkP l)) ∧ Below w.heap.size w w' := by
  have HH := Lib.hid h
  have HO := Lib.hid hok
  have CH := Lib.hid (fun kind i (hi : I64 i) w' (hb : Below w.heap.size w w') => has_any l A m d b kind i hi w' (h.below hb))
  have hb0 := (Below.refl w.heap.size w).alloc (Nat.le_refl _) (.cells #[.slice A m d, .map (some b)] 73)
  have o0 := ObjAt.new w #[.slice A m d, .map (some b)] 73
  have hsm := h.small
  clear h hok
  go_enter Try.func85, Try.ntmps85
  go_wp2_with fail
  go_loopw [8] (fun s8 wr => ∃ k : Nat, k ≤ m ∧ s8 = .int .i64 (k : Nat) ∧ Hid (∀ j (h : j < l.length), j < k → lnkB l l[j] = false) ∧ Hid (Below w.heap.size w wr) ∧ Hid (ObjAt wr w.heap.size #[.slice A m d, .map (some b)] 73)) (fun s8 _ => m - (intOf s8).toNat)
  case atStart => exact ⟨0, Nat.zero_le _, rfl, Lib.hid (fun j _ h => absurd h (Nat.not_lt_zero _)), Lib.hid hb0, Lib.hid o0⟩
  case round =>
    clear hb0 o0
    obtain ⟨k, hk, rfl, HM, HB, HP⟩ := hrel
    by_cases hlt : k < m
    · have hkl : k < l.length := by rw [HH.out.len]; exact hlt
      obtain ⟨g, o, rfl, hg, hcl⟩ := HH.out.list.pos (by omega)
      obtain ⟨B, cc, z0, z1, z2, z3, z4, z5, z6⟩ := (hcl k hkl)
      replace z0 := (HB.out.cell (p := ⟨g, o + k * 6, none⟩) hg).trans z0
      replace z1 := (HB.out.cell (p := ⟨g, o + k * 6 + 1, none⟩) hg).trans z1
      replace z2 := (HB.out.cell (p := ⟨g, o + k * 6 + 2, none⟩) hg).trans z2
      replace z3 := (HB.out.cell (p := ⟨g, o + k * 6 + 3, none⟩) hg).trans z3
      replace z4 := (HB.out.cell (p := ⟨g, o + k * 6 + 4, none⟩) hg).trans z4
      replace z5 := (HB.out.cell (p := ⟨g, o + k * 6 + 5, none⟩) hg).trans z5
      have p0 := HP.out.a0
      have p1 := HP.out.a1
      have HY := Lib.hid (fun (h : lnkB l l[k] = true) => lnk_yes hkl h)
      have HX := Lib.hid (fun (h : lnkB l l[k] = false) => show ∀ j (h : j < l.length), j < k + 1 → lnkB l l[j] = false from fun j hj hl => if e : j = k then by subst e; exact h else HM.out j hj (by omega))
      have HI := Lib.hid (HO.out l[k] (List.getElem_mem hkl))
      have hs := HB.out.size
      clear hcl z6
      generalize l[k] = x at z0 z1 z2 z3 z4 z5 HY HX HI
      obtain ⟨a1, a2, a3, a4, a5, ps⟩ := x
      unfold lnkB at HY HX
      dsimp only at z0 z1 z2 z3 z4 z5 HY HX HI
      have B7 := HB.out.alloc hs (.cells #[.int .i64 a1, .int .i64 a2, .string a3, .int .i64 a4, .int .i64 a5, .slice B ps.length cc] 28)
      have Q7 := HP.out.alloc (.cells #[.int .i64 a1, .int .i64 a2, .string a3, .int .i64 a4, .int .i64 a5, .slice B ps.length cc] 28)
      have R7 := ObjAt.new wr #[.int .i64 a1, .int .i64 a2, .string a3, .int .i64 a4, .int .i64 a5, .slice B ps.length cc] 28
      by_cases h4 : (a4 != 0) = true
      · have cH := CH.out a2 a4 HI.out.2.2.1 _ B7
        have sB := B7.size
        have q0 := Q7.a0
        have q1 := Q7.a1
        go_wp2_with fail
        (with_reducible refine cH.mono ?_)
        rintro e w7 ⟨rfl, k7⟩
        have K7 := Lib.hid (B7.trans (k7.mono sB))
        have P7 := Lib.hid (Q7.below k7)
        have O7 := Lib.hid (R7.below k7)
        clear cH k7 B7 Q7 R7 q0 q1 z0 z1 z2 z3 z4 z5 p0 p1
        have p0 := P7.out.a0
        have p1 := P7.out.a1
        have y0 := O7.out.s0
        have y1 := O7.out.s1
        have y3 := O7.out.s3
        have y4 := O7.out.s4
        cases hh : hasB l a2 a4 with
        | false =>
          have HE := Lib.hid (HY.out (by simp [h4, hh]))
          clear HY HX
          go_wp2
          go_ret
          exact ⟨by rw [HE.out]; rfl, K7.out⟩
        | true =>
          by_cases h5 : (a5 != 0) = true
          · by_cases hk2 : (a2 == 2) = true
            · have HE := Lib.hid (HY.out (by simp [h4, hh, h5, hk2]))
              clear HY HX
              go_wp2
              go_ret
              exact ⟨by rw [HE.out]; rfl, K7.out⟩
            · have hk2' : (a2 == 2) = false := by simpa using hk2
              clear hk2
              have cH := CH.out 1 a5 HI.out.2.2.2 _ K7.out
              have sK := K7.out.size
              go_wp2_with fail
              (with_reducible refine cH.mono ?_)
              rintro e w8 ⟨rfl, k8⟩
              have K8 := Lib.hid (K7.out.trans (k8.mono sK))
              have P8 := Lib.hid (P7.out.below k8)
              clear cH k8
              cases hh2 : hasB l 1 a5 with
              | false =>
                have HE := Lib.hid (HY.out (by simp [h4, hh, h5, hk2', hh2]))
                clear HY HX
                go_wp2
                go_ret
                exact ⟨by rw [HE.out]; rfl, K8.out⟩
              | true =>
                have HE := Lib.hid (HX.out (by simp [h4, hh, h5, hk2', hh2]))
                clear HY HX
                go_wp2
                go_roundw
                case rel => exact ⟨k + 1, by omega, by go_num, HE, K8, P8⟩
                case measure => simp [intOf]; omega
          · have h5' : (a5 != 0) = false := by simpa using h5
            clear h5
            have HE := Lib.hid (HX.out (by simp [h4, hh, h5']))
            clear HY HX
            go_wp2
            go_roundw
            case rel => exact ⟨k + 1, by omega, by go_num, HE, K7, P7⟩
            case measure => simp [intOf]; omega
      · have h4' : (a4 != 0) = false := by simpa using h4
        have K7 := Lib.hid B7
        have P7 := Lib.hid Q7
        have q0 := Q7.a0
        have q1 := Q7.a1
        clear h4 B7 Q7 R7
        by_cases h5 : (a5 != 0) = true
        · by_cases hk2 : (a2 == 2) = true
          · have HE := Lib.hid (HY.out (by simp [h4', h5, hk2]))
            clear HY HX
            go_wp2
            go_ret
            exact ⟨by rw [HE.out]; rfl, K7.out⟩
          · have hk2' : (a2 == 2) = false := by simpa using hk2
            clear hk2
            have cH := CH.out 1 a5 HI.out.2.2.2 _ K7.out
            have sK := K7.out.size
            go_wp2_with fail
            (with_reducible refine cH.mono ?_)
            rintro e w8 ⟨rfl, k8⟩
            have K8 := Lib.hid (K7.out.trans (k8.mono sK))
            have P8 := Lib.hid (P7.out.below k8)
            clear cH k8
            cases hh2 : hasB l 1 a5 with
            | false =>
              have HE := Lib.hid (HY.out (by simp [h4', h5, hk2', hh2]))
              clear HY HX
              go_wp2
              go_ret
              exact ⟨by rw [HE.out]; rfl, K8.out⟩
            | true =>
              have HE := Lib.hid (HX.out (by simp [h4', h5, hk2', hh2]))
              clear HY HX
              go_wp2
              go_roundw
              case rel => exact ⟨k + 1, by omega, by go_num, HE, K8, P8⟩
              case measure => simp [intOf]; omega
        · have h5' : (a5 != 0) = false := by simpa using h5
          clear h5
          have HE := Lib.hid (HX.out (by simp [h4', h5']))
          clear HY HX
          go_wp2
          go_roundw
          case rel => exact ⟨k + 1, by omega, by go_num, HE, K7, P7⟩
          case measure => simp [intOf]; omega
    · obtain rfl : k = m := by omega
      have HE := Lib.hid (lnk_no (l := l) fun j h => HM.out j h (by rw [← HH.out.len]; exact h))
      go_wp2
      go_ret
      exact ⟨by rw [HE.out]; rfl, HB.out⟩
end Go.Proofs.Ytbkpokipibgdfaa

/- Layer 8: the map of titles. -/
namespace Go.Proofs.Ytbkpokipibgdfaa
open Go.RowKit Go.Lib Go.Maps
set_option linter.unusedVariables false

theorem laidOut0 : laidOutB Try.prog = true := by kernel_rfl
theorem row125 : (125 : TypeId) < Try.prog.types.size := of_decide_eq_true (by kernel_rfl)
theorem wide125 : (match Try.prog.underlying 125 with | some (.array _ _) | some (.struct _) => true | _ => false) = true := by kernel_rfl
theorem deep125 : Try.prog.keyTypeAt 2 125 = true := by kernel_rfl
set_option maxRecDepth 100000 in
theorem keyed125 : Keyed Try.prog 125 := Keyed.of_law (deep_law_laid laidOut0 (m := 2) (by omega) row125 deep125 wide125)
def tt (k : Int) (s : ByteArray) : Value := .agg #[.int .i64 k, .string s]
theorem type125 : Try.prog.keyType 125 = true := by kernel_rfl
theorem formed125 (k : Int) (s : ByteArray) : (tt k s).formed Try.prog 125 = true := by
  have h : Try.prog.cellsOf 125 = 2 := by kernel_rfl
  simp [Value.formed, tt, Try.underlying125, h]
theorem size_types : ∃ m, Try.prog.types.size = m + 1 := by
  have h : 125 < Try.prog.types.size := row125
  exact ⟨Try.prog.types.size - 1, by omega⟩
theorem lits125 {k : Int} {s : ByteArray} (hk : I64 k) (hs : s.size ≤ maxLen) (n : Nat) : Try.prog.keyLits (n + 2) 125 [.int .i64 k, .string s] = some [.int .i64 k, .string s.data.toList] := by
  have h2 : Try.prog.cellsOf 125 = 2 := by kernel_rfl
  have h1 : Try.prog.cellsOf 3 = 1 := by kernel_rfl
  have h9 : Try.prog.cellsOf 9 = 1 := by kernel_rfl
  have w1 := i64_wf hk
  unfold Program.keyLits
  simp only [Try.underlying125]
  rw [if_pos ⟨by rw [h2]; rfl, by kernel_rfl⟩]
  simp [Program.keyLits, Try.underlying3, Try.underlying9, h1, h9, w1, hs]
theorem key125 {k : Int} {s : ByteArray} (hk : I64 k) (hs : s.size ≤ maxLen) : keyOf Try.prog 125 (tt k s) = some (.string (keyBytes [.int .i64 k, .string s.data.toList])) := by
  unfold keyOf
  rw [Try.underlying125]
  simp only []
  rw [if_pos (by simp [type125, formed125])]
  have h : Try.prog.types.size + 1 = (Try.prog.types.size - 1) + 2 := by obtain ⟨m, hm⟩ := size_types; omega
  rw [h, show (tt k s).cells.toList = [.int .i64 k, .string s] from rfl, lits125 hk hs]
  rfl
def tl (k : Int) (s : ByteArray) : Lit := .string (keyBytes [.int .i64 k, .string s.data.toList])
theorem tl_inj {k k' : Int} {s s' : ByteArray} (hk : I64 k) (hs : s.size ≤ maxLen) (hk' : I64 k') (hs' : s'.size ≤ maxLen) (h : tl k s = tl k' s') : k = k' ∧ s = s' := by
  have h1 := key125 hk hs
  have h2 := key125 hk' hs'
  have := keyed125.inj h1 (by rw [h2]; exact congrArg some h.symm)
  unfold tt at this
  simp at this
  exact this
set_option maxRecDepth 100000 in
theorem bool_inv {v : Value} {z : DataW Unit × List MemPlace} (h : plainElem Try.prog 4 v = some z) : ∃ x, v = .bool x ∧ z = (.lit (.bool x), []) := by
  unfold plainElem at h
  rw [Try.underlying4] at h
  cases v <;> simp at h
  exact ⟨_, rfl, h.symm⟩
/-- A map of titles that reads as f. -/
def TtAt (w : World) (b n : Nat) (f : Int → ByteArray → Bool) : Prop := ∃ D : DataW Unit, w.ownsMap Try.prog 125 (plainElem Try.prog 4) b n D ∧
  ∀ k s, I64 k → s.size ≤ maxLen → D.atKey (tl k s) (.lit (.bool false)) = .lit (.bool (f k s))
theorem tt_new (w : World) : TtAt (w.alloc (.map #[] 0)) w.heap.size 0 (fun _ _ => false) := ⟨.map [], World.ownsMap_made w _ _ _, fun k s _ _ => WideAt.atKey_none _ (by simp)⟩
theorem tt_look {w : World} {b n : Nat} {f : Int → ByteArray → Bool} (h : TtAt w b n f) {k : Int} {s : ByteArray} (hk : I64 k) (hs : s.size ≤ maxLen) :
    (Instr.lookup 123 (.map (some b)) (.agg #[.int .i64 k, .string s]) false).run Try.prog w = .ok (.bool (f k s)) w := by
  obtain ⟨D, hD, hf⟩ := h
  obtain ⟨v, ps, hr, hv⟩ := hD.lookup keyed125 Try.underlying123 (Try.zeroValue4 w) (plainElem_bool Try.underlying4 false) (key125 hk hs)
  have hv' : plainElem Try.prog 4 v = some (D.atKey (tl k s) (.lit (.bool false)), ps) := hv
  rw [hf k s hk hs] at hv'
  obtain ⟨x, rfl, hx⟩ := bool_inv hv'
  simp only [Prod.mk.injEq, DataW.lit.injEq, Lit.bool.injEq] at hx
  rw [hx.1]; exact hr
theorem tt_put {w : World} {b n : Nat} {f : Int → ByteArray → Bool} (h : TtAt w b n f) (hn : n < maxLen) {k : Int} {s : ByteArray} (hk : I64 k) (hs : s.size ≤ maxLen) :
    ∃ w', (Instr.mapUpdate 123 (.map (some b)) (.agg #[.int .i64 k, .string s]) (.bool true)).run Try.prog w = .ok () w' ∧ TtAt w' b (n + 1) (fun k' s' => if k' = k ∧ s' = s then true else f k' s') ∧ w.grownBy w' (some b) := by
  obtain ⟨D, hD, hf⟩ := h
  obtain ⟨w', h1, h2, h3⟩ := hD.update keyed125 Try.underlying123 hn (key125 hk hs) (plainElem_bool Try.underlying4 true)
  refine ⟨w', h1, ⟨_, h2, fun k' s' hk' hs' => ?_⟩, h3⟩
  by_cases e : k' = k ∧ s' = s
  · obtain ⟨rfl, rfl⟩ := e
    rw [show tl k' s' = .string (keyBytes [.int .i64 k', .string s'.data.toList]) from rfl, atKey_put_same hD.isMap (keyed125.key (key125 hk hs))]
    simp
  · have hne : tl k' s' ≠ tl k s := fun h => e (tl_inj hk' hs' hk hs h)
    rw [show (Lit.string (keyBytes [.int .i64 k, .string s.data.toList])) = tl k s from rfl, atKey_put_other hne, hf k' s' hk' hs']
    show _ = DataW.lit (.bool (if k' = k ∧ s' = s then true else f k' s'))
    rw [if_neg e]
theorem TtAt.kept {w w' : World} {b n : Nat} {f : Int → ByteArray → Bool} (h : TtAt w b n f) {row : Option Nat} (hg : w.grownBy w' row) (hne : some b ≠ row) : TtAt w' b n f := by
  obtain ⟨D, hD, hf⟩ := h
  exact ⟨D, hD.kept hg hne, hf⟩
theorem TtAt.lt {w : World} {b n : Nat} {f : Int → ByteArray → Bool} (h : TtAt w b n f) : b < w.heap.size := by obtain ⟨D, hD, _⟩ := h; exact hD.lt
theorem TtAt.below {w w' : World} {b n : Nat} {f : Int → ByteArray → Bool} (h : TtAt w b n f) {m : Nat} (hm : b < m) (hb : Below m w w') : TtAt w' b n f := by
  obtain ⟨D, ⟨es, clock, h1, h2⟩, hf⟩ := h
  exact ⟨D, ⟨es, clock, (hb.block b hm).trans h1, h2⟩, hf⟩
theorem TtAt.congr {w : World} {b n : Nat} {f f' : Int → ByteArray → Bool} (h : TtAt w b n f) (e : ∀ k s, f k s = f' k s) : TtAt w b n f' := by
  have : f = f' := funext fun k => funext fun s => e k s
  rw [← this]; exact h
theorem make123 (m : Nat) (w : World) : (Instr.makeMap 123 (some (.int .i64 (m : Nat)))).run Try.prog w = .ok (.map (some w.heap.size)) (w.alloc (.map #[] 0)) := by
  simp [Instr.makeMap, run_underlying Try.underlying123, Result.andThen]
  rfl

/-- Has a title come ahead of the k-th style? -/
def seenT (l : List St) (k : Nat) (kd : Int) (s : ByteArray) : Bool := (l.take k).any fun y => decide (y.kind = kd ∧ y.name = s)
theorem seenT_zero (l : List St) (kd : Int) (s : ByteArray) : seenT l 0 kd s = false := rfl
theorem seenT_step (l : List St) (k : Nat) (h : k < l.length) (kd : Int) (s : ByteArray) : seenT l (k + 1) kd s = if kd = l[k].kind ∧ s = l[k].name then true else seenT l k kd s := by
  unfold seenT
  rw [List.take_succ_eq_append_getElem h, List.any_append]
  by_cases e : kd = l[k].kind ∧ s = l[k].name
  · rw [if_pos e]
    have : decide (l[k].kind = kd ∧ l[k].name = s) = true := decide_eq_true ⟨e.1.symm, e.2.symm⟩
    simp only [List.any_cons, this, Bool.true_or, Bool.or_true]
  · rw [if_neg e]
    have : decide (l[k].kind = kd ∧ l[k].name = s) = false := decide_eq_false fun h => e ⟨h.1.symm, h.2.symm⟩
    simp only [List.any_cons, List.any_nil, this, Bool.or_false]
/-- The id ahead of the k-th style. -/
def lastI (l : List St) (k : Nat) : Int := if k = 0 then 0 else (l.getD (k - 1) default).id
theorem lastI_succ (l : List St) (k : Nat) (h : k < l.length) : lastI l (k + 1) = l[k].id := by
  unfold lastI
  rw [if_neg (by omega), Nat.add_sub_cancel, List.getD_eq_getElem?_getD, List.getElem?_eq_getElem h]; rfl
/-- The first error of the k-th style. -/
noncomputable def fldX (x : St) (last : Int) (seen : Bool) : Int :=
  if x.id < 1 ∨ 1073741824 < x.id then 18 else if x.id = last then 7 else if x.id < last then 6 else if x.kind ≠ 1 ∧ x.kind ≠ 2 then 3 else if nmB x.name = false then 13
  else if seen = true then 7 else ckP x.kind x.props
noncomputable def fldK (l : List St) (k : Nat) : Int := fldX (l.getD k default) (lastI l k) (seenT l k (l.getD k default).kind (l.getD k default).name)
theorem fldK_at (l : List St) (k : Nat) (h : k < l.length) : fldK l k = fldX l[k] (lastI l k) (seenT l k l[k].kind l[k].name) := by
  unfold fldK
  rw [List.getD_eq_getElem?_getD, List.getElem?_eq_getElem h]; rfl
noncomputable def fldP (l : List St) : Int := (((List.range l.length).map (fldK l)).find? (fun e => e != 0)).getD 0
end Go.Proofs.Ytbkpokipibgdfaa
