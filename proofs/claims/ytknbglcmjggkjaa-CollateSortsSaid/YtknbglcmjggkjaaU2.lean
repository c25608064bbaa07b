/- Layer 6: the iterator over weights (79), weights (60). -/
import Derived.Test.YtknbglcmjggkjaaU1
import Derived.Test.YtknbglcmjggkjaaG2
namespace Go.Proofs.Ytknbglcmjggkjaa
open Go.RowKit Go.Shelf Go.Lib Co

attribute [local go_sem] Oper.semAt_some
/-- No type is the iterator's own. -/
def T0 : TypeId → Bool := fun _ => false
/-- Elements in memory. -/
def ElsIn (w : World) (v : Value) (l : List El) : Prop :=
  (l = [] ∧ v = .slice none 0 0) ∨ ∃ g cap, v = .slice (some ⟨g, 0, none⟩) l.length cap ∧ g < w.heap.size ∧ ∀ k (h : k < l.length), w.cell? ⟨g, k * 3, none⟩ = some (.int .i64 ((l[k].1 : Nat) : Int)) ∧ w.cell? ⟨g, k * 3 + 1, none⟩ = some (.int .i64 ((l[k].2.1 : Nat) : Int)) ∧ w.cell? ⟨g, k * 3 + 2, none⟩ = some (.int .i64 ((l[k].2.2 : Nat) : Int))
theorem elsC_at (l : List El) (k i : Nat) (hk : k < l.length) (hi : i < 3) : (elsC l)[k * 3 + i]? = (elC l[k])[i]? := by
  unfold elsC
  induction l generalizing k with
  | nil => simp at hk
  | cons e l ih =>
    rw [List.flatMap_cons]
    cases k with
    | zero =>
      rw [Nat.zero_mul, Nat.zero_add, List.getElem?_append_left (by show i < 3; exact hi)]
      rfl
    | succ k =>
      rw [List.getElem?_append_right (by show 3 ≤ _; omega), show (k + 1) * 3 + i - (elC e).length = k * 3 + i by show (k + 1) * 3 + i - 3 = _; omega]
      exact ih k (by simpa using hk)
theorem ElsIn.of {w : World} {B : Nat} {v : Value} {l : List El} (h : Els B w v l) : ElsIn w v l := by
  have h0 : w.ownsRow B 37 3 v l.length (elsC l) := h
  rcases h0.2 with ⟨hv, hn⟩ | ⟨g, cap, cur, hv, _⟩
  · exact .inl ⟨List.eq_nil_of_length_eq_zero hn, hv⟩
  · subst hv
    refine .inr ⟨g, cap, rfl, (h0.lt g rfl).2, fun k hk => ⟨?_, ?_, ?_⟩⟩
    · have := h0.cellAt (k * 3) (by omega)
      rw [this, show k * 3 = k * 3 + 0 from rfl, elsC_at l k 0 hk (by omega)]; rfl
    · have := h0.cellAt (k * 3 + 1) (by omega)
      rw [this, elsC_at l k 1 hk (by omega)]; rfl
    · have := h0.cellAt (k * 3 + 2) (by omega)
      rw [this, elsC_at l k 2 hk (by omega)]; rfl
theorem ElsIn.below {w w' : World} {v : Value} {l : List El} (h : ElsIn w v l) (hb : Below w.heap.size w w') : ElsIn w' v l := by
  rcases h with h | ⟨g, cap, hv, hg, hc⟩
  · exact .inl h
  · exact .inr ⟨g, cap, hv, Nat.lt_of_lt_of_le hg hb.size, fun k hk => ⟨(hb.cell (p := ⟨g, k * 3, none⟩) hg).trans (hc k hk).1, (hb.cell (p := ⟨g, k * 3 + 1, none⟩) hg).trans (hc k hk).2.1, (hb.cell (p := ⟨g, k * 3 + 2, none⟩) hg).trans (hc k hk).2.2⟩⟩
theorem lev_take {f : El → Nat} {l : List El} {k : Nat} (hk : k < l.length) : lev f (l.take (k + 1)) = lev f (l.take k) ++ (if f l[k] = 0 then [] else [f l[k]]) := by
  unfold lev
  rw [List.take_succ_eq_append_getElem hk, List.map_append, List.filter_append, List.map_singleton]
  by_cases h : f l[k] = 0
  · rw [if_pos h, h]; rfl
  · rw [if_neg h]; simp [h]
theorem lev_pre {f : El → Nat} {l : List El} {k : Nat} : lev f (l.take k) <+: lev f l := by
  unfold lev
  exact List.IsPrefix.filter _ (List.IsPrefix.map _ (List.take_prefix k l))
/-- How the iterator ends. -/
def LevPost (L : List Nat) (J Jx : List Nat → World → Prop) (e : Ending) (W' : World) : Prop :=
  (∃ v, e = .returned v) ∧ ((∃ xs, xs = L ∧ J xs W') ∨ (∃ pre, pre <+: L ∧ Jx pre W'))
abbrev wEnc (x : Nat) : Array Value := #[.int .i64 x]
set_option maxRecDepth 100000 in
set_option maxHeartbeats 8000000 in
theorem prim_gen (n : Nat) (hn : 1 ≤ n) (L Bt Bl : Nat) (s : ByteArray) (A : Option Addr) (m d : Nat) (l : List El) (hlm : l.length = m) (hm : m ≤ 100000) (J Jx : List Nat → World → Prop) (w0 W : World)
    (hA : ElsIn w0 (.slice A m d) l) (ht : ObjAt w0 Bt #[.string s, .slice A m d] 77) (hl : Boxed w0 Bl 105 (.func (.func 61) #[] #[])) (R : Option Nat) (hne : ∀ g, (Value.slice A m d).ownBlock = some g → some g ≠ R) (hnt : some Bt ≠ R) (hnl : some Bl ≠ R) (hG : ∀ pre W', J pre W' → GrowR w0 W' R) (hJ : ∀ pre A C, J pre A → A.grownBy C none → J pre C)
    (hY : ∀ pre x W1, J pre W1 → pre ++ [x] <+: lev (fun e => e.1) l → YieldAt Fence.wide (n - 1) Try.prog L (wEnc x) W1 fun e W' =>
      (e = .returned (.bool true) ∧ J (pre ++ [x]) W') ∨ (e = .returned (.bool false) ∧ Jx (pre ++ [x]) W')) (h0 : J [] W) :
    CallsIn Fence.wide n Try.prog 79 #[.func (.yield L) #[] #[], .pointer (some ⟨Bt, 0, none⟩), .pointer (some ⟨Bl, 0, none⟩)] W (LevPost (lev (fun e => e.1) l) J Jx) := by
  have YY := Go.Lib.hid hY
  have GG := Go.Lib.hid hG
  have JJ := Go.Lib.hid hJ
  have J0 := Go.Lib.hid h0
  have HA := Go.Lib.hid hA
  have HLm := Go.Lib.hid hlm
  have HT := Go.Lib.hid ht
  have HL := Go.Lib.hid hl
  have t1 := (ht.kept (hG _ _ h0) hnt).a1
  clear hY hG hJ h0 hA hlm ht hl
  refine callsIn_of_wp Try.func79 rfl trivial ?_ rfl
  simp only [Try.ntmps79, List.size_toArray, List.length_cons, List.length_nil, Nat.reduceAdd, Nat.reduceSub, Array.replicate_succ, Array.replicate_zero, List.push_toArray, List.append_toArray, List.nil_append, List.cons_append]
  gi_wp2
  gi_loopw [10] (fun s10 wr => ∃ (k : Nat) (pre : List Nat), k ≤ m ∧ s10 = .int .i64 k ∧ Hid (pre = lev (fun e => e.1) (l.take k)) ∧ Hid (J pre wr)) (fun s10 _ => m - (RowKit.intOf s10).toNat)
  case atStart => exact ⟨0, [], Nat.zero_le _, rfl, Go.Lib.hid rfl, J0⟩
  case round =>
    obtain ⟨k, pre, hk, rfl, HX, HJ⟩ := hrel
    clear t1 J0
    by_cases hkm : k < m
    · have hkl : k < l.length := by rw [HLm.out]; exact hkm
      have f0 : (0 : Int) ≤ (k : Int) := by omega
      have f1 : (k : Int) < (m : Int) := by omega
      rcases HA.out with ⟨hA0, _⟩ | ⟨g, cap, hv, hg, hcl⟩
      · rw [hA0] at hkl; exact absurd hkl (Nat.not_lt_zero _)
      injection hv with hv1 hv2 hv3
      subst hv1 hv3
      clear hv2
      have hbw := GG.out pre wr HJ.out
      have hgr : some g ≠ R := hne g rfl
      obtain ⟨h0, h1, h2⟩ := hcl k hkl
      have c0 := World.grownBy.cell hbw h0 hgr
      have c1 := World.grownBy.cell hbw h1 hgr
      have c2 := World.grownBy.cell hbw h2 hgr
      have b0 := (HL.out.kept hbw hnl).cell
      have HN := Go.Lib.hid (lev_take (f := (fun e => e.1)) hkl)
      have HP := Go.Lib.hid (lev_pre (f := (fun e => e.1)) (l := l) (k := k + 1))
      have hbl := (HL.out.kept hbw hnl).lt
      clear h0 h1 h2 hcl
      generalize l[k] = y at c0 c1 c2 HN
      gi_wp2
      refine ⟨trivial, ?_⟩
      gi_at_call 61
      refine (callsIn_wide.2 (prim_any y _)).mono ?_
      rintro e w5 ⟨rfl, k5⟩
      have hB5 : Below wr.heap.size wr w5 := ((Below.refl _ wr).alloc (Nat.le_refl _) _).trans (k5.mono (by rw [World.size_alloc]; exact Nat.le_succ _))
      have hJ5 := JJ.out pre wr w5 HJ.out (grown_below hB5 rfl)
      clear k5 hB5 c0 c1 c2 b0 hbw
      by_cases hz : y.1 = 0
      · have f2 : ((y.1 : Nat) : Int) = 0 := by omega
        have HN2 := Go.Lib.hid (show pre = lev (fun e => e.1) (l.take (k + 1)) by have := HN.out; rw [if_pos hz, List.append_nil] at this; rw [this]; exact HX.out)
        have HJ5 := Go.Lib.hid hJ5
        clear hz hJ5
        gi_wp2
        refine ⟨(fun _ h => nomatch h), ?_⟩
        gi_wp2
        go_roundw
        case rel => exact ⟨k + 1, pre, by omega, by go_num, HN2, HJ5⟩
        case measure => simp [RowKit.intOf]; omega
      · have f2 : ¬ ((y.1 : Nat) : Int) = 0 := by omega
        have HN2 := Go.Lib.hid (show pre ++ [y.1] = lev (fun e => e.1) (l.take (k + 1)) by have := HN.out; rw [if_neg hz] at this; rw [this, HX.out])
        clear hz
        obtain ⟨fn, tmps, assign, body, hy, hRd⟩ := YY.out pre (y.1) w5 hJ5 (by rw [HN2.out]; exact HP.out)
        unfold wEnc at hy
        gi_wp2
        refine hRd.mono ?_
        rintro e w8 (⟨rfl, hJ8⟩ | ⟨rfl, hJx8⟩)
        · have HJ8 := Go.Lib.hid hJ8
          clear hy hJ8 hRd hJ5
          gi_wp2
          go_roundw
          case rel => exact ⟨k + 1, pre ++ [y.1], by omega, by go_num, HN2, HJ8⟩
          case measure => simp [RowKit.intOf]; omega
        · have HJ8 := Go.Lib.hid hJx8
          clear hy hJx8 hRd hJ5
          gi_wp2
          refine bodyPost_ret (results_none rfl _ _ _) rfl ?_
          exact ⟨⟨_, rfl⟩, .inr ⟨_, by rw [HN2.out]; exact HP.out, HJ8.out⟩⟩
    · obtain rfl : k = m := by omega
      have f1 : ¬ (k : Int) < (k : Int) := by omega
      have HF := Go.Lib.hid (show pre = lev (fun e => e.1) l by rw [HX.out, List.take_of_length_le (by rw [HLm.out]; exact Nat.le_refl _)])
      gi_wp2
      go_end0
      exact ⟨⟨_, rfl⟩, .inl ⟨pre, HF.out, HJ.out⟩⟩
theorem prim_seq (n : Nat) (hn : 1 ≤ n) (Bt Bl Bs : Nat) (s : ByteArray) (A : Option Addr) (m d : Nat) (l : List El) (hlm : l.length = m) (hm : m ≤ 100000) (w0 w : World)
    (hA : ElsIn w0 (.slice A m d) l) (ht : ObjAt w0 Bt #[.string s, .slice A m d] 77) (hl : Boxed w0 Bl 105 (.func (.func 61) #[] #[])) (R : Option Nat) (hne : ∀ g, (Value.slice A m d).ownBlock = some g → some g ≠ R) (hnt : some Bt ≠ R) (hnl : some Bl ≠ R) :
    SeqG T0 Bs Fence.wide n Try.prog 79 #[.pointer (some ⟨Bt, 0, none⟩), .pointer (some ⟨Bl, 0, none⟩)] wEnc (fun xs => xs = lev (fun e => e.1) l) (fun pre => pre <+: lev (fun e => e.1) l) (lev (fun e => e.1) l).length (fun W => GrowR w0 W R) w := by
  intro L J Jx W hw hJ _ hG hY h0
  exact prim_gen n hn L Bt Bl s A m d l hlm hm J Jx w0 W hA ht hl R hne hnt hnl hG (fun pre A C h1 h2 => hJ pre A C none h1 h2 (fun _ e => by cases e))
    (fun pre x W1 h1 h2 => by
      obtain ⟨fn, tmps, assign, body, e1, e2⟩ := hY pre x W1 h1 (by obtain ⟨u, hu⟩ := h2; rw [← hu]; simp) h2
      exact ⟨fn, tmps, assign, body, e1, e2.mono fun e W' q => q.imp (fun q => ⟨q.1, q.2.1⟩) id⟩) h0
set_option maxRecDepth 100000 in
set_option maxHeartbeats 8000000 in
theorem sec_gen (n : Nat) (hn : 1 ≤ n) (L Bt Bl : Nat) (s : ByteArray) (A : Option Addr) (m d : Nat) (l : List El) (hlm : l.length = m) (hm : m ≤ 100000) (J Jx : List Nat → World → Prop) (w0 W : World)
    (hA : ElsIn w0 (.slice A m d) l) (ht : ObjAt w0 Bt #[.string s, .slice A m d] 77) (hl : Boxed w0 Bl 105 (.func (.func 63) #[] #[])) (R : Option Nat) (hne : ∀ g, (Value.slice A m d).ownBlock = some g → some g ≠ R) (hnt : some Bt ≠ R) (hnl : some Bl ≠ R) (hG : ∀ pre W', J pre W' → GrowR w0 W' R) (hJ : ∀ pre A C, J pre A → A.grownBy C none → J pre C)
    (hY : ∀ pre x W1, J pre W1 → pre ++ [x] <+: lev (fun e => e.2.1) l → YieldAt Fence.wide (n - 1) Try.prog L (wEnc x) W1 fun e W' =>
      (e = .returned (.bool true) ∧ J (pre ++ [x]) W') ∨ (e = .returned (.bool false) ∧ Jx (pre ++ [x]) W')) (h0 : J [] W) :
    CallsIn Fence.wide n Try.prog 79 #[.func (.yield L) #[] #[], .pointer (some ⟨Bt, 0, none⟩), .pointer (some ⟨Bl, 0, none⟩)] W (LevPost (lev (fun e => e.2.1) l) J Jx) := by
  have YY := Go.Lib.hid hY
  have GG := Go.Lib.hid hG
  have JJ := Go.Lib.hid hJ
  have J0 := Go.Lib.hid h0
  have HA := Go.Lib.hid hA
  have HLm := Go.Lib.hid hlm
  have HT := Go.Lib.hid ht
  have HL := Go.Lib.hid hl
  have t1 := (ht.kept (hG _ _ h0) hnt).a1
  clear hY hG hJ h0 hA hlm ht hl
  refine callsIn_of_wp Try.func79 rfl trivial ?_ rfl
  simp only [Try.ntmps79, List.size_toArray, List.length_cons, List.length_nil, Nat.reduceAdd, Nat.reduceSub, Array.replicate_succ, Array.replicate_zero, List.push_toArray, List.append_toArray, List.nil_append, List.cons_append]
  gi_wp2
  gi_loopw [10] (fun s10 wr => ∃ (k : Nat) (pre : List Nat), k ≤ m ∧ s10 = .int .i64 k ∧ Hid (pre = lev (fun e => e.2.1) (l.take k)) ∧ Hid (J pre wr)) (fun s10 _ => m - (RowKit.intOf s10).toNat)
  case atStart => exact ⟨0, [], Nat.zero_le _, rfl, Go.Lib.hid rfl, J0⟩
  case round =>
    obtain ⟨k, pre, hk, rfl, HX, HJ⟩ := hrel
    clear t1 J0
    by_cases hkm : k < m
    · have hkl : k < l.length := by rw [HLm.out]; exact hkm
      have f0 : (0 : Int) ≤ (k : Int) := by omega
      have f1 : (k : Int) < (m : Int) := by omega
      rcases HA.out with ⟨hA0, _⟩ | ⟨g, cap, hv, hg, hcl⟩
      · rw [hA0] at hkl; exact absurd hkl (Nat.not_lt_zero _)
      injection hv with hv1 hv2 hv3
      subst hv1 hv3
      clear hv2
      have hbw := GG.out pre wr HJ.out
      have hgr : some g ≠ R := hne g rfl
      obtain ⟨h0, h1, h2⟩ := hcl k hkl
      have c0 := World.grownBy.cell hbw h0 hgr
      have c1 := World.grownBy.cell hbw h1 hgr
      have c2 := World.grownBy.cell hbw h2 hgr
      have b0 := (HL.out.kept hbw hnl).cell
      have HN := Go.Lib.hid (lev_take (f := (fun e => e.2.1)) hkl)
      have HP := Go.Lib.hid (lev_pre (f := (fun e => e.2.1)) (l := l) (k := k + 1))
      have hbl := (HL.out.kept hbw hnl).lt
      clear h0 h1 h2 hcl
      generalize l[k] = y at c0 c1 c2 HN
      gi_wp2
      refine ⟨trivial, ?_⟩
      gi_at_call 63
      refine (callsIn_wide.2 (sec_any y _)).mono ?_
      rintro e w5 ⟨rfl, k5⟩
      have hB5 : Below wr.heap.size wr w5 := ((Below.refl _ wr).alloc (Nat.le_refl _) _).trans (k5.mono (by rw [World.size_alloc]; exact Nat.le_succ _))
      have hJ5 := JJ.out pre wr w5 HJ.out (grown_below hB5 rfl)
      clear k5 hB5 c0 c1 c2 b0 hbw
      by_cases hz : y.2.1 = 0
      · have f2 : ((y.2.1 : Nat) : Int) = 0 := by omega
        have HN2 := Go.Lib.hid (show pre = lev (fun e => e.2.1) (l.take (k + 1)) by have := HN.out; rw [if_pos hz, List.append_nil] at this; rw [this]; exact HX.out)
        have HJ5 := Go.Lib.hid hJ5
        clear hz hJ5
        gi_wp2
        refine ⟨(fun _ h => nomatch h), ?_⟩
        gi_wp2
        go_roundw
        case rel => exact ⟨k + 1, pre, by omega, by go_num, HN2, HJ5⟩
        case measure => simp [RowKit.intOf]; omega
      · have f2 : ¬ ((y.2.1 : Nat) : Int) = 0 := by omega
        have HN2 := Go.Lib.hid (show pre ++ [y.2.1] = lev (fun e => e.2.1) (l.take (k + 1)) by have := HN.out; rw [if_neg hz] at this; rw [this, HX.out])
        clear hz
        obtain ⟨fn, tmps, assign, body, hy, hRd⟩ := YY.out pre (y.2.1) w5 hJ5 (by rw [HN2.out]; exact HP.out)
        unfold wEnc at hy
        gi_wp2
        refine hRd.mono ?_
        rintro e w8 (⟨rfl, hJ8⟩ | ⟨rfl, hJx8⟩)
        · have HJ8 := Go.Lib.hid hJ8
          clear hy hJ8 hRd hJ5
          gi_wp2
          go_roundw
          case rel => exact ⟨k + 1, pre ++ [y.2.1], by omega, by go_num, HN2, HJ8⟩
          case measure => simp [RowKit.intOf]; omega
        · have HJ8 := Go.Lib.hid hJx8
          clear hy hJx8 hRd hJ5
          gi_wp2
          refine bodyPost_ret (results_none rfl _ _ _) rfl ?_
          exact ⟨⟨_, rfl⟩, .inr ⟨_, by rw [HN2.out]; exact HP.out, HJ8.out⟩⟩
    · obtain rfl : k = m := by omega
      have f1 : ¬ (k : Int) < (k : Int) := by omega
      have HF := Go.Lib.hid (show pre = lev (fun e => e.2.1) l by rw [HX.out, List.take_of_length_le (by rw [HLm.out]; exact Nat.le_refl _)])
      gi_wp2
      go_end0
      exact ⟨⟨_, rfl⟩, .inl ⟨pre, HF.out, HJ.out⟩⟩
theorem sec_seq (n : Nat) (hn : 1 ≤ n) (Bt Bl Bs : Nat) (s : ByteArray) (A : Option Addr) (m d : Nat) (l : List El) (hlm : l.length = m) (hm : m ≤ 100000) (w0 w : World)
    (hA : ElsIn w0 (.slice A m d) l) (ht : ObjAt w0 Bt #[.string s, .slice A m d] 77) (hl : Boxed w0 Bl 105 (.func (.func 63) #[] #[])) (R : Option Nat) (hne : ∀ g, (Value.slice A m d).ownBlock = some g → some g ≠ R) (hnt : some Bt ≠ R) (hnl : some Bl ≠ R) :
    SeqG T0 Bs Fence.wide n Try.prog 79 #[.pointer (some ⟨Bt, 0, none⟩), .pointer (some ⟨Bl, 0, none⟩)] wEnc (fun xs => xs = lev (fun e => e.2.1) l) (fun pre => pre <+: lev (fun e => e.2.1) l) (lev (fun e => e.2.1) l).length (fun W => GrowR w0 W R) w := by
  intro L J Jx W hw hJ _ hG hY h0
  exact sec_gen n hn L Bt Bl s A m d l hlm hm J Jx w0 W hA ht hl R hne hnt hnl hG (fun pre A C h1 h2 => hJ pre A C none h1 h2 (fun _ e => by cases e))
    (fun pre x W1 h1 h2 => by
      obtain ⟨fn, tmps, assign, body, e1, e2⟩ := hY pre x W1 h1 (by obtain ⟨u, hu⟩ := h2; rw [← hu]; simp) h2
      exact ⟨fn, tmps, assign, body, e1, e2.mono fun e W' q => q.imp (fun q => ⟨q.1, q.2.1⟩) id⟩) h0
set_option maxRecDepth 100000 in
set_option maxHeartbeats 8000000 in
theorem ter_gen (n : Nat) (hn : 1 ≤ n) (L Bt Bl : Nat) (s : ByteArray) (A : Option Addr) (m d : Nat) (l : List El) (hlm : l.length = m) (hm : m ≤ 100000) (J Jx : List Nat → World → Prop) (w0 W : World)
    (hA : ElsIn w0 (.slice A m d) l) (ht : ObjAt w0 Bt #[.string s, .slice A m d] 77) (hl : Boxed w0 Bl 105 (.func (.func 65) #[] #[])) (R : Option Nat) (hne : ∀ g, (Value.slice A m d).ownBlock = some g → some g ≠ R) (hnt : some Bt ≠ R) (hnl : some Bl ≠ R) (hG : ∀ pre W', J pre W' → GrowR w0 W' R) (hJ : ∀ pre A C, J pre A → A.grownBy C none → J pre C)
    (hY : ∀ pre x W1, J pre W1 → pre ++ [x] <+: lev (fun e => e.2.2) l → YieldAt Fence.wide (n - 1) Try.prog L (wEnc x) W1 fun e W' =>
      (e = .returned (.bool true) ∧ J (pre ++ [x]) W') ∨ (e = .returned (.bool false) ∧ Jx (pre ++ [x]) W')) (h0 : J [] W) :
    CallsIn Fence.wide n Try.prog 79 #[.func (.yield L) #[] #[], .pointer (some ⟨Bt, 0, none⟩), .pointer (some ⟨Bl, 0, none⟩)] W (LevPost (lev (fun e => e.2.2) l) J Jx) := by
  have YY := Go.Lib.hid hY
  have GG := Go.Lib.hid hG
  have JJ := Go.Lib.hid hJ
  have J0 := Go.Lib.hid h0
  have HA := Go.Lib.hid hA
  have HLm := Go.Lib.hid hlm
  have HT := Go.Lib.hid ht
  have HL := Go.Lib.hid hl
  have t1 := (ht.kept (hG _ _ h0) hnt).a1
  clear hY hG hJ h0 hA hlm ht hl
  refine callsIn_of_wp Try.func79 rfl trivial ?_ rfl
  simp only [Try.ntmps79, List.size_toArray, List.length_cons, List.length_nil, Nat.reduceAdd, Nat.reduceSub, Array.replicate_succ, Array.replicate_zero, List.push_toArray, List.append_toArray, List.nil_append, List.cons_append]
  gi_wp2
  gi_loopw [10] (fun s10 wr => ∃ (k : Nat) (pre : List Nat), k ≤ m ∧ s10 = .int .i64 k ∧ Hid (pre = lev (fun e => e.2.2) (l.take k)) ∧ Hid (J pre wr)) (fun s10 _ => m - (RowKit.intOf s10).toNat)
  case atStart => exact ⟨0, [], Nat.zero_le _, rfl, Go.Lib.hid rfl, J0⟩
  case round =>
    obtain ⟨k, pre, hk, rfl, HX, HJ⟩ := hrel
    clear t1 J0
    by_cases hkm : k < m
    · have hkl : k < l.length := by rw [HLm.out]; exact hkm
      have f0 : (0 : Int) ≤ (k : Int) := by omega
      have f1 : (k : Int) < (m : Int) := by omega
      rcases HA.out with ⟨hA0, _⟩ | ⟨g, cap, hv, hg, hcl⟩
      · rw [hA0] at hkl; exact absurd hkl (Nat.not_lt_zero _)
      injection hv with hv1 hv2 hv3
      subst hv1 hv3
      clear hv2
      have hbw := GG.out pre wr HJ.out
      have hgr : some g ≠ R := hne g rfl
      obtain ⟨h0, h1, h2⟩ := hcl k hkl
      have c0 := World.grownBy.cell hbw h0 hgr
      have c1 := World.grownBy.cell hbw h1 hgr
      have c2 := World.grownBy.cell hbw h2 hgr
      have b0 := (HL.out.kept hbw hnl).cell
      have HN := Go.Lib.hid (lev_take (f := (fun e => e.2.2)) hkl)
      have HP := Go.Lib.hid (lev_pre (f := (fun e => e.2.2)) (l := l) (k := k + 1))
      have hbl := (HL.out.kept hbw hnl).lt
      clear h0 h1 h2 hcl
      generalize l[k] = y at c0 c1 c2 HN
      gi_wp2
      refine ⟨trivial, ?_⟩
      gi_at_call 65
      refine (callsIn_wide.2 (ter_any y _)).mono ?_
      rintro e w5 ⟨rfl, k5⟩
      have hB5 : Below wr.heap.size wr w5 := ((Below.refl _ wr).alloc (Nat.le_refl _) _).trans (k5.mono (by rw [World.size_alloc]; exact Nat.le_succ _))
      have hJ5 := JJ.out pre wr w5 HJ.out (grown_below hB5 rfl)
      clear k5 hB5 c0 c1 c2 b0 hbw
      by_cases hz : y.2.2 = 0
      · have f2 : ((y.2.2 : Nat) : Int) = 0 := by omega
        have HN2 := Go.Lib.hid (show pre = lev (fun e => e.2.2) (l.take (k + 1)) by have := HN.out; rw [if_pos hz, List.append_nil] at this; rw [this]; exact HX.out)
        have HJ5 := Go.Lib.hid hJ5
        clear hz hJ5
        gi_wp2
        refine ⟨(fun _ h => nomatch h), ?_⟩
        gi_wp2
        go_roundw
        case rel => exact ⟨k + 1, pre, by omega, by go_num, HN2, HJ5⟩
        case measure => simp [RowKit.intOf]; omega
      · have f2 : ¬ ((y.2.2 : Nat) : Int) = 0 := by omega
        have HN2 := Go.Lib.hid (show pre ++ [y.2.2] = lev (fun e => e.2.2) (l.take (k + 1)) by have := HN.out; rw [if_neg hz] at this; rw [this, HX.out])
        clear hz
        obtain ⟨fn, tmps, assign, body, hy, hRd⟩ := YY.out pre (y.2.2) w5 hJ5 (by rw [HN2.out]; exact HP.out)
        unfold wEnc at hy
        gi_wp2
        refine hRd.mono ?_
        rintro e w8 (⟨rfl, hJ8⟩ | ⟨rfl, hJx8⟩)
        · have HJ8 := Go.Lib.hid hJ8
          clear hy hJ8 hRd hJ5
          gi_wp2
          go_roundw
          case rel => exact ⟨k + 1, pre ++ [y.2.2], by omega, by go_num, HN2, HJ8⟩
          case measure => simp [RowKit.intOf]; omega
        · have HJ8 := Go.Lib.hid hJx8
          clear hy hJx8 hRd hJ5
          gi_wp2
          refine bodyPost_ret (results_none rfl _ _ _) rfl ?_
          exact ⟨⟨_, rfl⟩, .inr ⟨_, by rw [HN2.out]; exact HP.out, HJ8.out⟩⟩
    · obtain rfl : k = m := by omega
      have f1 : ¬ (k : Int) < (k : Int) := by omega
      have HF := Go.Lib.hid (show pre = lev (fun e => e.2.2) l by rw [HX.out, List.take_of_length_le (by rw [HLm.out]; exact Nat.le_refl _)])
      gi_wp2
      go_end0
      exact ⟨⟨_, rfl⟩, .inl ⟨pre, HF.out, HJ.out⟩⟩
theorem ter_seq (n : Nat) (hn : 1 ≤ n) (Bt Bl Bs : Nat) (s : ByteArray) (A : Option Addr) (m d : Nat) (l : List El) (hlm : l.length = m) (hm : m ≤ 100000) (w0 w : World)
    (hA : ElsIn w0 (.slice A m d) l) (ht : ObjAt w0 Bt #[.string s, .slice A m d] 77) (hl : Boxed w0 Bl 105 (.func (.func 65) #[] #[])) (R : Option Nat) (hne : ∀ g, (Value.slice A m d).ownBlock = some g → some g ≠ R) (hnt : some Bt ≠ R) (hnl : some Bl ≠ R) :
    SeqG T0 Bs Fence.wide n Try.prog 79 #[.pointer (some ⟨Bt, 0, none⟩), .pointer (some ⟨Bl, 0, none⟩)] wEnc (fun xs => xs = lev (fun e => e.2.2) l) (fun pre => pre <+: lev (fun e => e.2.2) l) (lev (fun e => e.2.2) l).length (fun W => GrowR w0 W R) w := by
  intro L J Jx W hw hJ _ hG hY h0
  exact ter_gen n hn L Bt Bl s A m d l hlm hm J Jx w0 W hA ht hl R hne hnt hnl hG (fun pre A C h1 h2 => hJ pre A C none h1 h2 (fun _ e => by cases e))
    (fun pre x W1 h1 h2 => by
      obtain ⟨fn, tmps, assign, body, e1, e2⟩ := hY pre x W1 h1 (by obtain ⟨u, hu⟩ := h2; rw [← hu]; simp) h2
      exact ⟨fn, tmps, assign, body, e1, e2.mono fun e W' q => q.imp (fun q => ⟨q.1, q.2.1⟩) id⟩) h0
set_option maxRecDepth 100000 in
set_option maxHeartbeats 4000000 in
theorem weights_any (s : ByteArray) (v fv : Value) (hv : ∃ A m d, v = .slice A m d) (hf : ∃ q, fv = .func (.func q) #[] #[]) (w : World) : Calls Try.prog 60 #[.agg #[.string s, v], fv] w fun e w' => e = .returned (.func (.func 79) #[] #[.pointer (some ⟨w.heap.size, 0, none⟩), .pointer (some ⟨w.heap.size + 1, 0, none⟩)]) ∧
    w' = (w.alloc (.cells #[.string s, v] 77)).alloc (.cells #[fv] 105) := by
  obtain ⟨A, m, d, rfl⟩ := hv
  obtain ⟨q, rfl⟩ := hf
  go_enter Try.func60, Try.ntmps60
  go_wp2
  go_ret
  exact ⟨rfl, rfl⟩
end Go.Proofs.Ytknbglcmjggkjaa
