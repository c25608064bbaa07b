/- Layer 22: the reference's put (24). -/
import Derived.Test.YtmpklkhjipclmaaVG
import Derived.Test.YtmpklkhjipclmaaV6
namespace Go.Proofs.Ytmpklkhjipclmaa
open Go.RowKit Go.Lib
set_option linter.unusedVariables false

/-- A table with one more revision in the order of ids. -/
def putR (L : List Rv) (x : Rv) : List Rv := L.filter (fun y => decide (y.id < x.id)) ++ x :: L.filter (fun y => decide (x.id < y.id))
theorem filter_take {β : Type} {q : β → Bool} {L : List β} {i : Nat} (h1 : ∀ k (h : k < L.length), k < i → q L[k] = true) (h2 : ∀ k (h : k < L.length), i ≤ k → q L[k] = false) : L.filter q = L.take i := by
  conv => lhs; rw [← List.take_append_drop i L]
  rw [List.filter_append, List.filter_eq_self.2, List.filter_eq_nil_iff.2, List.append_nil]
  · intro a ha
    obtain ⟨k, hk, rfl⟩ := List.mem_iff_getElem.1 ha
    rw [List.getElem_drop, h2 _ _ (by omega)]
    decide
  · intro a ha
    obtain ⟨k, hk, rfl⟩ := List.mem_iff_getElem.1 ha
    rw [List.getElem_take]
    exact h1 _ _ (by rw [List.length_take] at hk; omega)
theorem filter_drop {β : Type} {q : β → Bool} {L : List β} {i : Nat} (h1 : ∀ k (h : k < L.length), k < i → q L[k] = false) (h2 : ∀ k (h : k < L.length), i ≤ k → q L[k] = true) : L.filter q = L.drop i := by
  conv => lhs; rw [← List.take_append_drop i L]
  rw [List.filter_append, List.filter_eq_nil_iff.2, List.nil_append, List.filter_eq_self.2]
  · intro a ha
    obtain ⟨k, hk, rfl⟩ := List.mem_iff_getElem.1 ha
    rw [List.getElem_drop, h2 _ _ (by omega)]
  · intro a ha
    obtain ⟨k, hk, rfl⟩ := List.mem_iff_getElem.1 ha
    rw [List.getElem_take, h1 _ _ (by rw [List.length_take] at hk; omega)]
    decide
theorem put_at {L : List Rv} {x : Rv} {i : Nat} (h1 : ∀ k (h : k < L.length), k < i → L[k].id < x.id) (h2 : ∀ k (h : k < L.length), i ≤ k → x.id < L[k].id) : L.take i ++ x :: L.drop i = putR L x := by
  unfold putR
  rw [filter_take (i := i) (fun k h hi => by simpa using h1 k h hi) (fun k h hi => by have := h2 k h hi; simp; omega), filter_drop (i := i) (fun k h hi => by have := h1 k h hi; simp; omega) (fun k h hi => by simpa using h2 k h hi)]
theorem sortp_pw {L : List Rv} : SortP L ↔ L.Pairwise (fun a b => a.id < b.id) := by
  rw [List.pairwise_iff_getElem]; rfl
theorem putR_sort {L : List Rv} {x : Rv} (h : SortP L) : SortP (putR L x) := by
  rw [sortp_pw] at h ⊢
  unfold putR
  refine List.pairwise_append.2 ⟨List.Pairwise.filter _ h, List.pairwise_cons.2 ⟨fun a ha => by simpa using (List.mem_filter.1 ha).2, List.Pairwise.filter _ h⟩, fun a ha b hb => ?_⟩
  have h1 : a.id < x.id := by simpa using (List.mem_filter.1 ha).2
  rcases List.mem_cons.1 hb with rfl | hb
  · exact h1
  · have h2 : x.id < b.id := by simpa using (List.mem_filter.1 hb).2
    omega
theorem putR_mem {L : List Rv} {x : Rv} (hne : ∀ y ∈ L, y.id ≠ x.id) (z : Rv) : z ∈ putR L x ↔ z ∈ L ∨ z = x := by
  unfold putR
  simp only [List.mem_append, List.mem_cons, List.mem_filter, decide_eq_true_eq]
  constructor
  · rintro (⟨h1, _⟩ | rfl | ⟨h1, _⟩)
    · exact .inl h1
    · exact .inr rfl
    · exact .inl h1
  · rintro (h1 | rfl)
    · have := hne z h1
      rcases Int.lt_trichotomy z.id x.id with h2 | h2 | h2
      · exact .inl ⟨h1, h2⟩
      · exact absurd h2 this
      · exact .inr (.inr ⟨h1, h2⟩)
    · exact .inr (.inl rfl)
theorem putR_len {L : List Rv} {x : Rv} (hs : SortP L) (hne : ∀ y ∈ L, y.id ≠ x.id) : (putR L x).length = L.length + 1 := by
  unfold putR
  rw [List.length_append, List.length_cons]
  have : ∀ M : List Rv, (∀ y ∈ M, y.id ≠ x.id) → (M.filter (fun y => decide (y.id < x.id))).length + (M.filter (fun y => decide (x.id < y.id))).length = M.length := by
    intro M
    induction M with
    | nil => intro _; rfl
    | cons a M ih =>
      intro h
      have h1 := ih (fun y hy => h y (by simp [hy]))
      have h2 := h a (by simp)
      rw [List.filter_cons, List.filter_cons]
      by_cases e : a.id < x.id
      · have e2 : ¬ x.id < a.id := by omega
        simp only [e, e2, decide_true, decide_false, if_true, if_false, List.length_cons, Bool.false_eq_true]
        omega
      · have e2 : x.id < a.id := by omega
        simp only [e, e2, decide_true, decide_false, if_true, if_false, List.length_cons, Bool.false_eq_true]
        omega
  have := this L hne
  omega
/-- A table that is handed back. -/
def TbR (L : List Rv) (w : World) (e : Ending) (w' : World) : Prop := ∃ A cb, e = .returned (.slice A L.length cb) ∧ L.length ≤ cb ∧ cb ≤ maxLen ∧ RsAt w' A L ∧ Below w.heap.size w w'
theorem tb_of {L : List Rv} {w w' : World} {base n : Nat} {v : Value} (h : w'.ownsRow base 23 3 v n (rowR L)) (hn : L.length = n) (hb : Below w.heap.size w w') : TbR L w (.returned v) w' := by
  obtain ⟨A, cb, rfl, h1, h2, h3⟩ := row_rs h hn
  exact ⟨A, cb, by rw [hn], by rw [hn]; exact h1, h2, h3, hb⟩
theorem src_take {W : World} {g o i : Nat} {L : List Rv} (h : RsAt W (some ⟨g, o, none⟩) L) : ∀ j u, (rowR (L.take i))[j]? = some u → W.cell? ((⟨g, o, none⟩ : Addr).add j) = some u := by
  intro j u hj
  rw [Addr.add_lit]
  exact (h.take i).cells j u hj
theorem src_drop {W : World} {g o i : Nat} {L : List Rv} (h : RsAt W (some ⟨g, o, none⟩) L) : ∀ j u, (rowR (L.drop i))[j]? = some u → W.cell? ((⟨g, o + i * 3, none⟩ : Addr).add j) = some u := by
  intro j u hj
  rw [Addr.add_lit]
  exact (h.drop i).cells j u hj
attribute [local irreducible] wpQuiet in
set_option maxRecDepth 100000 in
set_option maxHeartbeats 16000000 in
theorem put_any (L : List Rv) (n : Nat) (hn : L.length = n) (h0 : 0 < n) (h1000 : n ≤ 1000) (hs : SortP L) (x : Rv) (hne : ∀ y ∈ L, y.id ≠ x.id) (A : Option Addr) (c : Nat) (hc : n ≤ c ∧ c ≤ maxLen) (w : World) (hA : RsAt w A L) :
    Calls Try.prog 24 #[.slice A n c, rvV x] w (TbR (putR L x) w) := by
  obtain ⟨i0, hi, hz0, hz1, hz2⟩ := info_parts info23
  obtain ⟨xa, xs, xt⟩ := x
  have hc1 := hc.1
  have hc2 := hc.2
  unfold maxLen at hc2
  obtain ⟨g, o, rfl, hg, hcl⟩ := hA.pos (by omega)
  have HN := Lib.hid hn
  have HA := Lib.hid hA
  have HCL := Lib.hid hcl
  have HS := Lib.hid hs
  have HNE := Lib.hid hne
  have b0 := (Below.refl w.heap.size w).alloc (Nat.le_refl _) (.cells #[.int .i64 xa, .string xs, .int .i64 xt] 23)
  have O0 := Lib.hid (ObjAt.new w #[.int .i64 xa, .string xs, .int .i64 xt] 23)
  have HB0 := Lib.hid b0
  have s0 := b0.size
  have hn0 : ¬ (n : Int) ≤ 0 := by omega
  have HL := Lib.hid (putR_len (x := ⟨xa, xs, xt⟩) hs hne)
  have hwW : w.heap.size < (w.alloc (.cells #[.int .i64 xa, .string xs, .int .i64 xt] 23)).heap.size := by simp
  generalize hW : w.alloc (.cells #[.int .i64 xa, .string xs, .int .i64 xt] 23) = W at b0 O0 HB0 s0 hwW
  have HW := Lib.hid hW
  clear hn hA hcl hs hne hc b0
  go_enter Try.func24, Try.ntmps24
  go_wp2_with fail
  go_loopw [5] (fun s5 wr => ∃ a : Nat, a ≤ n ∧ s5 = .int .i64 (a : Nat) ∧ Hid (∀ j (h : j < L.length), a ≤ j → xa < L[j].id) ∧ Hid (Below W.heap.size W wr)) (fun s5 _ => (intOf s5).toNat)
  case atStart => exact ⟨n, Nat.le_refl _, rfl, Lib.hid (fun j h h' => by have := HN.out; omega), Lib.hid (by first | exact Below.refl _ _ | (rw [HW.out]; exact Below.refl _ _))⟩
  case round =>
    obtain ⟨a, han, rfl, HG, HB⟩ := hrel
    have sB := HB.out.size
    have x0 := (O0.out.below HB.out).b0
    have hx := Lib.hid HG.out
    by_cases ha0 : a = 0
    case pos =>
      subst ha0
      have HE := Lib.hid (put_at (x := ⟨xa, xs, xt⟩) (i := 0) (fun k h hk => absurd hk (Nat.not_lt_zero _)) HG.out)
      go_wp2
      go_quiet (fail)
      have B1 := bdrew HB.out nq
      have K1 := Lib.hid (HB0.out.trans (B1.mono s0))
      have OV := Lib.hid (O0.out.below B1)
      have HR := Lib.hid (HA.out.below K1.out)
      generalize wr.drewN nq = V at B1 K1 OV HR ⊢
      have sV := K1.out.size
      have hgV : g < V.heap.size := Nat.lt_of_lt_of_le hg sV
      have kV := (Below.refl V.heap.size V).alloc (Nat.le_refl _) (.cells #[] 23)
      have y0 := (OV.out.below kV).b0
      have y1 := (OV.out.below kV).b1
      have y2 := (OV.out.below kV).b2
      have K2 := K1.out.alloc sV (.cells #[] 23)
      have RM := World.ownsRow_made V #[] 0 sV (Nat.zero_le _) (by simp) (base := w.heap.size) (e := 23) (size := 3)
      generalize hV2 : V.alloc (.cells #[] 23) = V2 at *
      have sV2 := K2.size
      have K3 := Lib.hid (K2.alloc sV2 (.cells #[.int .i64 xa, .string xs, .int .i64 xt] 23))
      have s3 := K3.out.size
      have RM3 := Lib.hid (RM.kept (World.grownBy_alloc V2 (.cells #[.int .i64 xa, .string xs, .int .i64 xt] 23) none) (by cases (Value.slice (some ⟨V.heap.size, 0, none⟩) 0 0).ownBlock <;> simp))
      have NW := Lib.hid (rv_news V2 ⟨xa, xs, xt⟩)
      have tok1 : True := trivial
      have tok2 : True := trivial
      have hc0 : ¬ (c = 0) := by omega
      have FIN := Lib.hid (fun (W5 W6 : World) (cb1 : Nat) (g1 : Nat) (h5 : Below w.heap.size w W5) => src_take (i := n) (HA.out.below h5))
      have hLn : L.take n = L := List.take_of_length_le (by rw [HN.out]; exact Nat.le_refl _)
      have l3 := Lib.hid ((rowR_len L).trans (by rw [HN.out]))
      clear y0 y1 y2 RM kV
      have y0 := (OV.out.below (show Below V.heap.size V V2 by rw [← hV2]; exact (Below.refl _ V).alloc (Nat.le_refl _) _)).b0
      have y1 := (OV.out.below (show Below V.heap.size V V2 by rw [← hV2]; exact (Below.refl _ V).alloc (Nat.le_refl _) _)).b1
      have y2 := (OV.out.below (show Below V.heap.size V V2 by rw [← hV2]; exact (Below.refl _ V).alloc (Nat.le_refl _) _)).b2
      go_wp2_with (first
        | (at_builtin; have _t := tok1; refine wpList_append_own _ rfl _ _ 24 rfl w.heap.size 23 i0 (.agg #[.int .i64 0, .string ByteArray.empty, .int .i64 0]) 3 32 Try.underlying24 hi hz0 hz1 hz2 rfl (by decide) _ _ _ rfl RM3.out ⟨V2.heap.size, 0, none⟩ 1 1 (rowR1 ⟨xa, xs, xt⟩) rfl rfl NW.out (rowR1_one _) (by unfold maxLen; omega) (by omega) s3 ?_; intro v1 w1 hown1 hgrow1 _; obtain ⟨g1, cap1, rfl⟩ := ownsRow_succ hown1; have K4 := Lib.hid (K3.out.grown hgrow1 s3 (fun j e => (RM3.out.lt j e).1)); have s4 := K4.out.size; have C3 := Lib.hid (FIN.out w1 w1 0 0 K4.out); have O1 := Lib.hid hown1; clear tok1 hown1 hgrow1)
        | (at_builtin; have _t := tok2; refine wpList_append_own _ rfl _ _ 24 rfl w.heap.size 23 i0 (.agg #[.int .i64 0, .string ByteArray.empty, .int .i64 0]) 3 32 Try.underlying24 hi hz0 hz1 hz2 rfl (by decide) _ _ _ rfl O1.out ⟨g, o, none⟩ n c (rowR L) rfl l3.out (by have h := C3.out; rw [hLn] at h; exact h) (rowR_one _) (by unfold maxLen; omega) (by omega) s4 ?_; intro v2 w2 hown2 hgrow2 _; obtain ⟨B2, cb2, rfl⟩ := own_form hown2; have K5 := Lib.hid (K4.out.grown hgrow2 s4 (fun j e => (O1.out.lt j e).1)); clear tok2)
        | fail)
      go_ret
      refine tb_of (L := putR L ⟨xa, xs, xt⟩) (base := w.heap.size) (n := 0 + 1 + n) ?_ (by rw [HL.out, HN.out]; omega) K5.out
      rw [← HE.out, List.take_zero, List.drop_zero, List.nil_append, rowR_cons]
      simpa using hown2
    case neg =>
      obtain ⟨j, hj⟩ : ∃ j, a = j + 1 := ⟨a - 1, by omega⟩
      have hjl : j < L.length := by rw [HN.out]; omega
      have z0 := ((HB0.out.trans (HB.out.mono s0)).cell (p := ⟨g, o + j * 3, none⟩) hg).trans (HCL.out j hjl).1
      have g0 : 0 < a := by omega
      have g1 : (0 : Int) < (a : Int) := by omega
      have g2 : (0 : Int) ≤ (j : Int) := by omega
      have g3 : (j : Int) < (n : Int) := by omega
      have g4 : IntKind.i64.wrap ((a : Int) - 1) = (j : Int) := by rw [IntKind.wrap_i64]; omega
      have g5 : (a : Int) - 1 = (j : Int) := by omega
      have g6 : IntKind.i64.wrap (j : Int) = (j : Int) := by rw [IntKind.wrap_i64]; omega
      have HX := Lib.hid (fun (h : xa < L[j].id) k (hk : k < L.length) (hjk : j ≤ k) => (if e : k = j then by subst e; exact h else HG.out k hk (by omega) : xa < L[k].id))
      have HY := Lib.hid (fun (h : ¬ xa < L[j].id) k (hk : k < L.length) (hkj : k < a) => (by
        have h1 := HS.out.le k j hk hjl (by omega)
        have h2 := HNE.out _ (List.getElem_mem hk)
        have h3 : L[k].id ≠ xa := h2
        omega : L[k].id < xa))
      generalize L[j].id = v at z0 HX HY
      have HJ := Lib.hid hj
      clear hj
      by_cases hv : xa < v
      case pos =>
        have HE := Lib.hid (HX.out hv)
        clear HX HY
        go_wp2
        go_quiet (fail)
        go_wp2
        go_roundw
        case rel => exact ⟨j, by omega, by first | rfl | go_num, HE, Lib.hid (bdrew HB.out _)⟩
        case measure => have := HJ.out; simp [intOf]; omega
      case neg =>
        have HE := Lib.hid (put_at (x := ⟨xa, xs, xt⟩) (HY.out hv) HG.out)
        clear HX HY
        go_wp2
        go_quiet (fail)
        have B1 := bdrew HB.out nq
        have K1 := Lib.hid B1
        have OV := Lib.hid (O0.out.below B1)
        have HR := Lib.hid (HA.out.below (HB0.out.trans (B1.mono s0)))
        generalize wr.drewN nq = V at B1 K1 OV HR ⊢
        have sV := K1.out.size
        have p1 : (0 : Int) ≤ (a : Int) := by omega
        have p2 : (a : Int) ≤ (n : Int) := by omega
        have p3 : (a : Int) ≤ (c : Int) := by omega
        have p4 : a ≤ c := by omega
        have hta : (L.take a).length = a := by rw [List.length_take, HN.out]; omega
        have htd : (L.drop a).length = n - a := by rw [List.length_drop, HN.out]
        have l1 := Lib.hid ((rowR_len (L.take a)).trans (by rw [hta]))
        have l3 := Lib.hid ((rowR_len (L.drop a)).trans (by rw [htd]))
        have kV := (Below.refl V.heap.size V).alloc (Nat.le_refl _) (.cells #[] 23)
        clear hta htd B1
        by_cases hca : c = a
        case pos =>
          have hna : n = a := by omega
          have hnd : L.drop a = [] := List.drop_eq_nil_of_le (by rw [HN.out]; omega)
          have C1 := Lib.hid (src_take (i := a) (HR.out.below kV))
          have RM := Lib.hid (World.ownsRow_made V #[] 0 sV (Nat.zero_le _) (by simp) (base := W.heap.size) (e := 23) (size := 3))
          have K2 := Lib.hid (K1.out.alloc sV (.cells #[] 23))
          have s2 := K2.out.size
          have SRC := Lib.hid (fun (W5 : World) (h5 : Below W.heap.size W W5) => (by intro j u hj; rw [hnd] at hj; simp [rowR] at hj : ∀ j u, (rowR (L.drop a))[j]? = some u → W5.cell? ((⟨g, o, none⟩ : Addr).add j) = some u))
          have NWF := Lib.hid (fun (W5 : World) => rv_news W5 ⟨xa, xs, xt⟩)
          have OO := Lib.hid (show ObjAt (V.alloc (.cells #[] 23)) w.heap.size #[.int .i64 xa, .string xs, .int .i64 xt] 23 from OV.out.below kV)
          have tok1 : True := trivial
          have tok2 : True := trivial
          have tok3 : True := trivial
          clear kV
          go_wp2_with (first
            | (at_builtin; have _t := tok1; refine wpList_append_own _ rfl _ _ 24 rfl W.heap.size 23 i0 (.agg #[.int .i64 0, .string ByteArray.empty, .int .i64 0]) 3 32 Try.underlying24 hi hz0 hz1 hz2 rfl (by decide) _ _ _ rfl RM.out ⟨g, o, none⟩ a a (rowR (L.take a)) rfl l1.out C1.out (rowR_one _) (by unfold maxLen; omega) (by omega) s2 ?_; intro v1 w1 hown1 hgrow1 _; rw [Nat.zero_add] at hown1; obtain ⟨B1, cb1, rfl⟩ := own_form hown1; have K4 := Lib.hid (K2.out.grown hgrow1 s2 (fun j e => (RM.out.lt j e).1)); have s4 := K4.out.size; have OX := Lib.hid (OO.out.kept hgrow1 (by intro e; have h9 := (RM.out.lt w.heap.size e.symm).1; omega)); have y0 := OX.out.b0; have y1 := OX.out.b1; have y2 := OX.out.b2; have O1 := Lib.hid (hown1.kept (World.grownBy_alloc w1 (.cells #[.int .i64 xa, .string xs, .int .i64 xt] 23) none) (by cases (Value.slice B1 a cb1).ownBlock <;> simp)); have K5 := Lib.hid (K4.out.alloc s4 (.cells #[.int .i64 xa, .string xs, .int .i64 xt] 23)); have s5 := K5.out.size; clear tok1 hown1 hgrow1)
            | (at_builtin; have _t := tok2; refine wpList_append_own _ rfl _ _ 24 rfl W.heap.size 23 i0 (.agg #[.int .i64 0, .string ByteArray.empty, .int .i64 0]) 3 32 Try.underlying24 hi hz0 hz1 hz2 rfl (by decide) _ _ _ rfl O1.out ⟨w1.heap.size, 0, none⟩ 1 1 (rowR1 ⟨xa, xs, xt⟩) rfl rfl (NWF.out w1) (rowR1_one _) (by unfold maxLen; omega) (by omega) s5 ?_; intro v2 w2 hown2 hgrow2 _; obtain ⟨B2, cb2, rfl⟩ := own_form hown2; have K6 := Lib.hid (K5.out.grown hgrow2 s5 (fun j e => (O1.out.lt j e).1)); have s6 := K6.out.size; have s6 := K6.out.size; have O2 := Lib.hid hown2; clear tok2 hown2 hgrow2)
            | (at_builtin; have _t := tok3; refine wpList_append_own _ rfl _ _ 24 rfl W.heap.size 23 i0 (.agg #[.int .i64 0, .string ByteArray.empty, .int .i64 0]) 3 32 Try.underlying24 hi hz0 hz1 hz2 rfl (by decide) _ _ _ rfl O2.out ⟨g, o, none⟩ 0 0 [] rfl rfl (by intro j u hj; simp at hj) (by intro u hu; simp at hu) (by unfold maxLen; omega) (by omega) s6 ?_; intro v3 w3 hown3 hgrow3 _; obtain ⟨B3, cb3, rfl⟩ := own_form hown3; have K7 := Lib.hid (K6.out.grown hgrow3 s6 (fun j e => (O2.out.lt j e).1)); clear tok3)
            | fail)
          go_ret
          refine tb_of (L := putR L ⟨xa, xs, xt⟩) (base := W.heap.size) (n := a + 1 + 0) ?_ (by rw [HL.out, HN.out, hna]) (HB0.out.trans (K7.out.mono s0))
          rw [← HE.out, rowR_append, rowR_cons, hnd]
          simpa [rowR] using hown3
        case neg =>
          have C1 := Lib.hid (src_take (i := a) (HR.out.below kV))
          have RM := Lib.hid (World.ownsRow_made V #[] 0 sV (Nat.zero_le _) (by simp) (base := W.heap.size) (e := 23) (size := 3))
          have K2 := Lib.hid (K1.out.alloc sV (.cells #[] 23))
          have s2 := K2.out.size
          have SRC := Lib.hid (fun (W5 : World) (h5 : Below W.heap.size W W5) => src_drop (i := a) (HA.out.below (HB0.out.trans (h5.mono s0))))
          have NWF := Lib.hid (fun (W5 : World) => rv_news W5 ⟨xa, xs, xt⟩)
          have OO := Lib.hid (show ObjAt (V.alloc (.cells #[] 23)) w.heap.size #[.int .i64 xa, .string xs, .int .i64 xt] 23 from OV.out.below kV)
          have tok1 : True := trivial
          have tok2 : True := trivial
          have tok3 : True := trivial
          clear kV
          go_wp2_with (first
            | (at_builtin; have _t := tok1; refine wpList_append_own _ rfl _ _ 24 rfl W.heap.size 23 i0 (.agg #[.int .i64 0, .string ByteArray.empty, .int .i64 0]) 3 32 Try.underlying24 hi hz0 hz1 hz2 rfl (by decide) _ _ _ rfl RM.out ⟨g, o, none⟩ a c (rowR (L.take a)) rfl l1.out C1.out (rowR_one _) (by unfold maxLen; omega) (by omega) s2 ?_; intro v1 w1 hown1 hgrow1 _; rw [Nat.zero_add] at hown1; obtain ⟨B1, cb1, rfl⟩ := own_form hown1; have K4 := Lib.hid (K2.out.grown hgrow1 s2 (fun j e => (RM.out.lt j e).1)); have s4 := K4.out.size; have OX := Lib.hid (OO.out.kept hgrow1 (by intro e; have h9 := (RM.out.lt w.heap.size e.symm).1; omega)); have y0 := OX.out.b0; have y1 := OX.out.b1; have y2 := OX.out.b2; have O1 := Lib.hid (hown1.kept (World.grownBy_alloc w1 (.cells #[.int .i64 xa, .string xs, .int .i64 xt] 23) none) (by cases (Value.slice B1 a cb1).ownBlock <;> simp)); have K5 := Lib.hid (K4.out.alloc s4 (.cells #[.int .i64 xa, .string xs, .int .i64 xt] 23)); have s5 := K5.out.size; clear tok1 hown1 hgrow1)
            | (at_builtin; have _t := tok2; refine wpList_append_own _ rfl _ _ 24 rfl W.heap.size 23 i0 (.agg #[.int .i64 0, .string ByteArray.empty, .int .i64 0]) 3 32 Try.underlying24 hi hz0 hz1 hz2 rfl (by decide) _ _ _ rfl O1.out ⟨w1.heap.size, 0, none⟩ 1 1 (rowR1 ⟨xa, xs, xt⟩) rfl rfl (NWF.out w1) (rowR1_one _) (by unfold maxLen; omega) (by omega) s5 ?_; intro v2 w2 hown2 hgrow2 _; obtain ⟨B2, cb2, rfl⟩ := own_form hown2; have K6 := Lib.hid (K5.out.grown hgrow2 s5 (fun j e => (O1.out.lt j e).1)); have s6 := K6.out.size; have O2 := Lib.hid hown2; clear tok2 hown2 hgrow2)
            | (at_builtin; have _t := tok3; refine wpList_append_own _ rfl _ _ 24 rfl W.heap.size 23 i0 (.agg #[.int .i64 0, .string ByteArray.empty, .int .i64 0]) 3 32 Try.underlying24 hi hz0 hz1 hz2 rfl (by decide) _ _ _ rfl O2.out ⟨g, o + a * 3, none⟩ (n - a) (c - a) (rowR (L.drop a)) rfl l3.out (SRC.out w2 K6.out) (rowR_one _) (by unfold maxLen; omega) (by omega) s6 ?_; intro v3 w3 hown3 hgrow3 _; obtain ⟨B3, cb3, rfl⟩ := own_form hown3; have K7 := Lib.hid (K6.out.grown hgrow3 s6 (fun j e => (O2.out.lt j e).1)); clear tok3)
            | fail)
          go_ret
          refine tb_of (L := putR L ⟨xa, xs, xt⟩) (base := W.heap.size) (n := a + 1 + (n - a)) ?_ (by rw [HL.out, HN.out]; omega) (HB0.out.trans (K7.out.mono s0))
          rw [← HE.out, rowR_append, rowR_cons]
          simpa using hown3
end Go.Proofs.Ytmpklkhjipclmaa
