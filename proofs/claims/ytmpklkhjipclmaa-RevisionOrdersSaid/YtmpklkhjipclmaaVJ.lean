/- Layer 22: the reference's insert (30). -/
import Derived.Test.YtmpklkhjipclmaaVI
namespace Go.Proofs.Ytmpklkhjipclmaa
open Go.RowKit Go.Lib
set_option linter.unusedVariables false

theorem info3 : (Try.prog.info? 3).map (fun i => (i.zero, i.size, i.bytes)) = some (some (.int .i64 0), 1, 8) := by kernel_rfl
theorem encZ_one (L : List Int) : ∀ u ∈ L.map encZ, u.oneCell' = true := by
  intro u hu
  obtain ⟨x, _, rfl⟩ := List.mem_map.1 hu
  rfl
theorem NsAt.cells {w : World} {g o : Nat} {l : List Int} (h : NsAt w (some ⟨g, o, none⟩) l) : ∀ j u, (l.map encZ)[j]? = some u → w.cell? ⟨g, o + j, none⟩ = some u := by
  intro j u hj
  rcases h with h | ⟨g', o', hg, _, hc⟩
  · subst h; simp at hj
  · injection hg with hg; injection hg with h1 h2 _
    subst h1 h2
    have hlt : j < l.length := by have := (List.getElem?_eq_some_iff.1 hj).1; simpa using this
    rw [hc j hlt]
    rw [List.getElem?_map, List.getElem?_eq_getElem hlt] at hj
    exact hj
theorem NsAt.of_cells {w : World} {g o : Nat} {l : List Int} (hg : g < w.heap.size) (h : ∀ j u, (l.map encZ)[j]? = some u → w.cell? ⟨g, o + j, none⟩ = some u) : NsAt w (some ⟨g, o, none⟩) l :=
  .inr ⟨g, o, rfl, hg, fun k hk => h k _ (by rw [List.getElem?_map, List.getElem?_eq_getElem hk]; rfl)⟩
theorem NsAt.drop {w : World} {g o : Nat} {l : List Int} (h : NsAt w (some ⟨g, o, none⟩) l) (m : Nat) : NsAt w (some ⟨g, o + m, none⟩) (l.drop m) := by
  rcases h with h | ⟨g', o', h1, h2, h3⟩
  · left; rw [h]; exact List.drop_nil
  · injection h1 with h1; injection h1 with e1 e2 _
    subst e1 e2
    refine .inr ⟨g, _, rfl, h2, fun k hk => ?_⟩
    rw [List.getElem_drop]
    have := h3 (m + k) (by rw [List.length_drop] at hk; omega)
    rw [show o + m + k = o + (m + k) by omega]
    exact this
theorem row_ns {w : World} {base n : Nat} {v : Value} {l : List Int} (h : w.ownsRow base 3 1 v n (l.map encZ)) (hn : l.length = n) : ∃ A cb, v = .slice A n cb ∧ n ≤ cb ∧ cb ≤ maxLen ∧ NsAt w A l := by
  have h0 := h
  rcases h.2 with ⟨hv, hz⟩ | ⟨g, cap, cur, hv, hb, hg, hcap, hcm, _⟩
  · subst hz
    exact ⟨none, 0, hv, Nat.le_refl _, by decide, .inl (List.eq_nil_of_length_eq_zero hn)⟩
  · subst hv
    refine ⟨some ⟨g, 0, none⟩, cap, rfl, hcap, hcm, NsAt.of_cells (Array.getElem?_eq_some_iff.1 hg).1 fun j u hj => ?_⟩
    rw [Nat.zero_add]
    exact (h0.cellAt j (by have := (List.getElem?_eq_some_iff.1 hj).1; rw [List.length_map] at this; omega)).trans hj
/-- Numbers that are handed back. -/
def TnR (L : List Int) (w : World) (e : Ending) (w' : World) : Prop := ∃ A cb, e = .returned (.slice A L.length cb) ∧ L.length ≤ cb ∧ cb ≤ maxLen ∧ NsAt w' A L ∧ Below w.heap.size w w'
theorem tn_of {L : List Int} {w w' : World} {base n : Nat} {v : Value} (h : w'.ownsRow base 3 1 v n (L.map encZ)) (hn : L.length = n) (hb : Below w.heap.size w w') : TnR L w (.returned v) w' := by
  obtain ⟨A, cb, rfl, h1, h2, h3⟩ := row_ns h hn
  exact ⟨A, cb, by rw [hn], by rw [hn]; exact h1, h2, h3, hb⟩
theorem srcN_take {W : World} {g o i : Nat} {L : List Int} (h : NsAt W (some ⟨g, o, none⟩) L) : ∀ j u, ((L.take i).map encZ)[j]? = some u → W.cell? ((⟨g, o, none⟩ : Addr).add j) = some u := by
  intro j u hj
  rw [Addr.add_lit]
  exact (h.take i).cells j u hj
theorem srcN_drop {W : World} {g o i : Nat} {L : List Int} (h : NsAt W (some ⟨g, o, none⟩) L) : ∀ j u, ((L.drop i).map encZ)[j]? = some u → W.cell? ((⟨g, o + i, none⟩ : Addr).add j) = some u := by
  intro j u hj
  rw [Addr.add_lit]
  exact (h.drop i).cells j u hj
theorem int_news (W : World) (x : Int) : ∀ j u, [encZ x][j]? = some u → (W.alloc (.cells #[.int .i64 x] 3)).cell? ((⟨W.heap.size, 0, none⟩ : Addr).add j) = some u := by
  intro j u hj
  rw [Addr.add_lit, Nat.zero_add, World.cell?_alloc_new]
  simpa using hj
theorem insU_at {L : List Int} {x : Int} {i : Nat} (hx : x ∉ L) (h1 : ∀ k (h : k < L.length), k < i → L[k] < x) (h2 : ∀ k (h : k < L.length), i ≤ k → x < L[k]) : L.take i ++ x :: L.drop i = insU L x := by
  unfold insU
  rw [if_neg hx, filter_take (i := i) (fun k h hi => by simpa using h1 k h hi) (fun k h hi => by have := h2 k h hi; simp; omega), filter_drop (i := i) (fun k h hi => by have := h1 k h hi; simp; omega) (fun k h hi => by simpa using h2 k h hi)]
theorem pw_le {L : List Int} (h : L.Pairwise (· < ·)) (i j : Nat) (hi : i < L.length) (hj : j < L.length) (hij : i ≤ j) : L[i] ≤ L[j] := by
  rcases Nat.lt_or_eq_of_le hij with h1 | h1
  · exact Int.le_of_lt (List.pairwise_iff_getElem.1 h i j hi hj h1)
  · subst h1; exact Int.le_refl _
set_option maxRecDepth 100000 in
set_option maxHeartbeats 16000000 in
theorem insert_in (L : List Int) (n : Nat) (hn : L.length = n) (h1000 : n ≤ 1000) (x : Int) (hx : x ∈ L) (A : Option Addr) (c : Nat) (hc : n ≤ c ∧ c ≤ maxLen) (w : World) (hA : NsAt w A L) :
    Calls Try.prog 30 #[.slice A n c, .int .i64 x] w (TnR (insU L x) w) := by
  have cH := has_any L n hn h1000 A c x w hA
  rw [decide_eq_true hx] at cH
  have HA := Lib.hid hA
  have HC := Lib.hid hc
  have HN := Lib.hid hn
  have HE := Lib.hid (show insU L x = L by unfold insU; rw [if_pos hx])
  clear hA hc hn
  go_enter Try.func30, Try.ntmps30
  go_wp2_with fail
  (with_reducible refine cH.mono ?_)
  rintro e w1 ⟨rfl, k1⟩
  go_wp2
  go_ret
  exact ⟨A, c, by rw [HE.out, HN.out]; rfl, by rw [HE.out, HN.out]; exact HC.out.1, HC.out.2, by rw [HE.out]; exact HA.out.below k1, k1⟩
set_option maxRecDepth 100000 in
set_option maxHeartbeats 16000000 in
theorem insert_out (L : List Int) (n : Nat) (hn : L.length = n) (h0 : 0 < n) (h1000 : n ≤ 1000) (hs : L.Pairwise (· < ·)) (x : Int) (hx : x ∉ L) (A : Option Addr) (c : Nat) (hc : n ≤ c ∧ c ≤ maxLen) (w : World) (hA : NsAt w A L) :
    Calls Try.prog 30 #[.slice A n c, .int .i64 x] w (TnR (insU L x) w) := by
  obtain ⟨i0, hi, hz0, hz1, hz2⟩ := info_parts info3
  have cH := has_any L n hn h1000 A c x w hA
  rw [decide_eq_false hx] at cH
  have hc1 := hc.1
  have hc2 := hc.2
  unfold maxLen at hc2
  obtain ⟨g, o, rfl, hg, hcl⟩ := hA.pos (by omega)
  have HN := Lib.hid hn
  have HA := Lib.hid hA
  have HCL := Lib.hid hcl
  have HS := Lib.hid hs
  have HX0 := Lib.hid hx
  have hn0 : ¬ (n : Int) ≤ 0 := by omega
  clear hn hA hcl hs hc hx
  go_enter Try.func30, Try.ntmps30
  go_wp2_with fail
  (with_reducible refine cH.mono ?_)
  rintro e w1 ⟨rfl, k1⟩
  have HK1 := Lib.hid k1
  clear cH k1
  go_wp2_with fail
  go_loopw [5] (fun s5 wr => ∃ a : Nat, a ≤ n ∧ s5 = .int .i64 (a : Nat) ∧ Hid (∀ j (h : j < L.length), a ≤ j → x < L[j]) ∧ Hid (Below w.heap.size w wr)) (fun s5 _ => (intOf s5).toNat)
  case atStart => exact ⟨n, Nat.le_refl _, rfl, Lib.hid (fun j h h' => by have := HN.out; omega), HK1⟩
  case round =>
    clear HK1
    obtain ⟨a, han, rfl, HG, HB⟩ := hrel
    by_cases ha0 : a = 0
    case pos =>
      subst ha0
      have HE := Lib.hid (insU_at (i := 0) HX0.out (fun k h hk => absurd hk (Nat.not_lt_zero _)) HG.out)
      have K1 := HB
      have HR := Lib.hid (HA.out.below K1.out)
      have sV := K1.out.size
      have K2 := K1.out.alloc sV (.cells #[] 3)
      have RM := World.ownsRow_made wr #[] 0 sV (Nat.zero_le _) (by simp) (base := w.heap.size) (e := 3) (size := 1)
      generalize hV2 : wr.alloc (.cells #[] 3) = V2 at *
      have sV2 := K2.size
      have K3 := Lib.hid (K2.alloc sV2 (.cells #[.int .i64 x] 3))
      have s3 := K3.out.size
      have RM3 := Lib.hid (RM.kept (World.grownBy_alloc V2 (.cells #[.int .i64 x] 3) none) (by cases (Value.slice (some ⟨wr.heap.size, 0, none⟩) 0 0).ownBlock <;> simp))
      have NW := Lib.hid (int_news V2 x)
      have tok1 : True := trivial
      have tok2 : True := trivial
      have hc0 : ¬ (c = 0) := by omega
      have FIN := Lib.hid (fun (W5 : World) (h5 : Below w.heap.size w W5) => srcN_take (i := n) (HA.out.below h5))
      have hLn : L.take n = L := List.take_of_length_le (by rw [HN.out]; exact Nat.le_refl _)
      have l3 := Lib.hid (show (L.map encZ).length = n * 1 by rw [List.length_map, HN.out, Nat.mul_one])
      clear RM
      go_wp2_with (first
        | (at_builtin; have _t := tok1; refine wpList_append_own _ rfl _ _ 32 rfl w.heap.size 3 i0 (.int .i64 0) 1 8 Try.underlying32 hi hz0 hz1 hz2 rfl (by decide) _ _ _ rfl RM3.out ⟨V2.heap.size, 0, none⟩ 1 1 [encZ x] rfl rfl NW.out (encZ_one [x]) (by unfold maxLen; omega) (by omega) s3 ?_; intro v1 w1 hown1 hgrow1 _; obtain ⟨g1, cap1, rfl⟩ := ownsRow_succ hown1; have K4 := Lib.hid (K3.out.grown hgrow1 s3 (fun j e => (RM3.out.lt j e).1)); have s4 := K4.out.size; have C3 := Lib.hid (FIN.out w1 K4.out); have O1 := Lib.hid hown1; clear tok1 hown1 hgrow1)
        | (at_builtin; have _t := tok2; refine wpList_append_own _ rfl _ _ 32 rfl w.heap.size 3 i0 (.int .i64 0) 1 8 Try.underlying32 hi hz0 hz1 hz2 rfl (by decide) _ _ _ rfl O1.out ⟨g, o, none⟩ n c (L.map encZ) rfl l3.out (by have h := C3.out; rw [hLn] at h; exact h) (encZ_one _) (by unfold maxLen; omega) (by omega) s4 ?_; intro v2 w2 hown2 hgrow2 _; obtain ⟨B2, cb2, rfl⟩ := own_form hown2; have K5 := Lib.hid (K4.out.grown hgrow2 s4 (fun j e => (O1.out.lt j e).1)); clear tok2)
        | fail)
      go_ret
      refine tn_of (L := insU L x) (base := w.heap.size) (n := 0 + 1 + n) ?_ (by rw [← HE.out, List.length_append, List.length_cons, List.length_take, List.length_drop, HN.out]; omega) K5.out
      rw [← HE.out, List.take_zero, List.drop_zero, List.nil_append]
      simpa using hown2
    case neg =>
      obtain ⟨j, hj⟩ : ∃ j, a = j + 1 := ⟨a - 1, by omega⟩
      have hjl : j < L.length := by rw [HN.out]; omega
      have z0 := (HB.out.cell (p := ⟨g, o + j, none⟩) hg).trans (HCL.out j hjl)
      have g0 : 0 < a := by omega
      have g1 : (0 : Int) < (a : Int) := by omega
      have g2 : (0 : Int) ≤ (j : Int) := by omega
      have g3 : (j : Int) < (n : Int) := by omega
      have g4 : IntKind.i64.wrap ((a : Int) - 1) = (j : Int) := by rw [IntKind.wrap_i64]; omega
      have g5 : (a : Int) - 1 = (j : Int) := by omega
      have g6 : IntKind.i64.wrap (j : Int) = (j : Int) := by rw [IntKind.wrap_i64]; omega
      have HX := Lib.hid (fun (h : x < L[j]) k (hk : k < L.length) (hjk : j ≤ k) => (if e : k = j then by subst e; exact h else HG.out k hk (by omega) : x < L[k]))
      have HY := Lib.hid (fun (h : ¬ x < L[j]) k (hk : k < L.length) (hkj : k < a) => (by
        have h1 := pw_le HS.out k j hk hjl (by omega)
        have h3 : L[k] ≠ x := fun e => HX0.out (by rw [← e]; exact List.getElem_mem hk)
        omega : L[k] < x))
      generalize L[j] = v at z0 HX HY
      have HJ := Lib.hid hj
      clear hj
      by_cases hv : x < v
      case pos =>
        have HE := Lib.hid (HX.out hv)
        clear HX HY
        go_wp2
        go_roundw
        case rel => exact ⟨j, by omega, by first | rfl | go_num, HE, HB⟩
        case measure => have := HJ.out; simp [intOf]; omega
      case neg =>
        have HE := Lib.hid (insU_at HX0.out (HY.out hv) HG.out)
        clear HX HY
        have K1 := HB
        have HR := Lib.hid (HA.out.below K1.out)
        have sV := K1.out.size
        have p1 : (0 : Int) ≤ (a : Int) := by omega
        have p2 : (a : Int) ≤ (n : Int) := by omega
        have p3 : (a : Int) ≤ (c : Int) := by omega
        have p4 : a ≤ c := by omega
        have l1 := Lib.hid (show ((L.take a).map encZ).length = a * 1 by rw [List.length_map, List.length_take, HN.out]; omega)
        have l3 := Lib.hid (show ((L.drop a).map encZ).length = (n - a) * 1 by rw [List.length_map, List.length_drop, HN.out]; omega)
        have kV := (Below.refl wr.heap.size wr).alloc (Nat.le_refl _) (.cells #[] 3)
        generalize hVV : wr = V at *
        clear hVV
        by_cases hca : c = a
        case pos =>
          have hna : n = a := by omega
          have hnd : L.drop a = [] := List.drop_eq_nil_of_le (by rw [HN.out]; omega)
          have C1 := Lib.hid (srcN_take (i := a) (HR.out.below kV))
          have RM := Lib.hid (World.ownsRow_made V #[] 0 sV (Nat.zero_le _) (by simp) (base := w.heap.size) (e := 3) (size := 1))
          have K2 := Lib.hid (K1.out.alloc sV (.cells #[] 3))
          have s2 := K2.out.size
          have NWF := Lib.hid (fun (W5 : World) => int_news W5 x)
          have tok1 : True := trivial
          have tok2 : True := trivial
          have tok3 : True := trivial
          clear kV
          go_wp2_with (first
            | (at_builtin; have _t := tok1; refine wpList_append_own _ rfl _ _ 32 rfl w.heap.size 3 i0 (.int .i64 0) 1 8 Try.underlying32 hi hz0 hz1 hz2 rfl (by decide) _ _ _ rfl RM.out ⟨g, o, none⟩ a a ((L.take a).map encZ) rfl l1.out C1.out (encZ_one _) (by unfold maxLen; omega) (by omega) s2 ?_; intro v1 w1 hown1 hgrow1 _; rw [Nat.zero_add] at hown1; obtain ⟨B1, cb1, rfl⟩ := own_form hown1; have K4 := Lib.hid (K2.out.grown hgrow1 s2 (fun j e => (RM.out.lt j e).1)); have s4 := K4.out.size; have O1 := Lib.hid (hown1.kept (World.grownBy_alloc w1 (.cells #[.int .i64 x] 3) none) (by cases (Value.slice B1 a cb1).ownBlock <;> simp)); have K5 := Lib.hid (K4.out.alloc s4 (.cells #[.int .i64 x] 3)); have s5 := K5.out.size; clear tok1 hown1 hgrow1)
            | (at_builtin; have _t := tok2; refine wpList_append_own _ rfl _ _ 32 rfl w.heap.size 3 i0 (.int .i64 0) 1 8 Try.underlying32 hi hz0 hz1 hz2 rfl (by decide) _ _ _ rfl O1.out ⟨w1.heap.size, 0, none⟩ 1 1 [encZ x] rfl rfl (NWF.out w1) (encZ_one [x]) (by unfold maxLen; omega) (by omega) s5 ?_; intro v2 w2 hown2 hgrow2 _; obtain ⟨B2, cb2, rfl⟩ := own_form hown2; have K6 := Lib.hid (K5.out.grown hgrow2 s5 (fun j e => (O1.out.lt j e).1)); have s6 := K6.out.size; have O2 := Lib.hid hown2; clear tok2 hown2 hgrow2)
            | (at_builtin; have _t := tok3; refine wpList_append_own _ rfl _ _ 32 rfl w.heap.size 3 i0 (.int .i64 0) 1 8 Try.underlying32 hi hz0 hz1 hz2 rfl (by decide) _ _ _ rfl O2.out ⟨g, o, none⟩ 0 0 [] rfl rfl (by intro j u hj; simp at hj) (by intro u hu; simp at hu) (by unfold maxLen; omega) (by omega) s6 ?_; intro v3 w3 hown3 hgrow3 _; obtain ⟨B3, cb3, rfl⟩ := own_form hown3; have K7 := Lib.hid (K6.out.grown hgrow3 s6 (fun j e => (O2.out.lt j e).1)); clear tok3)
            | fail)
          go_ret
          refine tn_of (L := insU L x) (base := w.heap.size) (n := a + 1 + 0) ?_ (by rw [← HE.out, List.length_append, List.length_cons, List.length_take, List.length_drop, HN.out]; omega) K7.out
          rw [← HE.out]
          simpa [hnd] using hown3
        case neg =>
          have C1 := Lib.hid (srcN_take (i := a) (HR.out.below kV))
          have RM := Lib.hid (World.ownsRow_made V #[] 0 sV (Nat.zero_le _) (by simp) (base := w.heap.size) (e := 3) (size := 1))
          have K2 := Lib.hid (K1.out.alloc sV (.cells #[] 3))
          have s2 := K2.out.size
          have SRC := Lib.hid (fun (W5 : World) (h5 : Below w.heap.size w W5) => srcN_drop (i := a) (HA.out.below h5))
          have NWF := Lib.hid (fun (W5 : World) => int_news W5 x)
          have tok1 : True := trivial
          have tok2 : True := trivial
          have tok3 : True := trivial
          clear kV
          go_wp2_with (first
            | (at_builtin; have _t := tok1; refine wpList_append_own _ rfl _ _ 32 rfl w.heap.size 3 i0 (.int .i64 0) 1 8 Try.underlying32 hi hz0 hz1 hz2 rfl (by decide) _ _ _ rfl RM.out ⟨g, o, none⟩ a c ((L.take a).map encZ) rfl l1.out C1.out (encZ_one _) (by unfold maxLen; omega) (by omega) s2 ?_; intro v1 w1 hown1 hgrow1 _; rw [Nat.zero_add] at hown1; obtain ⟨B1, cb1, rfl⟩ := own_form hown1; have K4 := Lib.hid (K2.out.grown hgrow1 s2 (fun j e => (RM.out.lt j e).1)); have s4 := K4.out.size; have O1 := Lib.hid (hown1.kept (World.grownBy_alloc w1 (.cells #[.int .i64 x] 3) none) (by cases (Value.slice B1 a cb1).ownBlock <;> simp)); have K5 := Lib.hid (K4.out.alloc s4 (.cells #[.int .i64 x] 3)); have s5 := K5.out.size; clear tok1 hown1 hgrow1)
            | (at_builtin; have _t := tok2; refine wpList_append_own _ rfl _ _ 32 rfl w.heap.size 3 i0 (.int .i64 0) 1 8 Try.underlying32 hi hz0 hz1 hz2 rfl (by decide) _ _ _ rfl O1.out ⟨w1.heap.size, 0, none⟩ 1 1 [encZ x] rfl rfl (NWF.out w1) (encZ_one [x]) (by unfold maxLen; omega) (by omega) s5 ?_; intro v2 w2 hown2 hgrow2 _; obtain ⟨B2, cb2, rfl⟩ := own_form hown2; have K6 := Lib.hid (K5.out.grown hgrow2 s5 (fun j e => (O1.out.lt j e).1)); have s6 := K6.out.size; have O2 := Lib.hid hown2; clear tok2 hown2 hgrow2)
            | (at_builtin; have _t := tok3; refine wpList_append_own _ rfl _ _ 32 rfl w.heap.size 3 i0 (.int .i64 0) 1 8 Try.underlying32 hi hz0 hz1 hz2 rfl (by decide) _ _ _ rfl O2.out ⟨g, o + a, none⟩ (n - a) (c - a) ((L.drop a).map encZ) rfl l3.out (SRC.out w2 K6.out) (encZ_one _) (by unfold maxLen; omega) (by omega) s6 ?_; intro v3 w3 hown3 hgrow3 _; obtain ⟨B3, cb3, rfl⟩ := own_form hown3; have K7 := Lib.hid (K6.out.grown hgrow3 s6 (fun j e => (O2.out.lt j e).1)); clear tok3)
            | fail)
          go_ret
          refine tn_of (L := insU L x) (base := w.heap.size) (n := a + 1 + (n - a)) ?_ (by rw [← HE.out, List.length_append, List.length_cons, List.length_take, List.length_drop, HN.out]; omega) K7.out
          rw [← HE.out]
          simpa using hown3

set_option maxRecDepth 100000 in
set_option maxHeartbeats 16000000 in
theorem insert0_any (x : Int) (A : Option Addr) (c : Nat) (w : World) :
    Calls Try.prog 30 #[.slice A 0 c, .int .i64 x] w (TnR [x] w) := by
  obtain ⟨i0, hi, hz0, hz1, hz2⟩ := info_parts info3
  have cH := has_any [] 0 rfl (by omega) A c x w (.inl rfl)
  rw [decide_eq_false (by simp : x ∉ ([] : List Int))] at cH
  go_enter Try.func30, Try.ntmps30
  go_wp2_with fail
  (with_reducible refine cH.mono ?_)
  rintro e w1 ⟨rfl, k1⟩
  have HK1 := Lib.hid k1
  clear cH k1
  go_wp2_with fail
  go_loopw [5] (fun s5 wr => s5 = .int .i64 0 ∧ Hid (Below w.heap.size w wr)) (fun s5 _ => 0)
  case atStart => exact ⟨rfl, HK1⟩
  case round =>
    clear HK1
    obtain ⟨rfl, K1⟩ := hrel
    have sV := K1.out.size
    have K2 := K1.out.alloc sV (.cells #[] 3)
    have RM := World.ownsRow_made wr #[] 0 sV (Nat.zero_le _) (by simp) (base := w.heap.size) (e := 3) (size := 1)
    generalize hV2 : wr.alloc (.cells #[] 3) = V2 at *
    have sV2 := K2.size
    have K3 := Lib.hid (K2.alloc sV2 (.cells #[.int .i64 x] 3))
    have s3 := K3.out.size
    have RM3 := Lib.hid (RM.kept (World.grownBy_alloc V2 (.cells #[.int .i64 x] 3) none) (by cases (Value.slice (some ⟨wr.heap.size, 0, none⟩) 0 0).ownBlock <;> simp))
    have NW := Lib.hid (int_news V2 x)
    have tok1 : True := trivial
    clear RM
    by_cases hc0 : c = 0
    all_goals
      cases A
      all_goals
        go_wp2_with (first
          | (at_builtin; have _t := tok1; refine wpList_append_own _ rfl _ _ 32 rfl w.heap.size 3 i0 (.int .i64 0) 1 8 Try.underlying32 hi hz0 hz1 hz2 rfl (by decide) _ _ _ rfl RM3.out ⟨V2.heap.size, 0, none⟩ 1 1 [encZ x] rfl rfl NW.out (encZ_one [x]) (by unfold maxLen; omega) (by omega) s3 ?_; intro v1 w1 hown1 hgrow1 _; obtain ⟨g1, cap1, rfl⟩ := ownsRow_succ hown1; have K4 := Lib.hid (K3.out.grown hgrow1 s3 (fun j e => (RM3.out.lt j e).1)); have O1 := Lib.hid hown1; obtain ⟨hc1, hc2⟩ := own_cap hown1; have hc3 : (1 : Int) ≤ (cap1 : Int) := (by omega); have hc4 : 1 ≤ cap1 := (by omega); clear tok1 hown1 hgrow1)
          | fail)
        go_ret
        exact tn_of (L := [x]) (base := w.heap.size) (n := 0 + 1) (by simpa using O1.out) rfl K4.out
/-- insert, on numbers in order. -/
theorem insert_any_ (L : List Int) (n : Nat) (hn : L.length = n) (h1000 : n ≤ 1000) (hs : L.Pairwise (· < ·)) (x : Int) (A : Option Addr) (c : Nat) (hc : n ≤ c ∧ c ≤ maxLen) (w : World) (hA : NsAt w A L) :
    Calls Try.prog 30 #[.slice A n c, .int .i64 x] w (TnR (insU L x) w) := by
  by_cases hx : x ∈ L
  · exact insert_in L n hn h1000 x hx A c hc w hA
  by_cases h0 : n = 0
  · subst h0
    have : L = [] := List.eq_nil_of_length_eq_zero hn
    subst this
    exact insert0_any x A c w
  · exact insert_out L n hn (by omega) h1000 hs x hx A c hc w hA
end Go.Proofs.Ytmpklkhjipclmaa
