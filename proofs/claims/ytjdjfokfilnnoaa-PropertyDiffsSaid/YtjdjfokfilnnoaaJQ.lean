/- Layer 7: changes in memory; whether one fits; Apply. -/
import Derived.Test.YtjdjfokfilnnoaaJO
import Derived.Test.YtjdjfokfilnnoaaH5
import Derived.Deep.Slices
namespace Go.Proofs.Ytjdjfokfilnnoaa
open Go.RowKit Go.Lib Go.ChangeShapes Go.WideShapes

/-- Changes in memory. -/
def ChAt (w : World) (A : Option Addr) (l : List Ch) : Prop := l = [] ∨ ∃ g o, A = some ⟨g, o, none⟩ ∧ g < w.heap.size ∧
  ∀ k (h : k < l.length), w.cell? ⟨g, o + k * 5, none⟩ = some (.int .i64 l[k].1) ∧ w.cell? ⟨g, o + k * 5 + 1, none⟩ = some (.int .i64 l[k].2.1) ∧ w.cell? ⟨g, o + k * 5 + 2, none⟩ = some (.int .i64 l[k].2.2.1) ∧
    w.cell? ⟨g, o + k * 5 + 3, none⟩ = some (.bool l[k].2.2.2.1) ∧ w.cell? ⟨g, o + k * 5 + 4, none⟩ = some (.bool l[k].2.2.2.2)
theorem ChAt.below {w w' : World} {A : Option Addr} {l : List Ch} (h : ChAt w A l) (hb : Below w.heap.size w w') : ChAt w' A l := by
  rcases h with h | ⟨g, o, h1, h2, h3⟩
  · exact .inl h
  · refine .inr ⟨g, o, h1, Nat.lt_of_lt_of_le h2 hb.size, fun k hk => ?_⟩
    obtain ⟨c0, c1, c2, c3, c4⟩ := h3 k hk
    exact ⟨(hb.cell (p := ⟨g, o + k * 5, none⟩) h2).trans c0, (hb.cell (p := ⟨g, o + k * 5 + 1, none⟩) h2).trans c1, (hb.cell (p := ⟨g, o + k * 5 + 2, none⟩) h2).trans c2, (hb.cell (p := ⟨g, o + k * 5 + 3, none⟩) h2).trans c3, (hb.cell (p := ⟨g, o + k * 5 + 4, none⟩) h2).trans c4⟩
theorem ChAt.take {w : World} {A : Option Addr} {l : List Ch} (h : ChAt w A l) (n : Nat) : ChAt w A (l.take n) := by
  rcases h with h | ⟨g, o, hA, hg, hc⟩
  · subst h; exact .inl (by simp)
  · refine .inr ⟨g, o, hA, hg, fun k hk => ?_⟩
    have hk' : k < l.length := by simp at hk; omega
    simp only [List.getElem_take]
    exact hc k hk'
def ChangesIn (w : World) (A : Option Addr) (len cap : Nat) (l : List Ch) : Prop := l.length = len ∧ len ≤ cap ∧ cap ≤ maxLen ∧ ChAt w A l
theorem open_changes {H : Type} {enc : TypeId × Value → H} {w : World} {fuel len cap : Nat} {A : Option Addr} {x : DataW H × List MemPlace}
    (h : DataW.trod enc Try.prog w 0 (fun _ => true) true fuel 61 [.slice A len cap] = some x) : ∃ l, ChangesIn w A len cap l := by
  rcases Go.Deep.open_slice Try.underlying61 h with ⟨hcs, _⟩ | ⟨a, len', cap', m, n, D, Pl, hcs, _, hl, hm, hmm, _, hat⟩
  · simp only [List.cons.injEq, Value.slice.injEq, and_true] at hcs
    obtain ⟨rfl, rfl, rfl⟩ := hcs
    exact ⟨[], rfl, Nat.le_refl _, by decide, .inl rfl⟩
  · simp only [List.cons.injEq, Value.slice.injEq, and_true] at hcs
    obtain ⟨rfl, rfl, rfl⟩ := hcs
    simp only [if_true] at hmm
    subst hmm
    have ce : Try.prog.cellsOf 64 = 5 := by kernel_rfl
    have c3 : Try.prog.cellsOf 3 = 1 := by kernel_rfl
    have c4 : Try.prog.cellsOf 4 = 1 := by kernel_rfl
    have each : ∀ i, i < len → ∃ q : Ch, w.cell? (a.add (i * 5)) = some (.int .i64 q.1) ∧ w.cell? (a.add (i * 5 + 1)) = some (.int .i64 q.2.1) ∧ w.cell? (a.add (i * 5 + 2)) = some (.int .i64 q.2.2.1) ∧ w.cell? (a.add (i * 5 + 3)) = some (.bool q.2.2.2.1) ∧ w.cell? (a.add (i * 5 + 4)) = some (.bool q.2.2.2.2) := by
      intro i hi
      obtain ⟨cs', h1, h2⟩ := hat i (by omega)
      rw [ce] at h1
      obtain ⟨_, hlen, hcell⟩ := World.cells?_some h1
      obtain ⟨xs, k, _, _, _, hxl, hf⟩ := DataW.trod_struct Try.underlying64 h2
      match xs, hxl, cs', hlen with
      | [y0, y1, y2, y3, y4], _, [v0, v1, v2, v3, v4], _ =>
        have g0 := hf 0 _ rfl
        have g1 := hf 1 _ rfl
        have g2 := hf 2 _ rfl
        have g3 := hf 3 _ rfl
        have g4 := hf 4 _ rfl
        simp [c3, c4] at g0 g1 g2 g3 g4
        have e0 := hcell 0 (by omega)
        have e1 := hcell 1 (by omega)
        have e2 := hcell 2 (by omega)
        have e3 := hcell 3 (by omega)
        have e4 := hcell 4 (by omega)
        rw [Go.Deep.add_add] at e0 e1 e2 e3 e4
        obtain ⟨z0, p0, _, _⟩ := DataW.trod_int Try.underlying3 g0
        obtain ⟨z1, p1, _, _⟩ := DataW.trod_int Try.underlying3 g1
        obtain ⟨z2, p2, _, _⟩ := DataW.trod_int Try.underlying3 g2
        obtain ⟨z3, p3, _⟩ := DataW.trod_bool Try.underlying4 g3
        obtain ⟨z4, p4, _⟩ := DataW.trod_bool Try.underlying4 g4
        simp only [List.cons.injEq, and_true] at p0 p1 p2 p3 p4
        subst p0 p1 p2 p3 p4
        exact ⟨(z0, z1, z2, z3, z4), by simpa using e0, by simpa using e1, by simpa using e2, by simpa using e3, by simpa using e4⟩
    obtain ⟨q, hq⟩ := Go.Deep.choose_lt each
    refine ⟨(List.range len).map q, by simp, hl, hm, ?_⟩
    by_cases h0 : len = 0
    · subst h0; exact .inl rfl
    obtain ⟨b, off, spot⟩ := a
    have hc := (hq 0 (by omega)).1
    have hspot : spot = none := by simpa [Addr.add] using World.cell?_spot hc
    subst hspot
    have hadd : ∀ i, ((⟨b, off, none⟩ : Addr).add i) = ⟨b, off + i, none⟩ := by intro i; unfold Addr.add; split <;> simp_all
    have hg : b < w.heap.size := World.block_lt_of_cell? w ⟨b, off + 0 * 5, none⟩ (by rw [hadd] at hc; exact hc)
    refine .inr ⟨b, off, rfl, hg, fun k hk => ?_⟩
    have hk' : k < len := by simpa using hk
    obtain ⟨d0, d1, d2, d3, d4⟩ := hq k hk'
    rw [hadd] at d0 d1 d2 d3 d4
    simp only [List.getElem_map, List.getElem_range]
    exact ⟨d0, d1, d2, d3, d4⟩
theorem fitsC_def (l : List Pr) (k o n : Int) (h s : Bool) : fitsC l (k, o, n, h, s) = ((getB l k == h) && (!(getB l k) || (getV l k == o))) := rfl
set_option maxRecDepth 100000 in
set_option maxHeartbeats 8000000 in
theorem fitsCh_any (B : Option Addr) (n cb : Nat) (l : List Pr) (hs : SortP l) (hl : l.length = n) (hn : n ≤ 1000) (hc : n ≤ cb ∧ cb ≤ maxLen) (ck co cn : Int) (ch cs : Bool) (w : World) (hB : PrAt w B l) :
    Calls Try.prog 56 #[.agg #[.int .i64 ck, .int .i64 co, .int .i64 cn, .bool ch, .bool cs], .slice B n cb] w fun e w' => e = .returned (.bool (fitsC l (ck, co, cn, ch, cs))) ∧ Below w.heap.size w w' := by
  have cG := fun w' hB => get_any l hs B n cb hl hn hc ck w' hB
  rw [fitsC_def]
  generalize getB l ck = gb at cG
  generalize getV l ck = gv at cG
  have B0 : Below w.heap.size w (w.alloc (.cells #[.int .i64 ck, .int .i64 co, .int .i64 cn, .bool ch, .bool cs] 64)) := (Below.refl _ w).alloc (Nat.le_refl _) _
  have o0 := ObjAt.new w #[.int .i64 ck, .int .i64 co, .int .i64 cn, .bool ch, .bool cs] 64
  have hB1 := hB.below B0 (Nat.le_refl _)
  clear hl hs hB
  go_enter Try.func56, Try.ntmps56
  go_wp2_with fail
  refine (cG _ hB1).mono ?_
  rintro e w1 ⟨rfl, hb1⟩
  have o1 := o0.below hb1
  have s1 := o1.e1
  have s3 := o1.e3
  have HBB := Go.Lib.hid (B0.trans (hb1.mono (by rw [World.size_alloc]; omega)))
  clear cG hB1 o0 o1 B0 hb1
  cases gb with
  | false =>
    cases ch with
    | false =>
      go_wp2
      go_ret
      exact ⟨ret_bool' (by simp), HBB.out⟩
    | true =>
      go_wp2
      go_ret
      exact ⟨ret_bool' (by simp), HBB.out⟩
  | true =>
    cases ch with
    | false =>
      go_wp2
      go_ret
      exact ⟨ret_bool' (by simp), HBB.out⟩
    | true =>
      cases he : (gv == co) with
      | true =>
        go_wp2
        go_ret
        exact ⟨ret_bool' (by simpa using he), HBB.out⟩
      | false =>
        go_wp2
        go_ret
        exact ⟨ret_bool' (by simpa using he), HBB.out⟩
/-- What Apply hands back. -/
def ApplyRet (o : Option (List Pr)) (w : World) (e : Ending) (w' : World) : Prop := match o with
  | some y => ∃ B n cb, e = .returned (.tuple #[.slice B n cb, .int .i64 0]) ∧ y.length = n ∧ n ≤ cb ∧ cb ≤ maxLen ∧ PrAt w' B y ∧ Below w.heap.size w w'
  | none => e = .returned (.tuple #[.slice none 0 0, .int .i64 23]) ∧ Below w.heap.size w w'
theorem applyP_append (l : List Pr) (a b : List Ch) : applyP l (a ++ b) = (applyP l a).bind (fun x => applyP x b) := by
  induction a generalizing l with
  | nil => simp [applyP]
  | cons c a ih =>
    rw [List.cons_append, applyP, applyP]
    split
    · exact ih _
    · rfl
theorem applyP_next {l x : List Pr} {cs : List Ch} {k : Nat} (hk : k < cs.length) (h : applyP l (cs.take k) = some x) (hf : fitsC x cs[k] = true) : applyP l (cs.take (k + 1)) = some (stepC x cs[k]) := by
  rw [List.take_succ_eq_append_getElem hk, applyP_snoc, h]
  simp [hf]
theorem applyP_stop {l x : List Pr} {cs : List Ch} {k : Nat} (hk : k < cs.length) (h : applyP l (cs.take k) = some x) (hf : fitsC x cs[k] = false) : applyP l cs = none := by
  have e : cs = cs.take k ++ cs[k] :: cs.drop (k + 1) := by rw [List.getElem_cons_drop, List.take_append_drop]
  rw [e, applyP_append, h]
  simp only [Option.bind_some]
  rw [applyP, if_neg (by rw [hf]; decide)]
theorem applyRet_none {l x : List Pr} {cs : List Ch} {k : Nat} (hk : k < cs.length) (h : applyP l (cs.take k) = some x) (hf : fitsC x cs[k] = false) {w w' : World} (hb : Below w.heap.size w w') : ApplyRet (applyP l cs) w (.returned (.tuple #[.slice none 0 0, .int .i64 23])) w' := by
  rw [applyP_stop hk h hf]; exact ⟨rfl, hb⟩
set_option maxRecDepth 100000 in
set_option maxHeartbeats 16000000 in
theorem apply_any (A B : Option Addr) (len m c d : Nat) (l : List Pr) (cs : List Ch) (hs : SortP l) (hl : l.length = len) (hcs : cs.length = m) (hc : len ≤ c ∧ c ≤ maxLen) (hd : m ≤ d ∧ d ≤ maxLen) (hn : len ≤ 400) (hm : m ≤ 400) (w : World) (hA : PrAt w A l) (hB : ChAt w B cs) :
    Calls Try.prog 43 #[.slice A len c, .slice B m d] w (ApplyRet (applyP l cs) w) := by
  have cC := clone_any A len c l hl hc (by omega) w hA
  have HM := Go.Lib.hid hcs
  have HB := Go.Lib.hid hB
  have HL := Go.Lib.hid hl
  have HS := Go.Lib.hid (srt_iff.1 hs)
  obtain ⟨hd1, hd2⟩ := hd
  unfold maxLen at hd2
  clear hA hB hl hcs hs hc
  go_enter Try.func43, Try.ntmps43
  go_wp2_with fail
  refine cC.mono ?_
  rintro e w1 ⟨C, cc, rfl, hown, hb1⟩
  have HO := Go.Lib.hid hown
  have HB1 := Go.Lib.hid hb1
  clear cC hown hb1
  go_wp2
  go_loopw [6, 13] (fun v i wr => ∃ (k n : Nat) (D : Option Addr) (cd : Nat) (x : List Pr), k ≤ m ∧ i = .int .i64 k ∧ v = .slice D n cd ∧ n ≤ len + k ∧ Hid (wr.ownsRow w.heap.size 57 2 (.slice D n cd) n (rowP x)) ∧ Hid (Below w.heap.size w wr) ∧ Hid (x.length = n) ∧ Hid (Srt x) ∧ Hid (applyP l (cs.take k) = some x)) (fun _ i _ => m - (RowKit.intOf i).toNat)
  case atStart => exact ⟨0, len, C, cc, l, Nat.zero_le _, rfl, rfl, by omega, HO, HB1, HL, HS, Go.Lib.hid rfl⟩
  case round =>
    obtain ⟨k, n, D, cd, x, hk, rfl, rfl, hnk, HX, HBW, HN, HSX, HAP⟩ := hrel
    by_cases hlt : k < m
    · have hkc : k < cs.length := by rw [HM.out]; exact hlt
      rcases HB.out with hB0 | ⟨g, o', rfl, hg, hcl⟩
      · rw [hB0] at hkc; exact absurd hkc (Nat.not_lt_zero _)
      obtain ⟨h0, h1, h2, h3, h4⟩ := hcl k hkc
      have c0 := (HBW.out.cell (p := ⟨g, o' + k * 5, none⟩) hg).trans h0
      have c1 := (HBW.out.cell (p := ⟨g, o' + k * 5 + 1, none⟩) hg).trans h1
      have c2 := (HBW.out.cell (p := ⟨g, o' + k * 5 + 2, none⟩) hg).trans h2
      have c3 := (HBW.out.cell (p := ⟨g, o' + k * 5 + 3, none⟩) hg).trans h3
      have c4 := (HBW.out.cell (p := ⟨g, o' + k * 5 + 4, none⟩) hg).trans h4
      have HNX := Go.Lib.hid (fun hf => applyP_next hkc HAP.out hf)
      have HST := Go.Lib.hid (show ∀ w', fitsC x cs[k] = false → Below w.heap.size w w' → ApplyRet (applyP l cs) w (.returned (.tuple #[.slice none 0 0, .int .i64 23])) w' from fun w' hf hb => applyRet_none hkc HAP.out hf hb)
      clear h0 h1 h2 h3 h4 hcl
      generalize cs[k] = y at c0 c1 c2 c3 c4 HNX HST
      obtain ⟨yk, yo, yn, yh, ys⟩ := y
      dsimp only at c0 c1 c2 c3 c4
      have hcaps := own_caps HX.out
      have cF := fun w' hD => fitsCh_any D n cd x (srt_iff.2 HSX.out) HN.out (by omega) hcaps yk yo yn yh ys w' hD
      have Ba : Below wr.heap.size wr (wr.alloc (.cells #[.int .i64 yk, .int .i64 yo, .int .i64 yn, .bool yh, .bool ys] 64)) := (Below.refl _ wr).alloc (Nat.le_refl _) _
      have oa := ObjAt.new wr #[.int .i64 yk, .int .i64 yo, .int .i64 yn, .bool yh, .bool ys] 64
      have hDa := (own_prat' HX.out HN.out).below Ba (Nat.le_refl _)
      have e0 := oa.e0
      have e1 := oa.e1
      have e2 := oa.e2
      have e3 := oa.e3
      have e4 := oa.e4
      go_wp2_with fail
      refine (cF _ hDa).mono ?_
      rintro e w2 ⟨rfl, hb2⟩
      have ob := oa.below hb2
      have hX2 := row_below (HX.out.alloc (.cells #[.int .i64 yk, .int .i64 yo, .int .i64 yn, .bool yh, .bool ys] 64)) hb2
      have B2 := HBW.out.trans ((Ba.trans (hb2.mono Ba.size)).mono HBW.out.size)
      clear e0 e1 e2 e3 e4 oa hDa Ba hb2 cF c0 c1 c2 c3 c4
      have e0 := ob.e0
      have e2 := ob.e2
      have e4 := ob.e4
      have HX2 := Go.Lib.hid hX2
      have HB2 := Go.Lib.hid B2
      clear ob hX2 B2
      cases hf : fitsC x (yk, yo, yn, yh, ys) with
      | false =>
        have HF := Go.Lib.hid hf
        clear hf
        go_wp2
        go_ret2
        exact HST.out _ HF.out HB2.out
      | true =>
        have HF := Go.Lib.hid hf
        clear hf HST
        cases ys with
        | true =>
          have cP := put_any w2 w.heap.size n D cd x yk yn (srt_iff.2 HSX.out) HN.out (by omega) HX2.out HB2.out.size
          have hlen := set_len x yk yn
          have hstep : stepC x (yk, yo, yn, yh, true) = setP x yk yn := rfl
          have HST := Go.Lib.hid hstep
          have hsrt := Go.Lib.hid (srt_set HSX.out yk yn)
          clear hstep
          generalize setP x yk yn = x2 at cP hlen HST hsrt
          have hn2 : x2.length ≤ n + 1 := by have := HN.out; omega
          obtain ⟨n2, hx2⟩ : ∃ n2, x2.length = n2 := ⟨_, rfl⟩
          rw [hx2] at cP hn2
          have HX3 := Go.Lib.hid hx2
          clear hx2 hlen
          go_wp2_with fail
          refine cP.mono ?_
          rintro e w3 ⟨D3, cd3, rfl, hown3, hb3⟩
          have HO3 := Go.Lib.hid hown3
          have HB3 := Go.Lib.hid (HB2.out.trans hb3)
          clear hown3 hb3 cP
          go_wp2
          go_roundw
          case rel => exact ⟨k + 1, n2, D3, cd3, x2, by omega, by go_num, rfl, by omega, HO3, HB3, HX3, hsrt, Go.Lib.hid (by rw [HNX.out HF.out, HST.out])⟩
          case measure => simp [RowKit.intOf]; omega
        | false =>
          have cP := drop_any w2 w.heap.size n D cd x yk (srt_iff.2 HSX.out) HN.out (by omega) HX2.out HB2.out.size
          have hlen := clear_len x yk
          have hstep : stepC x (yk, yo, yn, yh, false) = clearP x yk := rfl
          have HST := Go.Lib.hid hstep
          have hsrt := Go.Lib.hid (srt_clear HSX.out yk)
          clear hstep
          generalize clearP x yk = x2 at cP hlen HST hsrt
          have hn2 : x2.length ≤ n := by have := HN.out; omega
          obtain ⟨n2, hx2⟩ : ∃ n2, x2.length = n2 := ⟨_, rfl⟩
          rw [hx2] at cP hn2
          have HX3 := Go.Lib.hid hx2
          clear hx2 hlen
          go_wp2_with fail
          refine cP.mono ?_
          rintro e w3 ⟨D3, cd3, rfl, hown3, hb3⟩
          have HO3 := Go.Lib.hid hown3
          have HB3 := Go.Lib.hid (HB2.out.trans hb3)
          clear hown3 hb3 cP
          go_wp2
          go_roundw
          case rel => exact ⟨k + 1, n2, D3, cd3, x2, by omega, by go_num, rfl, by omega, HO3, HB3, HX3, hsrt, Go.Lib.hid (by rw [HNX.out HF.out, HST.out])⟩
          case measure => simp [RowKit.intOf]; omega
    · obtain rfl : k = m := by omega
      go_wp2
      go_ret2
      have e : applyP l cs = some x := by have := HAP.out; rw [← HM.out, List.take_length] at this; exact this
      rw [e]
      have hcp := own_caps HX.out
      exact ⟨D, n, cd, rfl, HN.out, hcp.1, hcp.2, own_prat' HX.out HN.out, HBW.out⟩
end Go.Proofs.Ytjdjfokfilnnoaa
