/- Layer 22: ByAuthor (36). -/
import Derived.Test.YtmpklkhjipclmaaWD
import Derived.Deep.RegionHeld3
namespace Go.Proofs.Ytmpklkhjipclmaa
open Go.RowKit Go.Lib
set_option linter.unusedVariables false

theorem info66 : (Try.prog.info? 66).map (fun i => (i.zero, i.size, i.bytes)) = some (some (.agg #[.string ByteArray.empty, .int .i64 0, .int .i64 0, .int .i64 0]), 4, 40) := by kernel_rfl
theorem grp_n (l : List Rv) (s : ByteArray) : (grp l s).n = ((l.filter (fun x => decide (x.author = s))).length : Nat) := by
  have : ∀ (L : List Rv) (g : Gp), 0 ≤ g.n → (L.foldl withG g).n = g.n + (L.length : Nat) := by
    intro L
    induction L with
    | nil => intro g _; simp
    | cons x L ih =>
      intro g hg
      have h1 : (withG g x).n = g.n + 1 := by
        unfold withG
        split
        · show (1 : Int) = _; omega
        · rfl
      rw [List.foldl_cons, ih _ (by omega), h1, List.length_cons]
      omega
  have h := this (l.filter (fun x => decide (x.author = s))) gp0 (by decide)
  unfold grp
  rw [h]
  simp
theorem grp_nb (l : List Rv) (s : ByteArray) : 0 ≤ (grp l s).n ∧ (grp l s).n ≤ (l.length : Nat) := by
  rw [grp_n]
  have := List.length_filter_le (fun x : Rv => decide (x.author = s)) l
  omega
def rowG1 (g : Gp) : List Value := [.string g.author, .int .i64 g.n, .int .i64 g.first, .int .i64 g.last]
def rowG (L : List Gp) : List Value := L.flatMap rowG1
theorem rowG_snoc (L : List Gp) (x : Gp) : rowG (L ++ [x]) = rowG L ++ rowG1 x := by simp [rowG]
theorem rowG_len (L : List Gp) : (rowG L).length = L.length * 4 := by
  induction L with
  | nil => rfl
  | cons x L ih =>
    show (rowG1 x ++ rowG L).length = _
    rw [List.length_append, ih, List.length_cons]
    show 4 + _ = _
    omega
theorem rowG_get (L : List Gp) : ∀ k (h : k < L.length) j, j < 4 → (rowG L)[k * 4 + j]? = (rowG1 L[k])[j]? := by
  induction L with
  | nil => intro k h; exact absurd h (Nat.not_lt_zero _)
  | cons x L ih =>
    intro k h j hj
    have e : rowG (x :: L) = rowG1 x ++ rowG L := rfl
    have e1 : (rowG1 x).length = 4 := rfl
    rw [e]
    cases k with
    | zero => rw [Nat.zero_mul, Nat.zero_add, List.getElem?_append_left (by rw [e1]; exact hj)]; rfl
    | succ k =>
      rw [List.getElem?_append_right (by rw [e1]; omega), e1, show (k + 1) * 4 + j - 4 = k * 4 + j by omega]
      exact ih k (by simpa using h) j hj
theorem rowG1_one (x : Gp) : ∀ u ∈ rowG1 x, u.oneCell' = true := by
  intro u hu
  unfold rowG1 at hu
  simp only [List.mem_cons, List.not_mem_nil, or_false] at hu
  rcases hu with rfl | rfl | rfl | rfl <;> rfl
def GpAt (w : World) (g o : Nat) (x : Gp) : Prop := w.cell? ⟨g, o, none⟩ = some (.string x.author) ∧ w.cell? ⟨g, o + 1, none⟩ = some (.int .i64 x.n) ∧ w.cell? ⟨g, o + 2, none⟩ = some (.int .i64 x.first) ∧ w.cell? ⟨g, o + 3, none⟩ = some (.int .i64 x.last)
/-- Groups in memory. -/
def GsAt (w : World) (A : Option Addr) (l : List Gp) : Prop := l = [] ∨ ∃ g, A = some ⟨g, 0, none⟩ ∧ g < w.heap.size ∧ ∀ k (h : k < l.length), GpAt w g (k * 4) l[k]
theorem GsAt.below {w w' : World} {A : Option Addr} {l : List Gp} (h : GsAt w A l) (hb : Below w.heap.size w w') : GsAt w' A l := by
  rcases h with h | ⟨g, h1, h2, h3⟩
  · exact .inl h
  · refine .inr ⟨g, h1, Nat.lt_of_lt_of_le h2 hb.size, fun k hk => ?_⟩
    obtain ⟨c0, c1, c2, c3⟩ := h3 k hk
    exact ⟨(hb.cell (p := ⟨g, k * 4, none⟩) h2).trans c0, (hb.cell (p := ⟨g, k * 4 + 1, none⟩) h2).trans c1, (hb.cell (p := ⟨g, k * 4 + 2, none⟩) h2).trans c2, (hb.cell (p := ⟨g, k * 4 + 3, none⟩) h2).trans c3⟩
theorem GsAt.pos {w : World} {A : Option Addr} {l : List Gp} (h : GsAt w A l) (hp : 0 < l.length) : ∃ g, A = some ⟨g, 0, none⟩ ∧ g < w.heap.size ∧ ∀ k (h : k < l.length), GpAt w g (k * 4) l[k] := by
  rcases h with h | h
  · rw [h] at hp; exact absurd hp (Nat.lt_irrefl _)
  · exact h
theorem row_gs {w : World} {base n : Nat} {v : Value} {l : List Gp} (h : w.ownsRow base 66 4 v n (rowG l)) (hn : l.length = n) : ∃ A cb, v = .slice A n cb ∧ GsAt w A l := by
  have h0 := h
  rcases h.2 with ⟨hv, hz⟩ | ⟨g, cap, cur, hv, hb, hg, hcap, hcm, _⟩
  · subst hz
    exact ⟨none, 0, hv, .inl (List.eq_nil_of_length_eq_zero hn)⟩
  · subst hv
    have hc : ∀ k (hk : k < l.length) j, j < 4 → w.cell? ⟨g, k * 4 + j, none⟩ = (rowG1 l[k])[j]? := fun k hk j hj => by
      rw [← rowG_get l k hk j hj]
      exact h0.cellAt (k * 4 + j) (by omega)
    exact ⟨some ⟨g, 0, none⟩, cap, rfl, .inr ⟨g, rfl, (Array.getElem?_eq_some_iff.1 hg).1, fun k hk => ⟨hc k hk 0 (by omega), hc k hk 1 (by omega), hc k hk 2 (by omega), hc k hk 3 (by omega)⟩⟩⟩
theorem make86n (w : World) : (Instr.makeMap 86 none).run Try.prog w = .ok (.map (some w.heap.size)) (w.alloc (.map #[] 0)) := by
  simp [Instr.makeMap, Result.andThen]
theorem gp_news (W : World) (x : Gp) : ∀ j u, (rowG1 x)[j]? = some u → (W.alloc (.cells #[.string x.author, .int .i64 x.n, .int .i64 x.first, .int .i64 x.last] 66)).cell? ((⟨W.heap.size, 0, none⟩ : Addr).add j) = some u := by
  intro j u hj
  rw [Addr.add_lit, Nat.zero_add, World.cell?_alloc_new]
  simpa [rowG1] using hj
/-- What ByAuthor hands back. -/
def ByR (l : List Rv) (w : World) (e : Ending) (w' : World) : Prop := ∃ (A : Option Addr) (cb : Nat) (ks : List ByteArray), e = .returned (.slice A ks.length cb) ∧ GsAt w' A (ks.map (grp l)) ∧
  ks.Pairwise (fun a b => a.data.toList < b.data.toList) ∧ (∀ a ∈ ks, a.size ≤ maxLen ∧ a ∈ l.map (·.author)) ∧ (∀ a : ByteArray, a.size ≤ maxLen → a ∈ l.map (·.author) → a ∈ ks) ∧ ks.length ≤ 1000 ∧ Below w.heap.size w w'
set_option maxRecDepth 100000 in
set_option maxHeartbeats 16000000 in
theorem byauthor_any (l : List Rv) (n : Nat) (hn : l.length = n) (h1000 : n ≤ 1000) (hok : RsOk l) (A : Option Addr) (c : Nat) (w : World) (hA : RsAt w A l) :
    Calls Try.prog 36 #[.slice A n c] w (ByR l w) := by
  obtain ⟨i0, hi, hz0, hz1, hz2⟩ := info_parts info66
  have HA := Lib.hid hA
  have HN := Lib.hid hn
  have HOK := Lib.hid hok
  have hmk := make86n w
  have B1 := Lib.hid ((Below.refl w.heap.size w).alloc (Nat.le_refl _) (.map #[] 0))
  have S0 := Lib.hid (GpM.new w)
  clear hA hn hok
  go_enter Try.func36, Try.ntmps36
  go_wp2_with fail
  clear hmk
  go_loopw [5, 12] (fun _ s12 wr => ∃ k : Nat, k ≤ n ∧ s12 = .int .i64 (k : Nat) ∧ Hid (GpM wr w.heap.size k (l.take k)) ∧ Hid (Below w.heap.size w wr)) (fun _ s12 _ => n - (intOf s12).toNat)
  case atStart => exact ⟨0, Nat.zero_le _, rfl, S0, B1⟩
  case round =>
    clear S0 B1
    obtain ⟨k, hk, rfl, HS, HB⟩ := hrel
    have sB := HB.out.size
    have hbl := HS.out.lt
    by_cases hlt : k < n
    case pos =>
      have hkl : k < l.length := by rw [HN.out]; exact hlt
      obtain ⟨g, o, rfl, hg, hcl⟩ := HA.out.pos (by omega)
      obtain ⟨c0, c1, c2⟩ := hcl k hkl
      have z0 := (HB.out.cell (p := ⟨g, o + k * 3, none⟩) hg).trans c0
      have z1 := (HB.out.cell (p := ⟨g, o + k * 3 + 1, none⟩) hg).trans c1
      have z2 := (HB.out.cell (p := ⟨g, o + k * 3 + 2, none⟩) hg).trans c2
      have f0 : (0 : Int) ≤ (k : Int) := by omega
      have f1 : (k : Int) < (n : Int) := by omega
      obtain ⟨_, _, i3⟩ := HOK.out _ (List.getElem_mem hkl)
      have HTK := Lib.hid (List.take_succ_eq_append_getElem hkl)
      clear hcl c0 c1 c2
      generalize l[k] = x at z0 z1 z2 HTK i3
      obtain ⟨xa, xs, xt⟩ := x
      dsimp only at z0 z1 z2 i3
      have hgb : 0 ≤ (grp (l.take k) xs).n ∧ (grp (l.take k) xs).n ≤ 1000 := by have := grp_nb (l.take k) xs; rw [List.length_take] at this; omega
      have U := ObjAt.new wr #[.int .i64 xa, .string xs, .int .i64 xt] 23
      have HS1 := HS.out.kept (World.grownBy_alloc wr (.cells #[.int .i64 xa, .string xs, .int .i64 xt] 23) none) (by simp)
      have b1 := HB.out.alloc sB (.cells #[.int .i64 xa, .string xs, .int .i64 xt] 23)
      have hbl1 : w.heap.size < (wr.alloc (.cells #[.int .i64 xa, .string xs, .int .i64 xt] 23)).heap.size := by rw [World.size_alloc]; omega
      have hvb : wr.heap.size ≠ w.heap.size := by omega
      generalize hW : wr.alloc (.cells #[.int .i64 xa, .string xs, .int .i64 xt] 23) = W at U HS1 b1 hbl1
      have D0 : Below W.heap.size W W.drew := bdrew1 (Below.refl _ _)
      have hlk := (HS1.below hbl1 D0).look i3
      have cW := with_any (grp (l.take k) xs) hgb ⟨xa, xs, xt⟩ W.drew
      generalize hgg : grp (l.take k) xs = gg at hlk cW
      have HGG := Lib.hid hgg
      have HWW := Lib.hid hW
      have I3 := Lib.hid i3
      have HU := Lib.hid U
      have HSS := Lib.hid HS1
      have SS := Lib.hid (fun V (hV : Below W.heap.size W V) => (⟨(HU.out.below hV).b0, (HU.out.below hV).b1, (HU.out.below hV).b2⟩ : V.cell? ⟨wr.heap.size, 0, none⟩ = some (.int .i64 xa) ∧ V.cell? ⟨wr.heap.size, 1, none⟩ = some (.string xs) ∧ V.cell? ⟨wr.heap.size, 2, none⟩ = some (.int .i64 xt)))
      have cW2 := Lib.hid cW
      have PUT := Lib.hid (fun V (hV : Below W.heap.size W V) => (HSS.out.below hbl1 hV).put (x := ⟨xa, xs, xt⟩) (by unfold maxLen; omega) I3.out)
      clear U HS1 hgg i3 hgb cW
      go_wp2_with fail
      go_region_held3 (fun V => V.cell? ⟨wr.heap.size, 0, none⟩ = some (.int .i64 xa) ∧ V.cell? ⟨wr.heap.size, 1, none⟩ = some (.string xs) ∧ V.cell? ⟨wr.heap.size, 2, none⟩ = some (.int .i64 xt)) (first
        | assumption
        | exact SS.out _ (by assumption)) (first
        | (go_at_call 53; (with_reducible refine (cW2.out).mono ?_); rintro e V1 ⟨rfl, hV0⟩; have hV1 := D0.trans (hV0.mono D0.size); obtain ⟨V8, hru, hS8, hg8⟩ := PUT.out V1 hV1; rw [HGG.out] at hru; have HO8 := (HU.out.below hV1).kept hg8 (by simpa using hvb); have hS88 : V8.cell? ⟨wr.heap.size, 0, none⟩ = some (.int .i64 xa) ∧ V8.cell? ⟨wr.heap.size, 1, none⟩ = some (.string xs) ∧ V8.cell? ⟨wr.heap.size, 2, none⟩ = some (.int .i64 xt) := ⟨HO8.b0, HO8.b1, HO8.b2⟩)
        | fail)
      all_goals
        have B8 := Lib.hid ((b1.trans (hV1.mono b1.size)).grown hg8 (Nat.le_trans b1.size hV1.size) (fun e h => by cases h; exact Nat.le_refl _))
        have HS8 := Lib.hid hS8
        go_wp2
        go_roundw
        case rel => exact ⟨k + 1, by omega, by go_num, Lib.hid (by rw [HTK.out]; exact HS8.out), B8⟩
        case measure => simp [intOf]; omega
    case neg =>
      obtain rfl : k = n := by omega
      have HSL := Lib.hid (by have := HS.out; rw [List.take_of_length_le (by rw [HN.out]; exact Nat.le_refl _)] at this; exact this : GpM wr w.heap.size k l)
      have cK := keys55_any (some w.heap.size) wr
      have cS := sorted54_any w.heap.size k l wr HSL.out h1000
      have HBW := Lib.hid ((HB.out.alloc sB (.cells #[.map (some w.heap.size)] 86)))
      have sBW := HBW.out.size
      have HSW := Lib.hid (HSL.out.kept (World.grownBy_alloc wr (.cells #[.map (some w.heap.size)] 86) none) (by simp))
      have hblW : w.heap.size < (wr.alloc (.cells #[.map (some w.heap.size)] 86)).heap.size := by rw [World.size_alloc]; omega
      clear HS HSL
      go_wp2_with (first
        | (go_at_call 55; (with_reducible refine cK.mono ?_); rintro e w' ⟨rfl, rfl⟩)
        | (go_at_call 54; (with_reducible refine cS.mono ?_); rintro e w7 ⟨AA, cbb, ks, rfl, hr, hpw, hk1, hk2, hkl, k7⟩)
        | fail)
      obtain ⟨p, hp⟩ : ∃ p, ks.length = p := ⟨_, rfl⟩
      rw [hp] at hr hkl ⊢
      have HP := Lib.hid hp
      have HR7 := Lib.hid hr
      have HPW := Lib.hid hpw
      have HK1 := Lib.hid hk1
      have HK2 := Lib.hid hk2
      have K7 := Lib.hid (HBW.out.trans (k7.mono sBW))
      have sK7 := K7.out.size
      have HS7 := Lib.hid (HSW.out.below hblW k7)
      have hbl7 := HS7.out.lt
      have hbr := Lib.hid (Below.refl w7.heap.size w7)
      have R0 := Lib.hid (World.ownsRow_nil w7 w7.heap.size 66 4)
      clear hp hr hpw hk1 hk2 k7 cK cS HSW
      go_loopw [6, 8, 30] (fun s6 _ s30 wq => ∃ j : Nat, j ≤ p ∧ s30 = .int .i64 (j : Nat) ∧ Hid (Below w7.heap.size w7 wq) ∧ ∃ B cb, s6 = .slice B j cb ∧ Hid (wq.ownsRow w7.heap.size 66 4 (.slice B j cb) j (rowG ((ks.take j).map (grp l))))) (fun _ _ s30 _ => p - (intOf s30).toNat)
      case atStart => exact ⟨0, Nat.zero_le _, rfl, hbr, none, 0, rfl, R0⟩
      case round =>
        clear hbr R0
        obtain ⟨j, hj, rfl, HBQ, B, cb, rfl, HRQ⟩ := hrel
        have sQ := HBQ.out.size
        by_cases hlt : j < p
        case neg =>
          obtain rfl : j = p := by omega
          go_wp2
          go_ret
          have hrq := HRQ.out
          rw [List.take_of_length_le (by rw [HP.out]; exact Nat.le_refl _)] at hrq
          obtain ⟨A9, c9, e9, hgs⟩ := row_gs hrq (by rw [List.length_map, HP.out])
          injection e9 with q1 q2 q3
          subst q1 q3
          exact ⟨B, cb, ks, by rw [HP.out]; rfl, hgs, HPW.out, HK1.out, HK2.out, by rw [HP.out]; exact hkl, K7.out.trans (HBQ.out.mono sK7)⟩
        case pos =>
          have hjk : j < ks.length := by rw [HP.out]; exact hlt
          obtain ⟨g, hgA, hgw⟩ : ∃ g, AA = some ⟨g, 0, none⟩ ∧ g < w7.heap.size := by
            rcases HR7.out.2 with ⟨_, h0⟩ | ⟨g, cap, cur, hv, _, hg, _⟩
            · omega
            · injection hv with h1 _ _; exact ⟨g, h1, (Array.getElem?_eq_some_iff.1 hg).1⟩
          subst hgA
          have z0 := (HBQ.out.cell (p := ⟨g, j, none⟩) hgw).trans ((HR7.out.cellAt j (by omega)).trans (by rw [List.getElem?_map, List.getElem?_eq_getElem hjk]; rfl : _ = some (Value.string ks[j])))
          obtain ⟨hsz, _⟩ := HK1.out _ (List.getElem_mem hjk)
          have hlk := (HS7.out.below hbl7 HBQ.out).look hsz
          have HTK := Lib.hid (show (ks.take (j + 1)).map (grp l) = (ks.take j).map (grp l) ++ [grp l ks[j]] by rw [List.take_succ_eq_append_getElem hjk, List.map_append]; rfl)
          have f0 : (0 : Int) ≤ (j : Int) := by omega
          have f1 : (j : Int) < (p : Int) := by omega
          generalize hgg : grp l ks[j] = gg at hlk HTK
          obtain ⟨ga, gn, gf, gl⟩ := gg
          generalize ks[j] = s at z0 hlk
          have NW := Lib.hid (gp_news wr ⟨ga, gn, gf, gl⟩)
          have B2 := Lib.hid (HBQ.out.alloc sQ (.cells #[.string ga, .int .i64 gn, .int .i64 gf, .int .i64 gl] 66))
          have s2 := B2.out.size
          have hrow := HRQ.out.kept (World.grownBy_alloc wr (.cells #[.string ga, .int .i64 gn, .int .i64 gf, .int .i64 gl] 66) none) (by cases (Value.slice B j cb).ownBlock <;> simp)
          have HROW := Lib.hid hrow
          have HBL := Lib.hid (fun i (e : some i = (Value.slice B j cb).ownBlock) => (hrow.lt i e.symm).1)
          clear hrow hgg hsz
          go_wp2_with (at_builtin; refine wpList_append_own _ rfl _ _ 63 rfl w7.heap.size 66 i0 (.agg #[.string ByteArray.empty, .int .i64 0, .int .i64 0, .int .i64 0]) 4 40 Try.underlying63 hi hz0 hz1 hz2 rfl (by decide) _ _ _ rfl HROW.out ⟨wr.heap.size, 0, none⟩ 1 1 (rowG1 ⟨ga, gn, gf, gl⟩) rfl rfl NW.out (rowG1_one _) (by unfold maxLen; omega) (by omega) s2 ?_; intro v1 w8 hown1 hgrow1 _; obtain ⟨g1, cap1, rfl⟩ := ownsRow_succ hown1)
          have HO8 := Lib.hid (show w8.ownsRow w7.heap.size 66 4 (.slice (some ⟨g1, 0, none⟩) (j + 1) cap1) (j + 1) (rowG ((ks.take (j + 1)).map (grp l))) by rw [HTK.out, rowG_snoc]; exact hown1)
          have B8 := Lib.hid (B2.out.grown hgrow1 s2 (fun i e => HBL.out i e.symm))
          exact ⟨⟨j + 1, by omega, by go_num, B8, some ⟨g1, 0, none⟩, cap1, rfl, HO8⟩, by simp [intOf]; omega⟩
end Go.Proofs.Ytmpklkhjipclmaa
