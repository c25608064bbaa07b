/- Layer 8: the reference's Remove (39). -/
import Derived.Test.YtbkpokipibgdfaaUD
namespace Go.Proofs.Ytbkpokipibgdfaa
open Go.RowKit Go.Lib
set_option linter.unusedVariables false

theorem PrAt.grown {w w' : World} {A : Option Addr} {l : List Pr} {row : Option Nat} (h : PrAt w A l) (hg : w.grownBy w' row) (hne' : l = [] ∨ ∀ a, A = some a → some a.block ≠ row) : PrAt w' A l := by
  rcases hne' with h0 | hne
  · exact .inl h0
  rcases h with h | ⟨b, o, e, hb, hc⟩
  · exact .inl h
  · have hbg : some b ≠ row := hne _ e
    have e2 : ∀ p, w'.cell? ⟨b, p, none⟩ = w.cell? ⟨b, p, none⟩ := fun p => by unfold World.cell?; simp only [hg.block b hb hbg]
    exact .inr ⟨b, o, e, Nat.lt_of_lt_of_le hb hg.size, fun k hk => ⟨(e2 _).trans (hc k hk).1, (e2 _).trans (hc k hk).2⟩⟩
/-- What is sure of a style's properties: they are there, in elder memory or in a row of properties. -/
def FS (base : Nat) (w : World) (x : Sa) : Prop := x.1.props.length ≤ x.2.2 ∧ x.2.2 ≤ maxLen ∧ PrAt w x.2.1 x.1.props ∧ (x.1.props = [] ∨ ∀ a, x.2.1 = some a → a.block < w.heap.size ∧ (a.block < base ∨ ∃ cs, w.heap[a.block]? = some (.cells cs 55 (0, 0))))
theorem FS.below {base : Nat} {w w' : World} {x : Sa} (h : FS base w x) (hb : Below w.heap.size w w') : FS base w' x := by
  refine ⟨h.1, h.2.1, h.2.2.1.below hb (Nat.le_refl _), ?_⟩
  rcases h.2.2.2 with h0 | h0
  · exact .inl h0
  · refine .inr fun a ha => ?_
    obtain ⟨h1, h2⟩ := h0 a ha
    refine ⟨Nat.lt_of_lt_of_le h1 hb.size, ?_⟩
    rcases h2 with h2 | ⟨cs, h2⟩
    · exact .inl h2
    · exact .inr ⟨cs, (hb.block _ h1).trans h2⟩
theorem FS.setO {base : Nat} {w : World} {x : Sa} {b : Nat} (h : FS base w x) (hne : ∀ a, x.2.1 = some a → x.1.props = [] ∨ a.block ≠ b) {y : Sa} (i : Nat) (u : Value) (hy1 : y.1.props = x.1.props := by rfl) (hy2 : y.2 = x.2 := by rfl) : FS base (w.setCell ⟨b, i, none⟩ u) y := by
  unfold FS
  rw [hy1, hy2]
  by_cases h0 : x.1.props = []
  · exact ⟨h.1, h.2.1, .inl h0, .inl h0⟩
  have hn : ∀ a, x.2.1 = some a → a.block ≠ b := fun a ha => (hne a ha).resolve_left h0
  refine ⟨h.1, h.2.1, h.2.2.1.setO (.inr hn) u, .inr fun a ha => ?_⟩
  obtain ⟨h1, h2⟩ := (h.2.2.2.resolve_left h0) a ha
  refine ⟨by simpa [World.setCell] using h1, ?_⟩
  rcases h2 with h2 | ⟨cs, h2⟩
  · exact .inl h2
  · exact .inr ⟨cs, (Below.heap_setCell w ⟨b, i, none⟩ u _ (hn a ha)).trans h2⟩
theorem fs_append {w W w1 : World} {p cb g1 cap1 : Nat} {B : Option Addr} {xs ys : List Value} {o : Obj} {q : Nat} {M : List Sa} (hr : W.ownsRow w.heap.size 28 6 (.slice B p cb) p xs) (hown : w1.ownsRow w.heap.size 28 6 (.slice (some ⟨g1, 0, none⟩) q cap1) q ys) (hg : (W.alloc o).grownBy w1 (Value.slice B p cb).ownBlock) (h : ∀ x ∈ M, FS w.heap.size W x) : ∀ x ∈ M, FS w.heap.size w1 x := by
  intro x hx
  have h1 := (h x hx).below ((Below.refl W.heap.size W).alloc (Nat.le_refl _) o)
  by_cases h0 : x.1.props = []
  · exact ⟨h1.1, h1.2.1, .inl h0, .inl h0⟩
  have hA := h1.2.2.2.resolve_left h0
  have hne : ∀ a, x.2.1 = some a → some a.block ≠ (Value.slice B p cb).ownBlock := by
    intro a ha e
    obtain ⟨hlt, h2⟩ := hA a ha
    rcases hr.alloc o |>.2 with ⟨hv, _⟩ | ⟨g, cap, cur, hv, hb, hgo, _⟩
    · rw [hv] at e; cases e
    · rw [hv] at e
      have e' : a.block = g := by simpa [Value.ownBlock] using e
      rcases h2 with h2 | ⟨cs, h2⟩
      · omega
      · rw [e', hgo] at h2; cases h2
  refine ⟨h1.1, h1.2.1, h1.2.2.1.grown hg (.inr hne), .inr fun a ha => ?_⟩
  obtain ⟨hlt, h2⟩ := hA a ha
  refine ⟨Nat.lt_of_lt_of_le hlt hg.size, ?_⟩
  rcases h2 with h2 | ⟨cs, h2⟩
  · exact .inl h2
  · exact .inr ⟨cs, (hg.block _ hlt (hne a ha)).trans h2⟩
theorem fs_row {w : World} {base bs m cb : Nat} {B : Option Addr} {x : St} (hr : w.ownsRow bs 55 2 (.slice B m cb) m (rowP x.props)) (hl : x.props.length = m) : FS base w (x, B, cb) := by
  obtain ⟨h1, h2, h3⟩ := row_prat hr hl
  refine ⟨by show x.props.length ≤ cb; omega, h2, h3, .inr fun a ha => ?_⟩
  have ha' : B = some a := ha
  subst ha'
  rcases hr.2 with ⟨hv, _⟩ | ⟨g', cap', cur, hv, hb, hgo, _⟩
  · cases hv
  · injection hv with e1 _ _
    injection e1 with e1
    subst e1
    exact ⟨(Array.getElem?_eq_some_iff.1 hgo).1, .inr ⟨cur, hgo⟩⟩
theorem fs_ls {w W : World} {p cb : Nat} {B : Option Addr} {M : List Sa} (hr : W.ownsRow w.heap.size 28 6 (.slice B p cb) p (rowA M)) (hM : M.length = p) (h : ∀ x ∈ M, FS w.heap.size W x) : LsAt W B (M.map (·.1)) := by
  by_cases h0 : p = 0
  · left
    rw [List.eq_nil_of_length_eq_zero (hM.trans h0)]
    rfl
  obtain ⟨g, cap, e, hg, _⟩ := own_cells hr (by omega)
  injection e with e1 _ e3
  subst e1 e3
  refine rows_ls hr hM fun x hx => ⟨(h x hx).1, (h x hx).2.1, (h x hx).2.2.1, ?_⟩
  rcases (h x hx).2.2.2 with h1 | h1
  · exact .inl h1
  · refine .inr fun a ha => ?_
    obtain ⟨hlt, h2⟩ := h1 a ha
    rcases hr.2 with ⟨hv, _⟩ | ⟨g', cap', cur, hv, hb, hgo, _⟩
    · cases hv
    · injection hv with e1 _ _
      injection e1 with e1
      injection e1 with e1
      subst e1
      rcases h2 with h2 | ⟨cs, h2⟩
      · omega
      · intro e; rw [e, hgo] at h2; cases h2
/-- The styles that are left, gone through as far as l. -/
def RemJ (i : Int) (rr : St) (l : List St) (M : List Sa) : Prop := M.map (·.1) = (l.filter fun x => x.id != i).map (remF i rr)
theorem RemJ.snoc {i : Int} {rr x : St} {l : List St} {M : List Sa} (h : RemJ i rr l M) (hx : (x.id != i) = true) (y : Sa) (hy : y.1 = remF i rr x) : RemJ i rr (l ++ [x]) (M ++ [y]) := by
  unfold RemJ at h ⊢
  rw [List.map_append, h, List.filter_append, List.map_append, List.filter_cons_of_pos (p := fun x : St => x.id != i) hx]
  simp [hy]
theorem RemJ.skip {i : Int} {rr x : St} {l : List St} {M : List Sa} (h : RemJ i rr l M) (hx : (x.id != i) = false) : RemJ i rr (l ++ [x]) M := by
  unfold RemJ at h ⊢
  rw [h, List.filter_append, List.filter_cons_of_neg (p := fun x : St => x.id != i) (by simp [hx])]
  simp
theorem rem_filter {l : List St} {i : Int} {k : Nat} (hu : Uni l) (hp : plc l i = some k) : l.filter (fun x => x.id != i) = l.take k ++ l.drop (k + 1) := by
  obtain ⟨hk, hid⟩ := plc_lt hp
  have hne : ∀ q (h : q < l.length), q ≠ k → (l[q].id != i) = true := by
    intro q hq hqk
    rw [bne_iff_ne]
    intro e
    have := hu q hq
    rw [e, hp] at this
    cases this
    exact hqk rfl
  have e : l = l.take k ++ l[k] :: l.drop (k + 1) := by rw [← List.drop_eq_getElem_cons hk, List.take_append_drop]
  have h1 : (l.take k).filter (fun x => x.id != i) = l.take k := by
    rw [List.filter_eq_self]
    intro x hx
    obtain ⟨q, hq, rfl⟩ := List.mem_iff_getElem.1 hx
    rw [List.length_take] at hq
    rw [List.getElem_take]
    exact hne q (by omega) (by omega)
  have h2 : (l.drop (k + 1)).filter (fun x => x.id != i) = l.drop (k + 1) := by
    rw [List.filter_eq_self]
    intro x hx
    obtain ⟨q, hq, rfl⟩ := List.mem_iff_getElem.1 hx
    rw [List.length_drop] at hq
    rw [List.getElem_drop]
    exact hne (k + 1 + q) (by omega) (by omega)
  calc l.filter (fun x => x.id != i) = (l.take k ++ l[k] :: l.drop (k + 1)).filter (fun x => x.id != i) := by rw [← e]
    _ = _ := by rw [List.filter_append, h1, List.filter_cons_of_neg (p := fun x : St => x.id != i) (by rw [hid]; simp), h2]
/-- What the reference's Remove hands back. -/
def RrmR (l : List St) (i : Int) (k : Nat) (w : World) (e : Ending) (w' : World) : Prop := (∃ B m cb, (remL l i k).length = m ∧ e = .returned (.slice B m cb) ∧ LsAt w' B (remL l i k)) ∧ Below w.heap.size w w'
set_option maxRecDepth 100000 in
set_option maxHeartbeats 16000000 in
theorem rremove_any (l : List St) (hG : Good l) (A : Option Addr) (n d : Nat) (hn : l.length = n) (i : Int) (k : Nat) (hp0 : plc l i = some k) (w : World) (hA : LsAt w A l) :
    Calls Try.prog 39 #[.slice A n d, .int .i64 i] w (RrmR l i k w) := by
  obtain ⟨i0, hi9, hz0, hz1, hz2⟩ := info_parts info28
  obtain ⟨hk, hkid⟩ := plc_lt hp0
  clear hkid
  have hkn : k < n := by omega
  have hn128 : n ≤ 128 := by rw [← hn]; exact hG.len
  have HREM := Go.Lib.hid (show remL l i k = (l.filter fun x => x.id != i).map (remF i (l.getD k default)) by unfold remL; rw [rem_filter hG.uni hp0])
  have cF := rfind_any l n hn (by omega) A d i w hA
  rw [fnd_some hp0] at cF
  have HN := Go.Lib.hid hn
  have HIT := Go.Lib.hid (show ∀ q (h : q < l.length), InT l[q].props from fun q hq => by
    have := hG.inT q
    unfold prsL at this
    rw [List.getD_eq_getElem?_getD, List.getElem?_eq_getElem hq] at this
    exact this)
  obtain ⟨ga, oa, rfl, hga, hcl⟩ := hA.pos (by omega)
  have HCL := Go.Lib.hid hcl
  obtain ⟨Br, cr, v0, v1, v2, v3, v4, v5, vc1, vc2, vp⟩ := hcl k hk
  have HRR := Go.Lib.hid (show l.getD k default = l[k] by rw [List.getD_eq_getElem?_getD, List.getElem?_eq_getElem hk]; rfl)
  have VV := Go.Lib.hid (⟨v0, v1, v2, v3, v4, v5, vp⟩ : _ ∧ _ ∧ _ ∧ _ ∧ _ ∧ _ ∧ PrAt w Br l[k].props)
  have HVC := Go.Lib.hid (And.intro vc1 vc2)
  have HRI2 := Go.Lib.hid (HIT.out k hk)
  clear hA hcl v0 v1 v2 v3 v4 v5 vc1 vc2 vp hn hp0 hG
  generalize hrr : l[k] = rr at VV HVC HRR HRI2
  clear hrr hk
  have hrrv : Hid (∃ rr2, rr2 = rr) := Go.Lib.hid ⟨rr, rfl⟩
  have f0 : (0 : Int) ≤ (k : Int) := by omega
  have f1 : (k : Int) < (n : Int) := by omega
  go_enter Try.func39, Try.ntmps39
  go_wp2_with fail
  (with_reducible refine cF.mono ?_)
  rintro e w1 ⟨rfl, k1⟩
  have K1 := Go.Lib.hid k1
  have s1 := k1.size
  obtain ⟨x0, x1, x2, x3, x4, x5, xp⟩ := VV.out
  have y0 := (k1.cell (p := ⟨ga, oa + k * 6, none⟩) hga).trans x0
  have y1 := (k1.cell (p := ⟨ga, oa + k * 6 + 1, none⟩) hga).trans x1
  have y2 := (k1.cell (p := ⟨ga, oa + k * 6 + 2, none⟩) hga).trans x2
  have y3 := (k1.cell (p := ⟨ga, oa + k * 6 + 3, none⟩) hga).trans x3
  have y4 := (k1.cell (p := ⟨ga, oa + k * 6 + 4, none⟩) hga).trans x4
  have y5 := (k1.cell (p := ⟨ga, oa + k * 6 + 5, none⟩) hga).trans x5
  have HPR := Go.Lib.hid (fun w' (hb : Below w.heap.size w w') => xp.below hb (Nat.le_refl _))
  have K2 := Go.Lib.hid (k1.alloc s1 (.cells #[.int .i64 rr.id, .int .i64 rr.kind, .string rr.name, .int .i64 rr.base, .int .i64 rr.next, .slice Br rr.props.length cr] 28))
  have O2 := Go.Lib.hid (ObjAt.new w1 #[.int .i64 rr.id, .int .i64 rr.kind, .string rr.name, .int .i64 rr.base, .int .i64 rr.next, .slice Br rr.props.length cr] 28)
  clear cF k1 x0 x1 x2 x3 x4 x5 xp
  go_wp2_with fail
  clear y0 y1 y2 y3 y4 y5
  generalize w1.alloc (.cells #[.int .i64 rr.id, .int .i64 rr.kind, .string rr.name, .int .i64 rr.base, .int .i64 rr.next, .slice Br rr.props.length cr] 28) = W2 at K2 O2 ⊢
  have s2 := K2.out.size
  obtain ⟨r1, r2, r3, r4, r5, rps⟩ := rr
  dsimp only at O2 HVC HRI2 HPR
  have hr45 := HRI2.out.len
  go_loopw [6, 7, 8] (fun s6 s7 _ wr => ∃ (j p : Nat) (B : Option Addr) (cb : Nat) (M : List Sa), j ≤ n ∧ s7 = .int .i64 (j : Nat) ∧ s6 = .slice B p cb ∧ p ≤ j ∧ Hid (wr.ownsRow W2.heap.size 28 6 (.slice B p cb) p (rowA M)) ∧ Hid (∀ x ∈ M, FS W2.heap.size wr x) ∧ Hid (RemJ i ⟨r1, r2, r3, r4, r5, rps⟩ (l.take j) M) ∧ Hid (Below W2.heap.size W2 wr) ∧ Hid (M.length = p)) (fun _ s7 _ _ => n - (RowKit.intOf s7).toNat)
  case atStart => exact ⟨0, 0, none, 0, [], Nat.zero_le _, rfl, rfl, Nat.le_refl _, Go.Lib.hid (World.ownsRow_nil _ _ _ _), Go.Lib.hid (fun x hx => by cases hx), Go.Lib.hid rfl, Go.Lib.hid (Below.refl _ _), Go.Lib.hid rfl⟩
  case round =>
    obtain ⟨j, p, B, cb, M, hj, rfl, rfl, hpj, HR, HFS, HRJ, HB2, HLM⟩ := hrel
    have HB := Go.Lib.hid (K2.out.trans (HB2.out.mono s2))
    have hsB := HB.out.size
    have hs2r := HB2.out.size
    by_cases hlt : j < n
    · have hjl : j < l.length := by rw [HN.out]; exact hlt
      obtain ⟨Bx, cx, u0, u1, u2, u3, u4, u5, uc1, uc2, up⟩ := HCL.out j hjl
      replace u0 := (HB.out.cell (p := ⟨ga, oa + j * 6, none⟩) hga).trans u0
      replace u1 := (HB.out.cell (p := ⟨ga, oa + j * 6 + 1, none⟩) hga).trans u1
      replace u2 := (HB.out.cell (p := ⟨ga, oa + j * 6 + 2, none⟩) hga).trans u2
      replace u3 := (HB.out.cell (p := ⟨ga, oa + j * 6 + 3, none⟩) hga).trans u3
      replace u4 := (HB.out.cell (p := ⟨ga, oa + j * 6 + 4, none⟩) hga).trans u4
      replace u5 := (HB.out.cell (p := ⟨ga, oa + j * 6 + 5, none⟩) hga).trans u5
      have p0 : (0 : Int) ≤ (j : Int) := by omega
      have p1 : (j : Int) < (n : Int) := by omega
      have htk : l.take (j + 1) = l.take j ++ [l[j]] := List.take_succ_eq_append_getElem hjl
      have HTK := Go.Lib.hid htk
      have HIX := Go.Lib.hid (HIT.out j hjl)
      have hFX : FS W2.heap.size wr (l[j], Bx, cx) := ⟨uc1, uc2, up.below HB.out (Nat.le_refl _), by
        rcases up with h | ⟨b, o, e, hb, _⟩
        · exact .inl h
        · refine .inr fun a ha => ?_
          have ha' : Bx = some a := ha
          rw [e] at ha'
          cases ha'
          have hb' : b < w.heap.size := hb
          exact ⟨Nat.lt_of_lt_of_le hb' hsB, .inl (Nat.lt_of_lt_of_le hb' s2)⟩⟩
      have HFX0 := Go.Lib.hid hFX
      have HUC := Go.Lib.hid (And.intro uc1 uc2)
      clear htk uc1 uc2 up hFX
      generalize l[j] = x at u0 u1 u2 u3 u4 u5 HTK HIX HFX0 HUC
      obtain ⟨a1, a2, a3, a4, a5, ps⟩ := x
      dsimp only at u0 u1 u2 u3 u4 u5 HIX HUC
      have hp45 := HIX.out.len
      have HBa := Go.Lib.hid (HB2.out.alloc hs2r (.cells #[.int .i64 a1, .int .i64 a2, .string a3, .int .i64 a4, .int .i64 a5, .slice Bx ps.length cx] 28))
      have HB0 := Go.Lib.hid ((Below.refl wr.heap.size wr).alloc (Nat.le_refl _) (.cells #[.int .i64 a1, .int .i64 a2, .string a3, .int .i64 a4, .int .i64 a5, .slice Bx ps.length cx] 28))
      have HOa := Go.Lib.hid (ObjAt.new wr #[.int .i64 a1, .int .i64 a2, .string a3, .int .i64 a4, .int .i64 a5, .slice Bx ps.length cx] 28)
      clear hjl
      by_cases hid : a1 = i
      · have n1 : (a1 == i) = true := by simpa using hid
        have HSK := Go.Lib.hid (show RemJ i ⟨r1, r2, r3, r4, r5, rps⟩ (l.take (j + 1)) M by rw [HTK.out]; exact HRJ.out.skip (by show (a1 != i) = false; rw [bne, n1]; rfl))
        clear hid
        go_wp2_with fail
        go_roundw
        case rel => exact ⟨j + 1, p, B, cb, M, by omega, by go_num, rfl, by omega, Go.Lib.hid (HR.out.alloc _), Go.Lib.hid (fun x hx => (HFS.out x hx).below HB0.out), HSK, HBa, HLM⟩
        case measure => simp [RowKit.intOf]; omega
      · have n1 : (a1 == i) = false := by simpa using hid
        have HT := Go.Lib.hid (fun (y : Sa) (hy : y.1 = remF i ⟨r1, r2, r3, r4, r5, rps⟩ ⟨a1, a2, a3, a4, a5, ps⟩) => show RemJ i ⟨r1, r2, r3, r4, r5, rps⟩ (l.take (j + 1)) (M ++ [y]) by rw [HTK.out]; exact HRJ.out.snoc (by show (a1 != i) = true; rw [bne, n1]; rfl) y hy)
        have hbb : W2.heap.size ≤ wr.heap.size := hs2r
        clear hid
        by_cases hb4 : a4 = i
        · have n4 : (a4 == i) = true := by simpa using hb4
          have HB4 := Go.Lib.hid hb4
          have HOl := Go.Lib.hid (HOa.out)
          clear hb4
          go_wp2_with fail
          generalize wr.alloc (.cells #[.int .i64 a1, .int .i64 a2, .string a3, .int .i64 a4, .int .i64 a5, .slice Bx ps.length cx] 28) = W3 at HBa HB0 HOa ⊢
          have b3 := HOa.out.s3
          have b5 := HOa.out.s5
          have O3g := Go.Lib.hid (O2.out.below HBa.out)
          have g3 := O3g.out.s3
          have g5 := O3g.out.s5
          have HOd := Go.Lib.hid (HOa.out.below (bdrew1 (Below.refl W3.heap.size W3)))
          have HBd := Go.Lib.hid (bdrew1 HBa.out)
          have O3d := Go.Lib.hid (O3g.out.below (bdrew1 (Below.refl W3.heap.size W3)))
          have HB0d := Go.Lib.hid (bdrew1 HB0.out)
          have hW3s : W2.heap.size ≤ W3.drew.heap.size := HBd.out.size
          have hW3w : wr.heap.size ≤ W3.drew.heap.size := HB0d.out.size
          have hbx : wr.heap.size < W3.drew.heap.size := HOd.out.lt
          have cM := rmergeL_any rps ps HRI2.out HIX.out rps.length ps.length rfl rfl Br Bx cr cx HVC.out HUC.out W3.drew (HPR.out _ (K2.out.trans (HBd.out.mono s2))) (HFX0.out.2.2.1.below HB0d.out (Nat.le_refl _))
          have cM2 : Calls Try.prog 36 #[.slice Br rps.length cr, .slice Bx ps.length cx] W3.drew fun e w8 => ∃ B8 m8 c8, (mergeL rps ps).length = m8 ∧ e = .returned (.slice B8 m8 c8) ∧ w8.ownsRow W3.drew.heap.size 55 2 (.slice B8 m8 c8) m8 (rowP (mergeL rps ps)) ∧ Below W3.drew.heap.size W3.drew w8 ∧ w8.cell? ⟨wr.heap.size, 3, none⟩ = some (.int .i64 a4) ∧ w8.frozen? ⟨wr.heap.size, 3, none⟩ = false ∧ w8.cell? ⟨wr.heap.size, 5, none⟩ = some (.slice Bx ps.length cx) ∧ w8.frozen? ⟨wr.heap.size, 5, none⟩ = false ∧ w8.cell? ⟨w1.heap.size, 3, none⟩ = some (.int .i64 r4) ∧ w8.cell? ⟨w1.heap.size, 5, none⟩ = some (.slice Br rps.length cr) := by
            refine cM.mono ?_
            rintro e w8 ⟨⟨B8, m8, c8, hl8, rfl, hr8⟩, hb8⟩
            have HO8 := HOd.out.below hb8
            exact ⟨B8, m8, c8, hl8, rfl, hr8, hb8, HO8.s3, HO8.frozen 3, HO8.s5, HO8.frozen 5, (O3d.out.below hb8).s3, (O3d.out.below hb8).s5⟩
          clear cM HOl
          go_region_with (first | (go_at_call 36; (with_reducible refine cM2.mono ?_); rintro e w8 ⟨B8, m8, c8, hl8, rfl, hr8, hb8, t3, t3f, t5, t5f, t6, t7⟩) | fail)
          all_goals
            subst hl8
            have HO8 := HOd.out.below hb8
            have hq8 := row_prat hr8 rfl
            have HF8 : FS W2.heap.size w8 ((⟨a1, a2, a3, r4, a5, mergeL rps ps⟩ : St), B8, c8) := fs_row hr8 rfl
            have hne8 : ∀ a, B8 = some a → mergeL rps ps = [] ∨ a.block ≠ wr.heap.size := fun a ha => .inr (row_ne hr8 hbx a ha)
            have HF8a := HF8.setO hne8 (y := ((⟨a1, a2, a3, r4, a5, mergeL rps ps⟩ : St), B8, c8)) 3 (.int .i64 r4)
            have HF8b := HF8a.setO hne8 (y := ((⟨a1, a2, a3, r4, a5, mergeL rps ps⟩ : St), B8, c8)) 5 (.slice B8 (mergeL rps ps).length c8)
            have HOx := Go.Lib.hid (show ObjAt ((w8.setCell ⟨wr.heap.size, 3, none⟩ (.int .i64 r4)).setCell ⟨wr.heap.size, 5, none⟩ (.slice B8 (mergeL rps ps).length c8)) wr.heap.size #[.int .i64 a1, .int .i64 a2, .string a3, .int .i64 r4, .int .i64 a5, .slice B8 (mergeL rps ps).length c8] 28 from (HO8.set 3 (.int .i64 r4)).set 5 (.slice B8 (mergeL rps ps).length c8))
            have HKx := Go.Lib.hid (((HBd.out.trans (hb8.mono hW3s)).setCell (p := ⟨wr.heap.size, 3, none⟩) hbb (.int .i64 r4)).setCell (p := ⟨wr.heap.size, 5, none⟩) hbb (.slice B8 (mergeL rps ps).length c8))
            have HBx := Go.Lib.hid (((HB0d.out.trans (hb8.mono hW3w)).setCell (p := ⟨wr.heap.size, 3, none⟩) (Nat.le_refl _) (.int .i64 r4)).setCell (p := ⟨wr.heap.size, 5, none⟩) (Nat.le_refl _) (.slice B8 (mergeL rps ps).length c8))
            have HFXx := Go.Lib.hid HF8b
            have HFN := Go.Lib.hid hne8
            clear HO8 hq8 HF8 hne8 HF8a HF8b hr8 hb8 t3 t3f t5 t5f t6 t7 cM2 b3 b5 g3 g5
            generalize (w8.setCell ⟨wr.heap.size, 3, none⟩ (.int .i64 r4)).setCell ⟨wr.heap.size, 5, none⟩ (.slice B8 (mergeL rps ps).length c8) = W5 at HOx HKx HBx HFXx ⊢
            have z4 := HOx.out.s4
            have t4 := HOx.out.frozen 4
            by_cases hn5 : a5 = i
            · have n5 : (a5 == i) = true := by simpa using hn5
              have HF := Go.Lib.hid (show (⟨a1, a2, a3, r4, 0, mergeL rps ps⟩ : St) = remF i ⟨r1, r2, r3, r4, r5, rps⟩ ⟨a1, a2, a3, a4, a5, ps⟩ by unfold remF; simp [HB4.out, hn5])
              have HOy := Go.Lib.hid (show ObjAt (W5.setCell ⟨wr.heap.size, 4, none⟩ (.int .i64 0)) wr.heap.size #[.int .i64 a1, .int .i64 a2, .string a3, .int .i64 (r4), .int .i64 0, .slice B8 (mergeL rps ps).length c8] 28 from HOx.out.set 4 (.int .i64 0))
              have HKy := Go.Lib.hid (HKx.out.setCell (p := ⟨wr.heap.size, 4, none⟩) hbb (.int .i64 0))
              have HBy := Go.Lib.hid (HBx.out.setCell (p := ⟨wr.heap.size, 4, none⟩) (Nat.le_refl _) (.int .i64 0))
              have HFX := Go.Lib.hid (show FS W2.heap.size (W5.setCell ⟨wr.heap.size, 4, none⟩ (.int .i64 0)) ((⟨a1, a2, a3, r4, 0, mergeL rps ps⟩ : St), B8, c8) from (HFXx.out.setO (fun a ha => HFN.out a ha) 4 (.int .i64 0)))
              clear hn5
              go_upto_region 12 with fail
              generalize W5.setCell ⟨wr.heap.size, 4, none⟩ (.int .i64 0) = W7 at HOy HKy HBy HFX ⊢
              have o0 := HOy.out.s0
              have o1 := HOy.out.s1
              have o2 := HOy.out.s2
              have o3 := HOy.out.s3
              have o4 := HOy.out.s4
              have o5 := HOy.out.s5
              have hWs := HKy.out.size
              have hrW := Go.Lib.hid (row_below HR.out HBy.out)
              have HS := Go.Lib.hid (show RemJ i ⟨r1, r2, r3, r4, r5, rps⟩ (l.take (j + 1)) (M ++ [((⟨a1, a2, a3, r4, 0, mergeL rps ps⟩ : St), B8, c8)]) from HT.out ((⟨a1, a2, a3, r4, 0, mergeL rps ps⟩ : St), B8, c8) HF.out)
              go_wp2_with (at_builtin; refine wpList_append_own _ rfl _ _ 22 rfl W2.heap.size 28 i0 _ 6 72 Try.underlying22 hi9 hz0 hz1 hz2 rfl (by decide) _ _ _ rfl (hrW.out.alloc _) ⟨W7.heap.size, 0, none⟩ 1 1 [.int .i64 a1, .int .i64 a2, .string a3, .int .i64 (r4), .int .i64 (0), .slice B8 (mergeL rps ps).length c8] rfl rfl (cell_new6 _ _ _ _ _ _ _ _) (by intro u hu; simp only [List.mem_cons, List.not_mem_nil, or_false] at hu; rcases hu with rfl | rfl | rfl | rfl | rfl | rfl <;> rfl) (by unfold maxLen; omega) (by omega) (by simp; omega) ?_; intro v1 w9 hown1 hgrow1 _; obtain ⟨g1, cap1, rfl⟩ := ownsRow_succ hown1)
              go_roundw
              case rel =>
                refine ⟨j + 1, p + 1, some ⟨g1, 0, none⟩, cap1, M ++ [((⟨a1, a2, a3, r4, 0, mergeL rps ps⟩ : St), B8, c8)], by omega, by go_num, rfl, by omega, Go.Lib.hid (by rw [rowA_append]; exact hown1), Go.Lib.hid ?_, HS, Go.Lib.hid ((HKy.out.alloc hWs _).grown hgrow1 (by simp; omega) (fun q e => (hrW.out.lt q e).1)), Go.Lib.hid (by rw [List.length_append, HLM.out]; rfl)⟩
                refine fs_append (w := W2) (o := .cells #[.int .i64 a1, .int .i64 a2, .string a3, .int .i64 (r4), .int .i64 (0), .slice B8 (mergeL rps ps).length c8] 28) hrW.out hown1 hgrow1 (fun x hx => ?_)
                rcases List.mem_append.1 hx with h | h
                · exact (HFS.out x h).below HBy.out
                · rw [List.mem_singleton] at h; subst h; exact HFX.out
              case measure => simp [RowKit.intOf]; omega
            · have n5 : (a5 == i) = false := by simpa using hn5
              have HF := Go.Lib.hid (show (⟨a1, a2, a3, r4, a5, mergeL rps ps⟩ : St) = remF i ⟨r1, r2, r3, r4, r5, rps⟩ ⟨a1, a2, a3, a4, a5, ps⟩ by unfold remF; simp [HB4.out, hn5])
              have HOy := HOx
              have HKy := HKx
              have HBy := HBx
              have HFX := Go.Lib.hid (show FS W2.heap.size W5 ((⟨a1, a2, a3, r4, a5, mergeL rps ps⟩ : St), B8, c8) from HFXx.out)
              clear hn5 t4
              have o0 := HOy.out.s0
              have o1 := HOy.out.s1
              have o2 := HOy.out.s2
              have o3 := HOy.out.s3
              have o4 := HOy.out.s4
              have o5 := HOy.out.s5
              have hWs := HKy.out.size
              have hrW := Go.Lib.hid (row_below HR.out HBy.out)
              have HS := Go.Lib.hid (show RemJ i ⟨r1, r2, r3, r4, r5, rps⟩ (l.take (j + 1)) (M ++ [((⟨a1, a2, a3, r4, a5, mergeL rps ps⟩ : St), B8, c8)]) from HT.out ((⟨a1, a2, a3, r4, a5, mergeL rps ps⟩ : St), B8, c8) HF.out)
              go_wp2_with (at_builtin; refine wpList_append_own _ rfl _ _ 22 rfl W2.heap.size 28 i0 _ 6 72 Try.underlying22 hi9 hz0 hz1 hz2 rfl (by decide) _ _ _ rfl (hrW.out.alloc _) ⟨W5.heap.size, 0, none⟩ 1 1 [.int .i64 a1, .int .i64 a2, .string a3, .int .i64 (r4), .int .i64 (a5), .slice B8 (mergeL rps ps).length c8] rfl rfl (cell_new6 _ _ _ _ _ _ _ _) (by intro u hu; simp only [List.mem_cons, List.not_mem_nil, or_false] at hu; rcases hu with rfl | rfl | rfl | rfl | rfl | rfl <;> rfl) (by unfold maxLen; omega) (by omega) (by simp; omega) ?_; intro v1 w9 hown1 hgrow1 _; obtain ⟨g1, cap1, rfl⟩ := ownsRow_succ hown1)
              go_roundw
              case rel =>
                refine ⟨j + 1, p + 1, some ⟨g1, 0, none⟩, cap1, M ++ [((⟨a1, a2, a3, r4, a5, mergeL rps ps⟩ : St), B8, c8)], by omega, by go_num, rfl, by omega, Go.Lib.hid (by rw [rowA_append]; exact hown1), Go.Lib.hid ?_, HS, Go.Lib.hid ((HKy.out.alloc hWs _).grown hgrow1 (by simp; omega) (fun q e => (hrW.out.lt q e).1)), Go.Lib.hid (by rw [List.length_append, HLM.out]; rfl)⟩
                refine fs_append (w := W2) (o := .cells #[.int .i64 a1, .int .i64 a2, .string a3, .int .i64 (r4), .int .i64 (a5), .slice B8 (mergeL rps ps).length c8] 28) hrW.out hown1 hgrow1 (fun x hx => ?_)
                rcases List.mem_append.1 hx with h | h
                · exact (HFS.out x h).below HBy.out
                · rw [List.mem_singleton] at h; subst h; exact HFX.out
              case measure => simp [RowKit.intOf]; omega
        · have n4 : (a4 == i) = false := by simpa using hb4
          have HB4 := Go.Lib.hid hb4
          have HFN := Go.Lib.hid (show ∀ a, Bx = some a → ps = [] ∨ a.block ≠ wr.heap.size from fun a ha => by
            rcases HFX0.out.2.2.2 with h | h
            · exact .inl h
            · right; have := (h a ha).1; omega)
          clear hb4
          go_upto_region 10 with fail
          have HOx := HOa
          have HKx := HBa
          have HBx := HB0
          have HFXx := Go.Lib.hid (HFX0.out.below HB0.out)
          clear HOa HBa HB0
          generalize wr.alloc (.cells #[.int .i64 a1, .int .i64 a2, .string a3, .int .i64 a4, .int .i64 a5, .slice Bx ps.length cx] 28) = W5 at HOx HKx HBx HFXx ⊢
          have z4 := HOx.out.s4
          have t4 := HOx.out.frozen 4
          by_cases hn5 : a5 = i
          · have n5 : (a5 == i) = true := by simpa using hn5
            have HF := Go.Lib.hid (show (⟨a1, a2, a3, a4, 0, ps⟩ : St) = remF i ⟨r1, r2, r3, r4, r5, rps⟩ ⟨a1, a2, a3, a4, a5, ps⟩ by unfold remF; simp [HB4.out, hn5])
            have HOy := Go.Lib.hid (show ObjAt (W5.setCell ⟨wr.heap.size, 4, none⟩ (.int .i64 0)) wr.heap.size #[.int .i64 a1, .int .i64 a2, .string a3, .int .i64 (a4), .int .i64 0, .slice Bx (ps).length cx] 28 from HOx.out.set 4 (.int .i64 0))
            have HKy := Go.Lib.hid (HKx.out.setCell (p := ⟨wr.heap.size, 4, none⟩) hbb (.int .i64 0))
            have HBy := Go.Lib.hid (HBx.out.setCell (p := ⟨wr.heap.size, 4, none⟩) (Nat.le_refl _) (.int .i64 0))
            have HFX := Go.Lib.hid (show FS W2.heap.size (W5.setCell ⟨wr.heap.size, 4, none⟩ (.int .i64 0)) ((⟨a1, a2, a3, a4, 0, ps⟩ : St), Bx, cx) from (HFXx.out.setO (fun a ha => HFN.out a ha) 4 (.int .i64 0)))
            clear hn5
            go_upto_region 12 with fail
            generalize W5.setCell ⟨wr.heap.size, 4, none⟩ (.int .i64 0) = W7 at HOy HKy HBy HFX ⊢
            have o0 := HOy.out.s0
            have o1 := HOy.out.s1
            have o2 := HOy.out.s2
            have o3 := HOy.out.s3
            have o4 := HOy.out.s4
            have o5 := HOy.out.s5
            have hWs := HKy.out.size
            have hrW := Go.Lib.hid (row_below HR.out HBy.out)
            have HS := Go.Lib.hid (show RemJ i ⟨r1, r2, r3, r4, r5, rps⟩ (l.take (j + 1)) (M ++ [((⟨a1, a2, a3, a4, 0, ps⟩ : St), Bx, cx)]) from HT.out ((⟨a1, a2, a3, a4, 0, ps⟩ : St), Bx, cx) HF.out)
            go_wp2_with (at_builtin; refine wpList_append_own _ rfl _ _ 22 rfl W2.heap.size 28 i0 _ 6 72 Try.underlying22 hi9 hz0 hz1 hz2 rfl (by decide) _ _ _ rfl (hrW.out.alloc _) ⟨W7.heap.size, 0, none⟩ 1 1 [.int .i64 a1, .int .i64 a2, .string a3, .int .i64 (a4), .int .i64 (0), .slice Bx (ps).length cx] rfl rfl (cell_new6 _ _ _ _ _ _ _ _) (by intro u hu; simp only [List.mem_cons, List.not_mem_nil, or_false] at hu; rcases hu with rfl | rfl | rfl | rfl | rfl | rfl <;> rfl) (by unfold maxLen; omega) (by omega) (by simp; omega) ?_; intro v1 w9 hown1 hgrow1 _; obtain ⟨g1, cap1, rfl⟩ := ownsRow_succ hown1)
            go_roundw
            case rel =>
              refine ⟨j + 1, p + 1, some ⟨g1, 0, none⟩, cap1, M ++ [((⟨a1, a2, a3, a4, 0, ps⟩ : St), Bx, cx)], by omega, by go_num, rfl, by omega, Go.Lib.hid (by rw [rowA_append]; exact hown1), Go.Lib.hid ?_, HS, Go.Lib.hid ((HKy.out.alloc hWs _).grown hgrow1 (by simp; omega) (fun q e => (hrW.out.lt q e).1)), Go.Lib.hid (by rw [List.length_append, HLM.out]; rfl)⟩
              refine fs_append (w := W2) (o := .cells #[.int .i64 a1, .int .i64 a2, .string a3, .int .i64 (a4), .int .i64 (0), .slice Bx (ps).length cx] 28) hrW.out hown1 hgrow1 (fun x hx => ?_)
              rcases List.mem_append.1 hx with h | h
              · exact (HFS.out x h).below HBy.out
              · rw [List.mem_singleton] at h; subst h; exact HFX.out
            case measure => simp [RowKit.intOf]; omega
          · have n5 : (a5 == i) = false := by simpa using hn5
            have HF := Go.Lib.hid (show (⟨a1, a2, a3, a4, a5, ps⟩ : St) = remF i ⟨r1, r2, r3, r4, r5, rps⟩ ⟨a1, a2, a3, a4, a5, ps⟩ by unfold remF; simp [HB4.out, hn5])
            have HOy := HOx
            have HKy := HKx
            have HBy := HBx
            have HFX := Go.Lib.hid (show FS W2.heap.size W5 ((⟨a1, a2, a3, a4, a5, ps⟩ : St), Bx, cx) from HFXx.out)
            clear hn5 t4
            have o0 := HOy.out.s0
            have o1 := HOy.out.s1
            have o2 := HOy.out.s2
            have o3 := HOy.out.s3
            have o4 := HOy.out.s4
            have o5 := HOy.out.s5
            have hWs := HKy.out.size
            have hrW := Go.Lib.hid (row_below HR.out HBy.out)
            have HS := Go.Lib.hid (show RemJ i ⟨r1, r2, r3, r4, r5, rps⟩ (l.take (j + 1)) (M ++ [((⟨a1, a2, a3, a4, a5, ps⟩ : St), Bx, cx)]) from HT.out ((⟨a1, a2, a3, a4, a5, ps⟩ : St), Bx, cx) HF.out)
            go_wp2_with (at_builtin; refine wpList_append_own _ rfl _ _ 22 rfl W2.heap.size 28 i0 _ 6 72 Try.underlying22 hi9 hz0 hz1 hz2 rfl (by decide) _ _ _ rfl (hrW.out.alloc _) ⟨W5.heap.size, 0, none⟩ 1 1 [.int .i64 a1, .int .i64 a2, .string a3, .int .i64 (a4), .int .i64 (a5), .slice Bx (ps).length cx] rfl rfl (cell_new6 _ _ _ _ _ _ _ _) (by intro u hu; simp only [List.mem_cons, List.not_mem_nil, or_false] at hu; rcases hu with rfl | rfl | rfl | rfl | rfl | rfl <;> rfl) (by unfold maxLen; omega) (by omega) (by simp; omega) ?_; intro v1 w9 hown1 hgrow1 _; obtain ⟨g1, cap1, rfl⟩ := ownsRow_succ hown1)
            go_roundw
            case rel =>
              refine ⟨j + 1, p + 1, some ⟨g1, 0, none⟩, cap1, M ++ [((⟨a1, a2, a3, a4, a5, ps⟩ : St), Bx, cx)], by omega, by go_num, rfl, by omega, Go.Lib.hid (by rw [rowA_append]; exact hown1), Go.Lib.hid ?_, HS, Go.Lib.hid ((HKy.out.alloc hWs _).grown hgrow1 (by simp; omega) (fun q e => (hrW.out.lt q e).1)), Go.Lib.hid (by rw [List.length_append, HLM.out]; rfl)⟩
              refine fs_append (w := W2) (o := .cells #[.int .i64 a1, .int .i64 a2, .string a3, .int .i64 (a4), .int .i64 (a5), .slice Bx (ps).length cx] 28) hrW.out hown1 hgrow1 (fun x hx => ?_)
              rcases List.mem_append.1 hx with h | h
              · exact (HFS.out x h).below HBy.out
              · rw [List.mem_singleton] at h; subst h; exact HFX.out
            case measure => simp [RowKit.intOf]; omega
    · obtain rfl : j = n := by omega
      have e : l.take j = l := List.take_of_length_le (by rw [HN.out]; exact Nat.le_refl _)
      have HRJ2 := Go.Lib.hid (show M.map (·.1) = remL l i k by
        have h := HRJ.out
        rw [e] at h
        rw [HREM.out, HRR.out]
        exact h)
      clear hlt e
      go_wp2
      go_ret
      refine ⟨⟨B, p, cb, by rw [← HRJ2.out, List.length_map]; exact HLM.out, rfl, ?_⟩, HB.out⟩
      rw [← HRJ2.out]
      exact fs_ls HR.out HLM.out HFS.out
end Go.Proofs.Ytbkpokipibgdfaa
