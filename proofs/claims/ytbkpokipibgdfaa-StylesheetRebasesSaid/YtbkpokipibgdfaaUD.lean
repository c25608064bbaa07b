/- Layer 8: Remove (37). -/
import Derived.Test.YtbkpokipibgdfaaUC
import Derived.Test.YtbkpokipibgdfaaTV
namespace Go.Proofs.Ytbkpokipibgdfaa
open Go.RowKit Go.Lib
set_option linter.unusedVariables false

/-- What becomes of another style. -/
def remF (i : Int) (r x : St) : St := ⟨x.id, x.kind, x.name, if x.base = i then r.base else x.base, if x.next = i then 0 else x.next, if x.base = i then mergeL r.props x.props else x.props⟩
def remL (l : List St) (i : Int) (k : Nat) : List St := (l.take k ++ l.drop (k + 1)).map (remF i (l.getD k default))
def RemI (i : Int) (rr : St) (M0 M : List Sa) (j : Nat) : Prop := M.length = M0.length ∧ ∀ q (h : q < M.length) (h0 : q < M0.length), M[q].1 = if q < j then remF i rr M0[q].1 else M0[q].1
theorem RemI.start (i : Int) (rr : St) (M : List Sa) : RemI i rr M M 0 := ⟨rfl, fun q h h0 => by rw [if_neg (Nat.not_lt_zero _)]⟩
theorem RemI.set {i : Int} {rr : St} {M0 M : List Sa} {j : Nat} (h : RemI i rr M0 M j) (hj : j < M.length) (y : Sa) (hy : y.1 = remF i rr M[j].1) : RemI i rr M0 (M.set j y) (j + 1) := by
  refine ⟨by rw [List.length_set]; exact h.1, fun q hq h0 => ?_⟩
  by_cases e : q = j
  · subst e
    rw [List.getElem_set_self, hy, if_pos (Nat.lt_succ_self _), h.2 q hj h0, if_neg (Nat.lt_irrefl _)]
  · rw [List.getElem_set_ne (fun e' => e e'.symm), h.2 q (by rw [List.length_set] at hq; exact hq) h0]
    by_cases h1 : q < j
    · rw [if_pos h1, if_pos (by omega)]
    · rw [if_neg h1, if_neg (by omega)]
theorem RemI.same {i : Int} {rr : St} {M0 M : List Sa} {j : Nat} (h : RemI i rr M0 M j) (hj : j < M.length) (hy : M[j].1 = remF i rr M[j].1) : RemI i rr M0 M (j + 1) := by
  have := h.set hj M[j] hy
  rw [List.set_getElem_self] at this
  exact this
theorem RemI.done {i : Int} {rr : St} {M0 M : List Sa} {j : Nat} (h : RemI i rr M0 M j) (hj : M.length ≤ j) : M.map (·.1) = (M0.map (·.1)).map (remF i rr) := by
  apply List.ext_getElem (by simp [h.1])
  intro q h1 h2
  have hq : q < M.length := by simpa using h1
  simp only [List.getElem_map]
  rw [h.2 q hq (by rw [← h.1]; exact hq), if_pos (by omega)]
theorem PrAt.moved {w w' : World} {A : Option Addr} {l : List Pr} {g : Nat} (h : PrAt w A l) (hs : w'.heap.size = w.heap.size) (ho : ∀ b, b ≠ g → w'.heap[b]? = w.heap[b]?) (hne' : l = [] ∨ ∀ a, A = some a → a.block ≠ g) : PrAt w' A l := by
  rcases hne' with h0 | hne
  · exact .inl h0
  rcases h with h | ⟨b, o, e, hb, hc⟩
  · exact .inl h
  · have hbg : b ≠ g := hne _ e
    have e2 : ∀ p, w'.cell? ⟨b, p, none⟩ = w.cell? ⟨b, p, none⟩ := fun p => by unfold World.cell?; simp only [ho b hbg]
    exact .inr ⟨b, o, e, by omega, fun k hk => ⟨(e2 _).trans (hc k hk).1, (e2 _).trans (hc k hk).2⟩⟩
/-- What Remove hands back. -/
def RmvR (l : List St) (i : Int) (k m : Nat) (w : World) (e : Ending) (w' : World) : Prop :=
  (∃ g cb L, e = .returned (.tuple #[.slice (some ⟨g, 0, none⟩) m cb, .int .i64 0]) ∧ OwnS w' w.heap.size g m cb L ∧ L.map (·.1) = remL l i k) ∧ Below w.heap.size w w'
set_option maxRecDepth 100000 in
set_option maxHeartbeats 8000000 in
theorem remove_b (l : List St) (hok : LsOk l) (hnm : NmsOk l) (A : Option Addr) (n d : Nat) (hn : l.length = n) (hs : n ≤ 1000) (i : Int) (hi : I64 i) (hbad : chkI l i ≠ 0) (w : World) (hA : LsAt w A l) :
    Calls Try.prog 37 #[.slice A n d, .int .i64 i] w fun e w' => e = .returned (.tuple #[.slice none 0 0, .int .i64 (chkI l i)]) ∧ Below w.heap.size w w' := by
  have cO := openat_any l hok hnm A n d hn hs i hi w hA
  have HBAD := Go.Lib.hid hbad
  clear hA hok hnm hbad
  go_enter Try.func37, Try.ntmps37
  go_wp2_with fail
  (with_reducible refine cO.mono ?_)
  rintro e w1 ⟨(⟨hz, rfl⟩ | ⟨b, k, hz, hp, rfl, hsh⟩), k1⟩
  · have e1 : (chkI l i != 0) = true := by simpa using hz
    have B1 := Go.Lib.hid (k1.alloc k1.size (.cells #[.slice none 0 0, .map none] 73))
    clear cO hz k1
    go_wp2
    go_ret2
    exact ⟨rfl, B1.out⟩
  · exact absurd hz HBAD.out
set_option maxRecDepth 100000 in
set_option maxHeartbeats 16000000 in
theorem remove_g (l : List St) (hok : LsOk l) (hnm : NmsOk l) (hps : PrsOk l) (A : Option Addr) (n d m : Nat) (hn : l.length = n) (hnm1 : n = m + 1) (hs : n ≤ 1000) (i : Int) (hi : I64 i) (hz0 : chkI l i = 0) (k : Nat) (hp0 : plc l i = some k) (w : World) (hA : LsAt w A l) :
    Calls Try.prog 37 #[.slice A n d, .int .i64 i] w (RmvR l i k m w) := by
  have cO := openat_any l hok hnm A n d hn hs i hi w hA
  have HNM := Go.Lib.hid hnm1
  obtain ⟨hk, hkid⟩ := plc_lt hp0
  clear hkid
  have hkn : k < n := by omega
  have hG := (chkI_good hz0).1
  have CC := Go.Lib.hid (fun w' (hb : Below w.heap.size w w') => clone60_any l A n d hn (by omega) hs hps w' (hA.below hb))
  have HZ := Go.Lib.hid hz0
  have HP := Go.Lib.hid hp0
  have HN := Go.Lib.hid hn
  have hgd : l.getD k default = l[k] := by rw [List.getD_eq_getElem?_getD, List.getElem?_eq_getElem hk]; rfl
  have HRI := Go.Lib.hid (show InT (l.getD k default).props from hG.inT k)
  have HIT := Go.Lib.hid (show ∀ x ∈ l, InT x.props from fun x hx => by
    obtain ⟨q, hq, rfl⟩ := List.mem_iff_getElem.1 hx
    have := hG.inT q
    unfold prsL at this
    rw [List.getD_eq_getElem?_getD, List.getElem?_eq_getElem hq] at this
    exact this)
  obtain ⟨ga, oa, rfl, hga, hcl⟩ := hA.pos (by omega)
  obtain ⟨Br, cr, v0, v1, v2, v3, v4, v5, vc1, vc2, vp⟩ := hcl k hk
  have HRR := Go.Lib.hid (show l.getD k default = l[k] from hgd)
  have VV := Go.Lib.hid (fun w' (hb : Below w.heap.size w w') => (⟨(hb.cell (p := ⟨ga, oa + k * 6, none⟩) hga).trans v0, (hb.cell (p := ⟨ga, oa + k * 6 + 1, none⟩) hga).trans v1, (hb.cell (p := ⟨ga, oa + k * 6 + 2, none⟩) hga).trans v2, (hb.cell (p := ⟨ga, oa + k * 6 + 3, none⟩) hga).trans v3, (hb.cell (p := ⟨ga, oa + k * 6 + 4, none⟩) hga).trans v4, (hb.cell (p := ⟨ga, oa + k * 6 + 5, none⟩) hga).trans v5, vp.below hb (Nat.le_refl _)⟩ : _ ∧ _ ∧ _ ∧ _ ∧ _ ∧ _ ∧ PrAt w' Br l[k].props))
  have HVC := Go.Lib.hid (And.intro vc1 vc2)
  have HRI2 := Go.Lib.hid (show InT l[k].props by rw [← hgd]; exact HRI.out)
  have hm1000 : m < 1000 := by omega
  have hkm : k ≤ m := by omega
  clear hnm1
  clear hA hok hnm hps hcl v0 v1 v2 v3 v4 v5 vc1 vc2 vp hn hz0 hp0 hG hgd
  generalize hrr : l[k] = rr at VV HVC HRR HRI2
  clear hrr
  have f0 : (0 : Int) ≤ (k : Int) := by omega
  have f1 : (k : Int) < (n : Int) := by omega
  go_enter Try.func37, Try.ntmps37
  go_wp2_with fail
  (with_reducible refine cO.mono ?_)
  rintro e w1 ⟨(⟨hz, rfl⟩ | ⟨b, k', hz, hp, rfl, hsh⟩), k1⟩
  · exact absurd HZ.out hz
  obtain rfl : k = k' := by have := HP.out; rw [hp] at this; cases this; rfl
  have K1 := Go.Lib.hid (k1.alloc k1.size (.cells #[.slice (some ⟨ga, oa, none⟩) n d, .map (some b)] 73))
  have s1 := K1.out.size
  obtain ⟨y0, y1, y2, y3, y4, y5, _⟩ := VV.out _ K1.out
  have K2 := Go.Lib.hid (K1.out.alloc s1 (.cells #[.int .i64 rr.id, .int .i64 rr.kind, .string rr.name, .int .i64 rr.base, .int .i64 rr.next, .slice Br rr.props.length cr] 28))
  have s2 := K2.out.size
  have OB := ObjAt.new (w1.alloc (.cells #[.slice (some ⟨ga, oa, none⟩) n d, .map (some b)] 73)) #[.int .i64 rr.id, .int .i64 rr.kind, .string rr.name, .int .i64 rr.base, .int .i64 rr.next, .slice Br rr.props.length cr] 28
  rw [World.size_alloc] at OB
  have HOB := Go.Lib.hid OB
  have hsz2 : ((w1.alloc (.cells #[.slice (some ⟨ga, oa, none⟩) n d, .map (some b)] 73)).alloc (.cells #[.int .i64 rr.id, .int .i64 rr.kind, .string rr.name, .int .i64 rr.base, .int .i64 rr.next, .slice Br rr.props.length cr] 28)).heap.size = w1.heap.size + 2 := by simp
  have hw1s : w.heap.size ≤ w1.heap.size := k1.size
  have cC := CC.out _ K2.out
  clear cO k1 hz hp hsh OB
  go_wp2_with fail
  (with_reducible refine cC.mono ?_)
  rintro e w3 ⟨⟨g, cb, L, rfl, hOS, hLm⟩, k3⟩
  have K3 := Go.Lib.hid (K2.out.trans (k3.mono s2))
  have s3 := K3.out.size
  have O3 := Go.Lib.hid (HOB.out.below k3)
  rw [hsz2] at hOS
  have hOSlt := hOS.lt
  have hgb : w.heap.size ≤ g := by omega
  have hbg : w1.heap.size + 1 ≠ g := by omega
  have HLM := Go.Lib.hid hLm
  have HLP := Go.Lib.hid hOS.prs
  have hLl : L.length = m + 1 := by have := hOS.len; have := HNM.out; omega
  have hrow := hOS.row
  rw [HNM.out] at hrow
  have cD := delete_any w3 w.heap.size m k g cb L hLl hkm (by omega) (own_lower hrow (by omega))
  have hw9 : IntKind.i64.wrap ((k : Int) + 1) = (k : Int) + 1 := IntWalk.i64_in _ (by omega)
  clear cC k3 y0 y1 y2 y3 y4 y5 hLm hrow
  have hnm1 := HNM.out
  subst hnm1
  go_wp2_with fail
  (with_reducible refine cD.mono ?_)
  rintro e w4 ⟨rfl, hrow4, k4, hsz4, hoth4⟩
  have K4 := Go.Lib.hid (K3.out.trans k4)
  have s4 := K4.out.size
  have HMs := Go.Lib.hid (show (L.take k ++ L.drop (k + 1)).map (·.1) = l.take k ++ l.drop (k + 1) by rw [List.map_append, List.map_take, List.map_drop, HLM.out])
  have HM0 := Go.Lib.hid (show OwnS w4 w.heap.size g m cb (L.take k ++ L.drop (k + 1)) from ⟨hrow4, by rw [List.length_append, List.length_take, List.length_drop, hLl]; omega, by
    intro x hx
    have hxL : x ∈ L := by
      rcases List.mem_append.1 hx with h | h
      · exact List.mem_of_mem_take h
      · exact List.mem_of_mem_drop h
    obtain ⟨q1, q2, q3, q4⟩ := HLP.out x hxL
    exact ⟨q1, q2, q3.moved hsz4 hoth4 q4, q4⟩⟩)
  have HIM := Go.Lib.hid (show ∀ x ∈ L.take k ++ L.drop (k + 1), InT x.1.props from fun x hx => HIT.out _ (by
    have : x.1 ∈ (L.take k ++ L.drop (k + 1)).map (·.1) := List.mem_map.2 ⟨x, hx, rfl⟩
    rw [HMs.out] at this
    rcases List.mem_append.1 this with h | h
    · exact List.mem_of_mem_take h
    · exact List.mem_of_mem_drop h))
  have O4 := Go.Lib.hid (show ObjAt w4 (w1.heap.size + 1) #[.int .i64 rr.id, .int .i64 rr.kind, .string rr.name, .int .i64 rr.base, .int .i64 rr.next, .slice Br rr.props.length cr] 28 from (hoth4 _ hbg).trans O3.out)
  have hM0l : (L.take k ++ L.drop (k + 1)).length = m := HM0.out.len
  generalize hM0 : L.take k ++ L.drop (k + 1) = M0 at HMs HM0 HIM hM0l
  clear hM0 cD hrow4 k4 hsz4 hoth4
  have hgw4 : g < w4.heap.size := HM0.out.lt.2
  have hr45 : rr.props.length ≤ 1000 := by have := HRI2.out.len; omega
  obtain ⟨r1, r2, r3, r4, r5, rps⟩ := rr
  dsimp only at O4 HVC HRI2 hr45 VV
  go_wp2_with fail
  go_loopw [11, 12, 35] (fun _ _ s35 wr => ∃ (j : Nat) (M : List Sa), j ≤ m ∧ s35 = .int .i64 (j : Nat) ∧ Hid (OwnS wr w.heap.size g m cb M) ∧ Hid (RemI i ⟨r1, r2, r3, r4, r5, rps⟩ M0 M j) ∧ Hid (ObjAt wr (w1.heap.size + 1) #[.int .i64 r1, .int .i64 r2, .string r3, .int .i64 r4, .int .i64 r5, .slice Br rps.length cr] 28) ∧ Hid (Below w.heap.size w wr)) (fun _ _ s35 _ => m - (RowKit.intOf s35).toNat)
  case atStart => exact ⟨0, M0, Nat.zero_le _, rfl, HM0, Go.Lib.hid (RemI.start _ _ _), O4, K4⟩
  case round =>
    obtain ⟨j, M, hj, rfl, HM, HRI, HO, HB⟩ := hrel
    have hsB := HB.out.size
    by_cases hlt : j < m
    · have hjM : j < M.length := by rw [HM.out.len]; exact hlt
      have q0 : (0 : Int) ≤ (j : Int) := by omega
      have q1 : (j : Int) < (m : Int) := by omega
      have HXx := Go.Lib.hid (show ∃ h : j < M.length, M[j] = M[j]'hjM from ⟨hjM, rfl⟩)
      have z3 : _ = some (Value.int .i64 M[j].1.base) := HM.out.cell hjM (j := 3) (by omega)
      have z5 : _ = some (Value.slice M[j].2.1 M[j].1.props.length M[j].2.2) := HM.out.cell hjM (j := 5) (by omega)
      obtain ⟨p1, p2, p3, p4⟩ := HM.out.prs _ (List.getElem_mem hjM)
      have RI := Go.Lib.hid (fun (y : Sa) (hy : y.1 = remF i ⟨r1, r2, r3, r4, r5, rps⟩ M[j].1) => HRI.out.set hjM y hy)
      have RI0 := Go.Lib.hid (fun (hy : M[j].1 = remF i ⟨r1, r2, r3, r4, r5, rps⟩ M[j].1) => HRI.out.same hjM hy)
      have hM0j : j < M0.length := by rw [hM0l]; exact hlt
      have HIX := Go.Lib.hid (show InT M[j].1.props by
        rw [HRI.out.2 j hjM hM0j, if_neg (Nat.lt_irrefl _)]
        exact HIM.out _ (List.getElem_mem hM0j))
      have HP4 := Go.Lib.hid (And.intro p1 (And.intro p2 (And.intro p3 p4)))
      clear p1 p2 p3 p4
      generalize hx : M[j]'hjM = x at HXx z3 z5 RI RI0 HIX HP4
      have HX := Go.Lib.hid hx
      obtain ⟨⟨a1, a2, a3, a4, a5, ps⟩, ax, ac⟩ := x
      dsimp only at z3 z5 RI RI0 HIX HP4
      clear hx
      have hp45 := HIX.out.len
      by_cases hb4 : a4 = i
      · have n4 : (a4 == i) = true := by simpa using hb4
        have HB4 := Go.Lib.hid hb4
        have o3 := HO.out.s3
        have o5 := HO.out.s5
        have t3 := HM.out.row.frozenAt (j * 6 + 3)
        have HM3 := Go.Lib.hid (show OwnS (wr.setCell ⟨g, j * 6 + 3, none⟩ (.int .i64 r4)) w.heap.size g m cb (M.set j (⟨a1, a2, a3, r4, a5, ps⟩, ax, ac)) from HM.out.put hjM (j := 3) (by omega) (by rw [HX.out]; rfl) ⟨HP4.out.1, HP4.out.2.1, HP4.out.2.2.1, HP4.out.2.2.2⟩)
        have HO3 := Go.Lib.hid (HO.out.other hbg (j * 6 + 3) (.int .i64 r4))
        have HK3 := Go.Lib.hid (HB.out.setCell (p := ⟨g, j * 6 + 3, none⟩) hgb (.int .i64 r4))
        clear hb4
        go_wp2_with fail
        generalize wr.setCell ⟨g, j * 6 + 3, none⟩ (.int .i64 r4) = W3 at HM3 HO3 HK3 ⊢
        have hjM3 : j < (M.set j ((⟨a1, a2, a3, r4, a5, ps⟩ : St), ax, ac)).length := by rw [List.length_set]; exact hjM
        have u5 := HO3.out.s5
        have x5 : W3.cell? ⟨g, j * 6 + 5, none⟩ = some (.slice ax ps.length ac) := by
          rw [HM3.out.cell hjM3 (j := 5) (by omega), List.getElem_set_self]; rfl
        have HM3d := Go.Lib.hid (HM3.out.below (bdrew1 (Below.refl W3.heap.size W3)))
        have HO3d := Go.Lib.hid (HO3.out.below (bdrew1 (Below.refl W3.heap.size W3)))
        have HK3d := Go.Lib.hid (bdrew1 HK3.out)
        have hW3s : w.heap.size ≤ W3.drew.heap.size := HK3d.out.size
        have hp3 := HM3d.out.prs _ (List.getElem_mem hjM3)
        rw [List.getElem_set_self] at hp3
        have cM := merge_any Br ax cr ac rps ps hr45 (by omega) HVC.out ⟨hp3.1, hp3.2.1⟩ W3.drew ((VV.out _ HK3d.out).2.2.2.2.2.2) hp3.2.2.1
        have hgW3 : g < W3.drew.heap.size := HM3d.out.lt.2
        have hml : (mergeL rps ps).length = (pairs rps ps).length := by unfold mergeL; rw [List.length_map]
        have HML := Go.Lib.hid hml
        clear o3 o5 t3 z3 z5 hp3 hml
        have cM2 : Calls Try.prog 56 #[.slice Br rps.length cr, .slice ax ps.length ac] W3.drew fun e w8 => ∃ B8 c8, e = .returned (.slice B8 (pairs rps ps).length c8) ∧ w8.ownsRow W3.drew.heap.size 55 2 (.slice B8 (pairs rps ps).length c8) (pairs rps ps).length (rowP (mergeL rps ps)) ∧ Below W3.drew.heap.size W3.drew w8 ∧ w8.cell? ⟨g, j * 6 + 5, none⟩ = some (.slice ax ps.length ac) ∧ w8.frozen? ⟨g, j * 6 + 5, none⟩ = false := by
          refine cM.mono ?_
          rintro e w8 ⟨v8, rfl, hr8, hb8⟩
          obtain ⟨B8, c8, rfl⟩ := own_form hr8
          have HM8 := HM3d.out.below hb8
          exact ⟨B8, c8, rfl, hr8, hb8, by rw [HM8.cell hjM3 (j := 5) (by omega), List.getElem_set_self]; rfl, HM8.row.frozenAt (j * 6 + 5)⟩
        clear cM
        go_region_with (go_at_call 56; (with_reducible refine cM2.mono ?_); rintro e w8 ⟨B8, c8, rfl, hr8, hb8, y5, t5⟩)
        all_goals
          have hr8' : w8.ownsRow W3.drew.heap.size 55 2 (.slice B8 (pairs rps ps).length c8) (pairs rps ps).length (rowP (mergeL rps ps)) := hr8
          have hq8 := row_prat hr8' HML.out
          have HM8 := HM3d.out.below hb8
          have HM5x := HM8.put hjM3 (j := 5) (y := ((⟨a1, a2, a3, r4, a5, mergeL rps ps⟩ : St), B8, c8)) (u := .slice B8 (pairs rps ps).length c8) (by omega) (by rw [List.getElem_set_self]; unfold rowA1; dsimp only; rw [HML.out]; rfl) ⟨by show (mergeL rps ps).length ≤ c8; rw [HML.out]; exact hq8.1, hq8.2.1, hq8.2.2, .inr (row_ne hr8' hgW3)⟩
          rw [List.set_set] at HM5x
          have HOxx := (HO3d.out.below hb8).other hbg (j * 6 + 5) (.slice B8 (pairs rps ps).length c8)
          have HKxx := (HK3d.out.trans (hb8.mono hW3s)).setCell (p := ⟨g, j * 6 + 5, none⟩) hgb (.slice B8 (pairs rps ps).length c8)
          obtain ⟨Mx, hMx⟩ : ∃ Mx, Mx = M.set j ((⟨a1, a2, a3, r4, a5, mergeL rps ps⟩ : St), B8, c8) := ⟨_, rfl⟩
          rw [← hMx] at HM5x
          have hsetx : ∀ y, Mx.set j y = M.set j y := fun y => by rw [hMx, List.set_set]
          have HXx := Go.Lib.hid (show ∃ h : j < Mx.length, Mx[j] = ((⟨a1, a2, a3, r4, a5, mergeL rps ps⟩ : St), B8, c8) from ⟨by rw [hMx, List.length_set]; exact hjM, by simp only [hMx, List.getElem_set_self]⟩)
          have RIx := RI
          have RI0 := Go.Lib.hid (fun (hy : (⟨a1, a2, a3, r4, a5, mergeL rps ps⟩ : St) = remF i ⟨r1, r2, r3, r4, r5, rps⟩ ⟨a1, a2, a3, a4, a5, ps⟩) => show RemI i ⟨r1, r2, r3, r4, r5, rps⟩ M0 Mx (j + 1) by rw [hMx]; exact RIx.out _ hy)
          have RI := Go.Lib.hid (fun (y : Sa) (hy : y.1 = remF i ⟨r1, r2, r3, r4, r5, rps⟩ ⟨a1, a2, a3, a4, a5, ps⟩) => show RemI i ⟨r1, r2, r3, r4, r5, rps⟩ M0 (Mx.set j y) (j + 1) by rw [hsetx]; exact RIx.out _ hy)
          have HMx := Go.Lib.hid HM5x
          have HOx := Go.Lib.hid HOxx
          have HKx := Go.Lib.hid HKxx
          clear hsetx hMx HM5x HOxx HKxx hq8 hr8 hr8' hb8 HM8 y5 t5 cM2 u5 x5
          generalize w8.setCell ⟨g, j * 6 + 5, none⟩ (.slice B8 (pairs rps ps).length c8) = W5 at HMx HOx HKx ⊢
          have z4 : W5.cell? ⟨g, j * 6 + 4, none⟩ = some (.int .i64 a5) := by
            obtain ⟨hq, hx⟩ := HXx.out
            rw [HMx.out.cell hq (j := 4) (by omega), hx]
            rfl
          have t4 := HMx.out.row.frozenAt (j * 6 + 4)
          by_cases hn5 : a5 = i
          · have n5 : (a5 == i) = true := by simpa using hn5
            have HF := Go.Lib.hid (show (⟨a1, a2, a3, r4, 0, mergeL rps ps⟩ : St) = remF i ⟨r1, r2, r3, r4, r5, rps⟩ ⟨a1, a2, a3, a4, a5, ps⟩ by unfold remF; simp [HB4.out, hn5])
            have HK5 := Go.Lib.hid (HKx.out.setCell (p := ⟨g, j * 6 + 4, none⟩) hgb (.int .i64 0))
            have HM5 := Go.Lib.hid (show OwnS (W5.setCell ⟨g, j * 6 + 4, none⟩ (.int .i64 0)) w.heap.size g m cb (Mx.set j (⟨a1, a2, a3, r4, 0, mergeL rps ps⟩, B8, c8)) by
              obtain ⟨hq, hx⟩ := HXx.out
              have hp := HMx.out.prs _ (List.getElem_mem hq)
              rw [hx] at hp
              exact HMx.out.put hq (j := 4) (by omega) (by rw [hx]; rfl) hp)
            have HO5 := Go.Lib.hid (HOx.out.other hbg (j * 6 + 4) (.int .i64 0))
            clear hn5
            go_wp2_with fail
            go_roundw
            case rel => exact ⟨j + 1, _, by omega, by go_num, HM5, Go.Lib.hid (RI.out _ HF.out), HO5, HK5⟩
            case measure => simp [RowKit.intOf]; omega
          · have n5 : (a5 == i) = false := by simpa using hn5
            have HF := Go.Lib.hid (show (⟨a1, a2, a3, r4, a5, mergeL rps ps⟩ : St) = remF i ⟨r1, r2, r3, r4, r5, rps⟩ ⟨a1, a2, a3, a4, a5, ps⟩ by unfold remF; simp [HB4.out, hn5])
            clear hn5 t4
            go_wp2_with fail
            go_roundw
            case rel => exact ⟨j + 1, Mx, by omega, by go_num, HMx, Go.Lib.hid (RI0.out HF.out), HOx, HKx⟩
            case measure => simp [RowKit.intOf]; omega
      · have n4 : (a4 == i) = false := by simpa using hb4
        have HB4 := Go.Lib.hid hb4
        have HMx := HM
        have HOx := HO
        have HKx := HB
        clear hb4 z5
        have z4 : wr.cell? ⟨g, j * 6 + 4, none⟩ = some (.int .i64 a5) := by
          obtain ⟨hq, hx⟩ := HXx.out
          rw [HMx.out.cell hq (j := 4) (by omega), hx]
          rfl
        have t4 := HMx.out.row.frozenAt (j * 6 + 4)
        by_cases hn5 : a5 = i
        · have n5 : (a5 == i) = true := by simpa using hn5
          have HF := Go.Lib.hid (show (⟨a1, a2, a3, a4, 0, ps⟩ : St) = remF i ⟨r1, r2, r3, r4, r5, rps⟩ ⟨a1, a2, a3, a4, a5, ps⟩ by unfold remF; simp [HB4.out, hn5])
          have HK5 := Go.Lib.hid (HKx.out.setCell (p := ⟨g, j * 6 + 4, none⟩) hgb (.int .i64 0))
          have HM5 := Go.Lib.hid (show OwnS (wr.setCell ⟨g, j * 6 + 4, none⟩ (.int .i64 0)) w.heap.size g m cb (M.set j (⟨a1, a2, a3, a4, 0, ps⟩, ax, ac)) by
            obtain ⟨hq, hx⟩ := HXx.out
            have hp := HMx.out.prs _ (List.getElem_mem hq)
            rw [hx] at hp
            exact HMx.out.put hq (j := 4) (by omega) (by rw [hx]; rfl) hp)
          have HO5 := Go.Lib.hid (HOx.out.other hbg (j * 6 + 4) (.int .i64 0))
          clear hn5
          go_wp2_with fail
          go_roundw
          case rel => exact ⟨j + 1, _, by omega, by go_num, HM5, Go.Lib.hid (RI.out _ HF.out), HO5, HK5⟩
          case measure => simp [RowKit.intOf]; omega
        · have n5 : (a5 == i) = false := by simpa using hn5
          have HF := Go.Lib.hid (show (⟨a1, a2, a3, a4, a5, ps⟩ : St) = remF i ⟨r1, r2, r3, r4, r5, rps⟩ ⟨a1, a2, a3, a4, a5, ps⟩ by unfold remF; simp [HB4.out, hn5])
          clear hn5 t4
          go_wp2_with fail
          go_roundw
          case rel => exact ⟨j + 1, M, by omega, by go_num, HMx, Go.Lib.hid (RI0.out HF.out), HOx, HKx⟩
          case measure => simp [RowKit.intOf]; omega
    · obtain rfl : j = m := by omega
      have HD := Go.Lib.hid (HRI.out.done (by rw [HM.out.len]; exact Nat.le_refl _))
      clear hlt
      go_wp2
      go_ret2
      refine ⟨⟨g, cb, M, rfl, HM.out, ?_⟩, HB.out⟩
      rw [HD.out, HMs.out]
      unfold remL
      rw [HRR.out]
end Go.Proofs.Ytbkpokipibgdfaa
