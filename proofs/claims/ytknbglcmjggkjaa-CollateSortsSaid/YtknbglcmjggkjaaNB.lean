/- Layer 6: Sort and what its law needs, put together. -/
import Derived.Test.YtknbglcmjggkjaaNA
import Derived.Test.YtknbglcmjggkjaaLQ
import Derived.Test.YtknbglcmjggkjaaShelf
import Derived.Test.YtknbglcmjggkjaaKC
import Derived.Deep.RegionHeld3

/- Layer 6: SortStableFunc (43) with Sort's own comparison (44). -/
namespace Go.Proofs.Ytknbglcmjggkjaa
open Go.RowKit Go.Shelf Go.Lib Go.Sort Sm

/-- A pair of Sort's, with the place that it began at. -/
abbrev Kd : Type := ByteArray × ByteArray × Nat
def kdEnc (x : Kd) : List Value := [.string x.1, .string x.2.1]
def kdCmp (x y : Kd) : Int := compareBytes x.1.data.toList y.1.data.toList
def kdLt (x y : Kd) : Prop := kdCmp x y < 0 ∨ kdCmp x y = 0 ∧ x.2.2 < y.2.2
theorem kdOrd : Ord kdLt where
  trans := by
    intro x y z h1 h2
    unfold kdLt kdCmp at *
    have t := (Co.cb_trans x.1.data.toList y.1.data.toList z.1.data.toList).1
    rcases t with t | t | t <;> omega
  irr := by
    intro x h
    unfold kdLt kdCmp at h
    have := Co.cb_self x.1.data.toList
    omega
theorem kdTot {d : Array Kd} {n : Nat} (h : ∀ i j, i < j → j < n → (Ix d i).2.2 < (Ix d j).2.2) : Tot kdLt kdCmp d 0 n := by
  intro i j _ hij hj
  have ht := h i j hij hj
  have ha := Co.cb_anti (Ix d j).1.data.toList (Ix d i).1.data.toList
  unfold kdLt kdCmp
  omega
set_option maxHeartbeats 1000000 in
theorem closure44 (x y : Kd) (W : World) : Calls Try.prog 44 #[.agg (kdEnc x).toArray, .agg (kdEnc y).toArray] W fun e w' => e = .returned (.int .i64 (kdCmp x y)) ∧ ∃ q os', w' = grow (W.drewN q) os' := by
  have hcon := fun W' => Try.strings_Compare x.1 y.1 W'
  unfold kdCmp kdEnc
  generalize compareBytes x.1.data.toList y.1.data.toList = r at hcon ⊢
  go_enter Try.func44, Try.ntmps44
  go_wp2_with (go_at_call 40; refine (hcon _).mono ?_; rintro e w' ⟨rfl, rfl⟩)
  go_ret
  exact ⟨rfl, 0, _, by rw [alloc_eq_grow, alloc_eq_grow, grow_grow]; rfl⟩
theorem kdCmpLays (blk off size : Nat) (w : World) : CmpLays Try.prog 44 #[] kdEnc 2 kdCmp blk off size w :=
  fun _ _ _ _ x y => closure44 x y _
set_option maxHeartbeats 1000000 in
theorem sortStable_any (blk off cap n : Nat) (d : Array Kd) (w : World) (hH : HoldsK kdEnc 2 w blk off d) (hblk : blk < w.heap.size) (hn : d.size = n) (h40 : n ≤ 40) (ht : ∀ i j, i < j → j < n → (Ix d i).2.2 < (Ix d j).2.2) :
    Calls Try.prog 43 #[.slice (some ⟨blk, off, none⟩) n cap, .func (.func 44) #[] #[]] w (SymOut kdLt kdEnc 2 w blk off d 0 n) := by
  have R : RowK kdEnc 2 w blk off d := ⟨fun _ => rfl, fun x v hv => by simp [kdEnc] at hv; rcases hv with rfl | rfl <;> rfl, hH, hblk⟩
  have c := stable_any kdOrd Try.sizeOf83 44 #[] cap n d w R hn h40 (enters_of Try.func44 (by kernel_rfl) rfl) (kdCmpLays _ _ _ _) rfl (SWK.start hH) (kdTot ht)
  clear hH R
  go_enter Try.func43, Try.ntmps43
  go_wp2_with (go_at_call 68; refine c.mono ?_; rintro e w1 ⟨rfl, dn, h1, h2, h3⟩)
  go_end0
  exact ⟨rfl, dn, h1, h2, h3⟩
end Go.Proofs.Ytknbglcmjggkjaa

/- Layer 6: rows of Sort's pairs, as the appends lay them and as the sort takes them. -/
namespace Go.Proofs.Ytknbglcmjggkjaa
open Go.RowKit Go.Shelf Go.Lib Go.Sort Sm

def kdCells (l : List Kd) : List Value := l.flatMap kdEnc
theorem kdCells_len (l : List Kd) : (kdCells l).length = l.length * 2 := by
  unfold kdCells
  induction l with
  | nil => rfl
  | cons e l ih => rw [List.flatMap_cons, List.length_append, ih, List.length_cons]; show 2 + _ = _; omega
theorem kdCells_snoc (l : List Kd) (x : Kd) : kdCells (l ++ [x]) = kdCells l ++ kdEnc x := by
  unfold kdCells
  rw [List.flatMap_append, List.flatMap_cons, List.flatMap_nil, List.append_nil]
theorem kdCells_get : ∀ (l : List Kd) (j : Nat), j < l.length * 2 → (kdCells l)[j]? = some ((kdEnc l[j / 2]!)[j % 2]!)
  | [], j, h => by simp at h
  | x :: l, 0, _ => rfl
  | x :: l, 1, _ => rfl
  | x :: l, j + 2, h => by
    have ih := kdCells_get l j (by simp only [List.length_cons] at h; omega)
    have e1 : (j + 2) / 2 = j / 2 + 1 := by omega
    have e2 : (j + 2) % 2 = j % 2 := by omega
    rw [e1, e2]
    show (kdEnc x ++ kdCells l)[j + 2]? = _
    rw [List.getElem?_append_right (by show 2 ≤ _; omega)]
    show (kdCells l)[j + 2 - 2]? = _
    rw [Nat.add_sub_cancel, ih]
    rfl
theorem kd_holds {w : World} {B g cap n : Nat} {l : List Kd} (h : w.ownsRow B 83 2 (.slice (some ⟨g, 0, none⟩) n cap) n (kdCells l)) (hn : l.length = n) : HoldsK kdEnc 2 w g 0 l.toArray := by
  intro j hj
  rw [size_flatK] at hj
  have hj' : j < n * 2 := by simpa [hn] using hj
  have c := h.cellAt j hj'
  rw [kdCells_get l j (by omega)] at c
  rw [Nat.zero_add, get_flatK _ _ _ _ hj]
  refine ⟨?_, h.frozenAt j⟩
  rw [c]
  simp
theorem kd_below {B g : Nat} {wA W : World} {d' : Array Kd} (h : SWK kdEnc 2 wA g 0 d' W) (hB : B ≤ g) (hg : g < wA.heap.size) : Below B wA W := by
  obtain ⟨n, os, rfl⟩ := h
  have e : (sortWorldK kdEnc 2 wA g 0 n d' os).heap = (wA.heap.modify g (onCells (putCells id 0 (flatK kdEnc 2 d')))) ++ os := rfl
  refine ⟨rfl, rfl, rfl, ?_, fun k hk => ?_⟩
  · rw [e, Array.size_append, Array.size_modify]
    omega
  · rw [e, Array.getElem?_append_left (by rw [Array.size_modify]; omega), Array.getElem?_modify, if_neg (by omega)]
/-- What the sort leaves, read as cells. -/
theorem kd_cells {w0 W : World} {g n : Nat} {l : List Kd} {d : Array Kd} (h : SWK kdEnc 2 w0 g 0 d W) (hH : HoldsK kdEnc 2 w0 g 0 l.toArray) (hg : g < w0.heap.size) (hs : d.size = l.length) (hn : d.size = n) :
    ∀ j, j < n → W.cell? ⟨g, j * 2, none⟩ = some (.string d[j]!.1) ∧ W.cell? ⟨g, j * 2 + 1, none⟩ = some (.string d[j]!.2.1) := by
  intro j hj
  have q := h.holds hg hH (by simpa using hs)
  have q0 := (q (j * 2) (by rw [size_flatK]; omega)).1
  have q1 := (q (j * 2 + 1) (by rw [size_flatK]; omega)).1
  rw [Nat.zero_add, get_flatK _ _ _ _ (by omega), show j * 2 / 2 = j by omega, show j * 2 % 2 = 0 by omega] at q0
  rw [Nat.zero_add, get_flatK _ _ _ _ (by omega), show (j * 2 + 1) / 2 = j by omega, show (j * 2 + 1) % 2 = 1 by omega] at q1
  exact ⟨q0, q1⟩
end Go.Proofs.Ytknbglcmjggkjaa

/- Layer 6: Sort (28) on strings without a fault. -/
namespace Go.Proofs.Ytknbglcmjggkjaa
open Go.RowKit Go.Shelf Go.Lib Go.Sort Sm Co

theorem info9 : (Try.prog.info? 9).map (fun i => (i.zero, i.size, i.bytes)) = some (some (.string ByteArray.empty), 1, 16) := by kernel_rfl
theorem info83 : (Try.prog.info? 83).map (fun i => (i.zero, i.size, i.bytes)) = some (some (.agg #[.string ByteArray.empty, .string ByteArray.empty]), 2, 32) := by kernel_rfl
theorem clone_any (s : ByteArray) (hs : s.size ≤ 281474976710656) (w : World) : Calls Try.prog 45 #[.string s] w fun e w' => e = .returned (.string s) ∧ Below w.heap.size w w' := by
  have c := Try.stringslite_Clone s w hs
  go_enter Try.func45, Try.ntmps45
  go_wp2_with (go_at_call 69; refine c.mono ?_; rintro e w1 ⟨rfl, k1⟩)
  go_ret
  exact ⟨rfl, k1⟩
/-- The pairs of Sort's. -/
def kdOf (st : Int) (nu ig uf : Bool) (l : List Sx) : List Kd := l.mapIdx fun i x => (bs (keyX st nu ig uf x), x.s, i)
theorem kdOf_snoc (st : Int) (nu ig uf : Bool) (l : List Sx) (x : Sx) : kdOf st nu ig uf (l ++ [x]) = kdOf st nu ig uf l ++ [(bs (keyX st nu ig uf x), x.s, l.length)] := by
  unfold kdOf
  rw [List.mapIdx_concat]
theorem kdOf_len (st : Int) (nu ig uf : Bool) (l : List Sx) : (kdOf st nu ig uf l).length = l.length := by unfold kdOf; rw [List.length_mapIdx]
theorem kdOf_tag (st : Int) (nu ig uf : Bool) (l : List Sx) (i : Nat) (h : i < l.length) : (Ix (kdOf st nu ig uf l).toArray i).2.2 = i := by
  unfold Ix kdOf
  simp [h]
theorem kd_new (w : World) (p q : ByteArray) (i : Nat) (t : TypeId) : ∀ j u, (kdEnc (p, q, i))[j]? = some u → (w.alloc (.cells #[.string p, .string q] t)).cell? ((⟨w.heap.size, 0, none⟩ : Addr).add j) = some u := by
  intro j u hj
  rw [show ((⟨w.heap.size, 0, none⟩ : Addr).add j) = ⟨w.heap.size, j, none⟩ by simp [Addr.add, eq_comm], World.cell?_alloc_new]
  simpa [kdEnc] using hj
theorem kd_one (x : Kd) : ∀ u ∈ kdEnc x, u.oneCell' = true := by
  intro u hu
  simp only [kdEnc, List.mem_cons, List.not_mem_nil, or_false] at hu
  rcases hu with rfl | rfl <;> rfl
def kdStrs (l : List Kd) : List Value := l.map fun x => .string x.2.1
/-- What Sort hands back. -/
def SortOk (st : Int) (nu ig uf : Bool) (l : List Sx) (w : World) (e : Ending) (w' : World) : Prop :=
  ∃ (v : Value) (d : Array Kd), e = .returned (.tuple #[v, .int .i64 0]) ∧ d.size = l.length ∧ Merged kdLt (Ix (kdOf st nu ig uf l).toArray) (Ix d) 0 l.length ∧ w'.ownsRow w.heap.size 9 1 v l.length (kdStrs d.toList) ∧ Below w.heap.size w w'
set_option maxRecDepth 100000 in
set_option maxHeartbeats 8000000 in
theorem sort_ok {l : List Sx} {n : Nat} {v : Value} (st : Int) (nu ig uf : Bool) (w : World) (hn : l.length = n) (h40 : n ≤ 40) (hsx : ∀ x ∈ l, x.s.size ≤ 4096) (h0 : faultN st l = 0) (hv : StrsAt w v l) :
    Calls Try.prog 28 #[v, opV st nu ig uf] w (SortOk st nu ig uf l w) := by
  obtain ⟨i0, hi, hz0, hz1, hz2⟩ := info_parts info83
  obtain ⟨i1, hi1, hy0, hy1, hy2⟩ := info_parts info9
  have hz := faultN_zero h0
  have KE : Hid (∀ x ∈ l, ∀ W, Calls Try.prog 21 #[.string x.s, opV st nu ig uf] W fun e w' => e = .returned (.tuple #[.string (bs (keyX st nu ig uf x)), .int .i64 0]) ∧ Below W.heap.size W w') :=
    Go.Lib.hid fun x hx W => key_err st nu ig uf (hsx x hx) (by unfold faultN; rw [if_neg (by omega), if_pos (by simpa using hz.2 x hx)]) W
  have cK := fun w' => check_any st nu ig uf w'
  rw [if_neg (by omega)] at cK
  have CK := Go.Lib.hid cK
  obtain ⟨A, m, c, rfl, hm⟩ : ∃ A m d, v = .slice A m d ∧ m = l.length := by
    rcases hv with ⟨rfl, rfl⟩ | ⟨g, cap, rfl, _⟩
    · exact ⟨_, _, _, rfl, rfl⟩
    · exact ⟨_, _, _, rfl, rfl⟩
  obtain rfl : n = m := by omega
  clear hm
  have HV := Go.Lib.hid hv
  have HN := Go.Lib.hid hn
  have HSX := Go.Lib.hid hsx
  have o1 := ObjAt.new w #[.int .i64 st, .bool nu, .bool ig, .bool uf] 23
  have hB : Below w.heap.size w (w.alloc (.cells #[.int .i64 st, .bool nu, .bool ig, .bool uf] 23)) := (Below.refl _ w).alloc (Nat.le_refl _) _
  unfold SortOk
  unfold opV at *
  clear hv hz cK hsx h0
  go_enter Try.func28, Try.ntmps28
  go_wp2_with fail
  generalize hW : w.alloc (.cells #[.int .i64 st, .bool nu, .bool ig, .bool uf] 23) = W at *
  have hWs : W.heap.size = w.heap.size + 1 := by rw [← hW]; simp
  clear hW
  have z0 := o1.o0
  have z1 := o1.o1
  have z2 := o1.o2
  have z3 := o1.o3
  refine (CK.out W).mono ?_
  rintro e w1 ⟨rfl, k1⟩
  have O := Go.Lib.hid o1
  have HB := Go.Lib.hid hB
  clear z0 z1 z2 z3 o1 hB CK
  have hk1 := k1.size
  go_wp2_with (at_make; refine wpList_make_own _ rfl _ _ 81 rfl W.heap.size 83 i0 _ 2 Try.underlying81 hi hz0 hz1 _ _ _ n rfl rfl rfl (by rw [hz2]; omega) (by unfold maxLen; omega) hk1 ?_; intro w2 hown2 hgrow2)
  have hb2 : Below W.heap.size W w2 := k1.grown hgrow2 hk1 (fun k h => by cases h)
  have HC := Go.Lib.hid (show ∀ k, k < n → ∃ x ∈ l, l.take (k + 1) = l.take k ++ [x] ∧ (l.take k).length = k ∧ ∃ g cap, Value.slice A n c = .slice (some ⟨g, 0, none⟩) n cap ∧ g < w.heap.size ∧ w.cell? ⟨g, k, none⟩ = some (.string x.s) from fun k hk => by
    have hkl : k < l.length := by rw [HN.out]; exact hk
    refine ⟨l[k], List.getElem_mem hkl, List.take_succ_eq_append_getElem hkl, by rw [List.length_take]; omega, ?_⟩
    rcases HV.out with ⟨h0, _⟩ | ⟨g, cap, hv, hg, hc⟩
    · rw [h0] at hkl; exact absurd hkl (Nat.not_lt_zero _)
    · exact ⟨g, cap, by rw [hv, HN.out], hg, hc k hkl⟩)
  clear hgrow2 k1
  go_loopw [7, 25] (fun pv kv wr => ∃ k : Nat, k ≤ n ∧ kv = .int .i64 (k : Nat) ∧ Hid (∃ g cap, pv = .slice (some ⟨g, 0, none⟩) k cap) ∧ wr.ownsRow W.heap.size 83 2 pv k (kdCells (kdOf st nu ig uf (l.take k))) ∧ Below W.heap.size W wr) (fun _ kv _ => n - (RowKit.intOf kv).toNat)
  case atStart => exact ⟨0, Nat.zero_le _, rfl, Go.Lib.hid ⟨_, _, rfl⟩, hown2, hb2⟩
  case round =>
    clear hown2 hb2
    obtain ⟨k, hk, rfl, HP, hvk, hbk⟩ := hrel
    have hsk := hbk.size
    by_cases hlt : k < n
    · have j0 : (0 : Int) ≤ (k : Int) := by omega
      have j1 : (k : Int) < (n : Int) := by omega
      obtain ⟨x, hx, ht, hlk, g, cap, he, hg, hc⟩ := HC.out k hlt
      injection he with he1 he2 he3
      subst he1 he3
      clear he2
      have c0 := (hbk.cell (p := ⟨g, k, none⟩) (show g < W.heap.size by omega)).trans ((HB.out.cell (p := ⟨g, k, none⟩) hg).trans hc)
      have cKey := KE.out _ hx wr
      have o2 := O.out.below hbk
      have z0 := o2.o0
      have z1 := o2.o1
      have z2 := o2.o2
      have z3 := o2.o3
      obtain ⟨y, hy⟩ : ∃ y : Kd, y = (bs (keyX st nu ig uf x), x.s, k) := ⟨_, rfl⟩
      have HT := Go.Lib.hid (show kdCells (kdOf st nu ig uf (l.take (k + 1))) = kdCells (kdOf st nu ig uf (l.take k)) ++ kdEnc y by
        rw [ht, kdOf_snoc, kdCells_snoc, hlk, hy])
      have ey1 : bs (keyX st nu ig uf x) = y.1 := by rw [hy]
      have ey2 : x.s = y.2.1 := by rw [hy]
      rw [ey1, ey2] at cKey
      rw [ey2] at c0
      clear hy ht hlk hc o2 ey1 ey2
      generalize kdCells (kdOf st nu ig uf (l.take k)) = cs at hvk HT
      obtain ⟨p, q, t⟩ := y
      dsimp only at c0 cKey
      go_wp2_with (first
        | (go_at_call 21; (with_reducible refine cKey.mono ?_); rintro e w3 ⟨rfl, k3⟩; have hv3 := Cp.ownsRow_below hvk k3; have s3 := k3.size)
        | (at_builtin; go_loud (refine wpList_append_own _ rfl _ _ 81 rfl W.heap.size 83 i0 _ 2 32 Try.underlying81 hi hz0 hz1 hz2 rfl (by decide) _ _ _ rfl (World.ownsRow.alloc hv3 _) ⟨w3.heap.size, 0, none⟩ 1 1 (kdEnc (p, q, t)) rfl rfl (kd_new _ p q t _) (kd_one (p, q, t)) (by unfold maxLen; omega) (by omega) (by simp; omega) ?_; intro v4 w4 hown4 hgrow4 _))
        | fail)
      refine ⟨⟨k + 1, by omega, by go_num, ?_, by rw [HT.out]; exact hown4, ((hbk.trans (k3.mono hsk)).alloc (by omega) _).grown hgrow4 (by simp; omega) (fun j e => (World.ownsRow.lt (show World.ownsRow _ _ _ _ _ _ _ from hv3) j e).1)⟩, ?_⟩
      · obtain ⟨g4, cap4, rfl⟩ := ownsRow_succ hown4
        exact Go.Lib.hid ⟨_, _, rfl⟩
      · simp [RowKit.intOf]; omega
    · have j1 : ¬ (k : Int) < (n : Int) := by omega
      obtain rfl : k = n := by omega
      rw [List.take_of_length_le (by rw [HN.out]; exact Nat.le_refl _)] at hvk
      obtain ⟨g, cap, rfl⟩ := HP.out
      have hgl := World.ownsRow.lt hvk g rfl
      have hHo := kd_holds hvk (by rw [kdOf_len, HN.out])
      have c43 := sortStable_any g 0 cap k (kdOf st nu ig uf l).toArray wr hHo hgl.2 (by simp [kdOf_len, HN.out]) h40 (fun i j hij hj => by
        rw [kdOf_tag _ _ _ _ _ _ (by rw [HN.out]; omega), kdOf_tag _ _ _ _ _ _ (by rw [HN.out]; exact hj)]; exact hij)
      have HHo := Go.Lib.hid hHo
      have hkk : (k : Int) ≤ 281474976710656 := by omega
      clear hvk hHo HP HC KE hlt
      go_wp2_with fail
      refine c43.mono ?_
      rintro e w3 ⟨rfl, dn, hdn, hmg, hsw⟩
      clear c43
      have hdk : dn.size = k := by rw [hdn]; simp [kdOf_len, HN.out]
      have b3 := kd_below (B := W.heap.size) hsw hgl.1 hgl.2
      have hcl := Go.Lib.hid (kd_cells hsw HHo.out hgl.2 (by rw [hdn]; simp) hdk)
      have hb3 := hbk.trans b3
      have hs3 := hb3.size
      have hg3 : g < w3.heap.size := Nat.lt_of_lt_of_le hgl.2 b3.size
      have HM := Go.Lib.hid hmg
      have HDK := Go.Lib.hid hdk
      have HB3 := Go.Lib.hid hb3
      clear hsw b3 hmg hdn hdk hbk hb3 HHo hgl
      go_wp2_with (at_make; refine wpList_make_own _ rfl _ _ 56 rfl w3.heap.size 9 i1 _ 1 Try.underlying56 hi1 hy0 hy1 _ _ _ k rfl rfl rfl (by rw [hy2]; omega) (by unfold maxLen; omega) (Nat.le_refl _) ?_; intro w4 hown4 hgrow4)
      have hb4 : Below w3.heap.size w3 w4 := (Below.refl w3.heap.size w3).grown hgrow4 (Nat.le_refl _) (fun k h => by cases h)
      have HD := Go.Lib.hid (show ∀ j, j < k → dn.toList.take (j + 1) = dn.toList.take j ++ [dn[j]!] ∧ dn[j]!.2.1.size ≤ 4096 from fun j hj => by
        have hjl : j < dn.toList.length := by rw [Array.length_toList, HDK.out]; exact hj
        refine ⟨by rw [List.take_succ_eq_append_getElem hjl]; congr 2; rw [getElem!_pos dn j (by rw [HDK.out]; exact hj)]; rfl, ?_⟩
        obtain ⟨q, _, q2, q3⟩ := seg_mem (HM.out.perm.subset (mem_seg (Ix dn) (Nat.zero_le j) hj))
        have hql : q < l.length := by rw [HN.out]; exact q2
        show (Ix dn j).2.1.size ≤ 4096
        rw [← q3]
        have := HSX.out l[q] (List.getElem_mem hql)
        unfold Ix kdOf
        simpa [hql] using this)
      clear hgrow4
      go_loopw [12, 52] (fun sv kv wr4 => ∃ j : Nat, j ≤ k ∧ kv = .int .i64 (j : Nat) ∧ wr4.ownsRow w3.heap.size 9 1 sv j (kdStrs (dn.toList.take j)) ∧ Below w3.heap.size w3 wr4) (fun _ kv _ => k - (RowKit.intOf kv).toNat)
      case atStart => exact ⟨0, Nat.zero_le _, rfl, hown4, hb4⟩
      case round =>
        clear hown4 hb4
        obtain ⟨j, hj, rfl, hvj, hbj⟩ := hrel
        have hsj := hbj.size
        by_cases hlt2 : j < k
        · have i0z : (0 : Int) ≤ (j : Int) := by omega
          have i1z : (j : Int) < (k : Int) := by omega
          obtain ⟨d0, d1⟩ := hcl.out j hlt2
          have c0 := (hbj.cell (p := ⟨g, j * 2, none⟩) hg3).trans d0
          have c1 := (hbj.cell (p := ⟨g, j * 2 + 1, none⟩) hg3).trans d1
          obtain ⟨ht, hsz⟩ := HD.out j hlt2
          have HT := Go.Lib.hid (show kdStrs (dn.toList.take (j + 1)) = kdStrs (dn.toList.take j) ++ [.string dn[j]!.2.1] by rw [ht]; unfold kdStrs; rw [List.map_append]; rfl)
          generalize dn[j]! = y at c0 c1 HT hsz
          generalize kdStrs (dn.toList.take j) = cs at hvj HT
          obtain ⟨p, q, t⟩ := y
          dsimp only at c0 c1 HT hsz
          have cc := fun w' => clone_any q (by omega) w'
          clear d0 d1 ht hsz
          go_wp2_with (first
            | (go_at_call 45; (with_reducible refine (cc _).mono ?_); rintro e w5 ⟨rfl, k5⟩; have hv5 := Cp.ownsRow_below (hvj.alloc _) k5; have s5 := k5.size)
            | (at_builtin; go_loud (refine wpList_append_own _ rfl _ _ 56 rfl w3.heap.size 9 i1 _ 1 16 Try.underlying56 hi1 hy0 hy1 hy2 rfl (by decide) _ _ _ rfl (World.ownsRow.alloc hv5 _) ⟨w5.heap.size, 0, none⟩ 1 1 [.string q] rfl rfl (cell_one_new _ _ _) (by intro u hu; simp at hu; subst hu; rfl) (by unfold maxLen; omega) (by omega) (by simp at s5 ⊢; omega) ?_; intro v6 w6 hown6 hgrow6 _))
            | fail)
          have s5' : wr.heap.size + 1 ≤ w5.heap.size := by simpa using s5
          refine ⟨⟨j + 1, by omega, by go_num, by rw [HT.out]; exact hown6, ((((hbj.alloc (by omega) _).trans (k5.mono (by simp; omega))).alloc (by omega) _).grown hgrow6 (by simp; omega) (fun j e => (World.ownsRow.lt (show World.ownsRow _ _ _ _ _ _ _ from hv5) j e).1))⟩, ?_⟩
          simp [RowKit.intOf]; omega
        · have j2 : ¬ (j : Int) < (k : Int) := by omega
          obtain rfl : j = k := by omega
          rw [List.take_of_length_le (by rw [Array.length_toList, HDK.out]; exact Nat.le_refl _)] at hvj
          have HVJ := Go.Lib.hid hvj
          clear hvj HD hcl
          go_wp2
          go_ret2
          refine ⟨_, rfl, dn, HDK.out, HM.out, own_mono HVJ.out (by omega), HB.out.trans ((HB3.out.trans (hbj.mono hs3)).mono (by omega))⟩
end Go.Proofs.Ytknbglcmjggkjaa

/- Layer 6: Sort (28) on strings with a fault. -/
namespace Go.Proofs.Ytknbglcmjggkjaa
open Go.RowKit Go.Shelf Go.Lib Go.Sort Sm Co

theorem key_bad {x : Sx} (st : Int) (nu ig uf : Bool) (sx : x.s.size ≤ 4096) (h : faultN st [x] = 12) (w : World) : Calls Try.prog 21 #[.string x.s, opV st nu ig uf] w fun e w' => e = .returned (.tuple #[.string (bs []), .int .i64 12]) ∧ Below w.heap.size w w' := by
  refine (key_any x.str st nu ig uf w).mono ?_
  rintro e w' ⟨rfl, hb⟩
  rw [err_one sx, h]
  exact ⟨rfl, hb⟩
/-- What Sort hands back on a fault. -/
def SortBad (er : Int) (w : World) (e : Ending) (w' : World) : Prop := e = .returned (.tuple #[.slice none 0 0, .int .i64 er]) ∧ Below w.heap.size w w'
set_option maxRecDepth 100000 in
set_option maxHeartbeats 8000000 in
theorem sort_opt {v : Value} {st : Int} (nu ig uf : Bool) (w : World) (h0 : st < 1 ∨ 4 < st) (hv : ∃ A m c, v = .slice A m c) : Calls Try.prog 28 #[v, opV st nu ig uf] w (SortBad 5 w) := by
  have cK := fun w' => check_any st nu ig uf w'
  rw [if_pos h0] at cK
  have CK := Go.Lib.hid cK
  obtain ⟨A, m, c, rfl⟩ := hv
  have hB : Below w.heap.size w (w.alloc (.cells #[.int .i64 st, .bool nu, .bool ig, .bool uf] 23)) := (Below.refl _ w).alloc (Nat.le_refl _) _
  unfold opV at *
  clear cK h0
  go_enter Try.func28, Try.ntmps28
  go_wp2_with fail
  generalize hW : w.alloc (.cells #[.int .i64 st, .bool nu, .bool ig, .bool uf] 23) = W at *
  clear hW
  refine (CK.out W).mono ?_
  rintro e w1 ⟨rfl, k1⟩
  have HB := Go.Lib.hid (hB.trans (k1.mono hB.size))
  clear k1 hB CK
  go_wp2
  go_ret2
  exact ⟨rfl, HB.out⟩
set_option maxRecDepth 100000 in
set_option maxHeartbeats 8000000 in
theorem sort_str {l : List Sx} {n : Nat} {v : Value} (st : Int) (nu ig uf : Bool) (w : World) (hn : l.length = n) (h40 : n ≤ 40) (hsx : ∀ x ∈ l, x.s.size ≤ 4096) (hst : 1 ≤ st ∧ st ≤ 4) (h0 : ¬ ∀ x ∈ l, x.bad = []) (hv : StrsAt w v l) :
    Calls Try.prog 28 #[v, opV st nu ig uf] w (SortBad 12 w) := by
  obtain ⟨i0, hi, hz0, hz1, hz2⟩ := info_parts info83
  obtain ⟨i1, hi1, hy0, hy1, hy2⟩ := info_parts info9
  have KE : Hid (∀ x ∈ l, x.bad = [] → ∀ W, Calls Try.prog 21 #[.string x.s, opV st nu ig uf] W fun e w' => e = .returned (.tuple #[.string (bs (keyX st nu ig uf x)), .int .i64 0]) ∧ Below W.heap.size W w') :=
    Go.Lib.hid fun x hx hb W => key_err st nu ig uf (hsx x hx) (by unfold faultN; rw [if_neg (by omega), if_pos (by simpa using hb)]) W
  have KB : Hid (∀ x ∈ l, ¬ x.bad = [] → ∀ W, Calls Try.prog 21 #[.string x.s, opV st nu ig uf] W fun e w' => e = .returned (.tuple #[.string (bs []), .int .i64 12]) ∧ Below W.heap.size W w') :=
    Go.Lib.hid fun x hx hb W => key_bad st nu ig uf (hsx x hx) (by unfold faultN; rw [if_neg (by omega), if_neg (by simpa using hb)]) W
  have H0 := Go.Lib.hid h0
  have cK := fun w' => check_any st nu ig uf w'
  rw [if_neg (by omega)] at cK
  have CK := Go.Lib.hid cK
  obtain ⟨A, m, c, rfl, hm⟩ : ∃ A m d, v = .slice A m d ∧ m = l.length := by
    rcases hv with ⟨rfl, rfl⟩ | ⟨g, cap, rfl, _⟩
    · exact ⟨_, _, _, rfl, rfl⟩
    · exact ⟨_, _, _, rfl, rfl⟩
  obtain rfl : n = m := by omega
  clear hm
  have HV := Go.Lib.hid hv
  have HN := Go.Lib.hid hn
  have HSX := Go.Lib.hid hsx
  have o1 := ObjAt.new w #[.int .i64 st, .bool nu, .bool ig, .bool uf] 23
  have hB : Below w.heap.size w (w.alloc (.cells #[.int .i64 st, .bool nu, .bool ig, .bool uf] 23)) := (Below.refl _ w).alloc (Nat.le_refl _) _
  unfold SortBad
  unfold opV at *
  clear hv cK hsx h0 hst
  go_enter Try.func28, Try.ntmps28
  go_wp2_with fail
  generalize hW : w.alloc (.cells #[.int .i64 st, .bool nu, .bool ig, .bool uf] 23) = W at *
  have hWs : W.heap.size = w.heap.size + 1 := by rw [← hW]; simp
  clear hW
  have z0 := o1.o0
  have z1 := o1.o1
  have z2 := o1.o2
  have z3 := o1.o3
  refine (CK.out W).mono ?_
  rintro e w1 ⟨rfl, k1⟩
  have O := Go.Lib.hid o1
  have HB := Go.Lib.hid hB
  clear z0 z1 z2 z3 o1 hB CK
  have hk1 := k1.size
  go_wp2_with (at_make; refine wpList_make_own _ rfl _ _ 81 rfl W.heap.size 83 i0 _ 2 Try.underlying81 hi hz0 hz1 _ _ _ n rfl rfl rfl (by rw [hz2]; omega) (by unfold maxLen; omega) hk1 ?_; intro w2 hown2 hgrow2)
  have hb2 : Below W.heap.size W w2 := k1.grown hgrow2 hk1 (fun k h => by cases h)
  have HC := Go.Lib.hid (show ∀ k, k < n → ∃ x ∈ l, l.take (k + 1) = l.take k ++ [x] ∧ (l.take k).length = k ∧ ∃ g cap, Value.slice A n c = .slice (some ⟨g, 0, none⟩) n cap ∧ g < w.heap.size ∧ w.cell? ⟨g, k, none⟩ = some (.string x.s) from fun k hk => by
    have hkl : k < l.length := by rw [HN.out]; exact hk
    refine ⟨l[k], List.getElem_mem hkl, List.take_succ_eq_append_getElem hkl, by rw [List.length_take]; omega, ?_⟩
    rcases HV.out with ⟨h0, _⟩ | ⟨g, cap, hv, hg, hc⟩
    · rw [h0] at hkl; exact absurd hkl (Nat.not_lt_zero _)
    · exact ⟨g, cap, by rw [hv, HN.out], hg, hc k hkl⟩)
  clear hgrow2 k1
  go_loopw [7, 25] (fun pv kv wr => ∃ k : Nat, k ≤ n ∧ kv = .int .i64 (k : Nat) ∧ Hid (∀ x ∈ l.take k, x.bad = []) ∧ wr.ownsRow W.heap.size 83 2 pv k (kdCells (kdOf st nu ig uf (l.take k))) ∧ Below W.heap.size W wr) (fun _ kv _ => n - (RowKit.intOf kv).toNat)
  case atStart => exact ⟨0, Nat.zero_le _, rfl, Go.Lib.hid (by simp), hown2, hb2⟩
  case round =>
    clear hown2 hb2
    obtain ⟨k, hk, rfl, HP, hvk, hbk⟩ := hrel
    have hsk := hbk.size
    by_cases hlt : k < n
    · have j0 : (0 : Int) ≤ (k : Int) := by omega
      have j1 : (k : Int) < (n : Int) := by omega
      obtain ⟨x, hx, ht, hlk, g, cap, he, hg, hc⟩ := HC.out k hlt
      injection he with he1 he2 he3
      subst he1 he3
      clear he2
      have c0 := (hbk.cell (p := ⟨g, k, none⟩) (show g < W.heap.size by omega)).trans ((HB.out.cell (p := ⟨g, k, none⟩) hg).trans hc)
      have o2 := O.out.below hbk
      have z0 := o2.o0
      have z1 := o2.o1
      have z2 := o2.o2
      have z3 := o2.o3
      by_cases hbad : x.bad = []
      · skip
        obtain ⟨y, hy⟩ : ∃ y : Kd, y = (bs (keyX st nu ig uf x), x.s, k) := ⟨_, rfl⟩
        have cKey := KE.out x hx hbad wr
        have HGd := Go.Lib.hid (show ∀ z ∈ l.take (k + 1), z.bad = [] from fun z hz => by
          rw [ht] at hz
          rcases List.mem_append.1 hz with hz | hz
          · exact HP.out z hz
          · rw [List.mem_singleton.1 hz]; exact hbad)
        have HT := Go.Lib.hid (show kdCells (kdOf st nu ig uf (l.take (k + 1))) = kdCells (kdOf st nu ig uf (l.take k)) ++ kdEnc y by
          rw [ht, kdOf_snoc, kdCells_snoc, hlk, hy])
        have ey1 : bs (keyX st nu ig uf x) = y.1 := by rw [hy]
        have ey2 : x.s = y.2.1 := by rw [hy]
        rw [ey1, ey2] at cKey
        rw [ey2] at c0
        clear hy ht hlk hc o2 ey1 ey2
        generalize kdCells (kdOf st nu ig uf (l.take k)) = cs at hvk HT
        obtain ⟨p, q, t⟩ := y
        dsimp only at c0 cKey
        go_wp2_with (first
          | (go_at_call 21; (with_reducible refine cKey.mono ?_); rintro e w3 ⟨rfl, k3⟩; have hv3 := Cp.ownsRow_below hvk k3; have s3 := k3.size)
          | (at_builtin; go_loud (refine wpList_append_own _ rfl _ _ 81 rfl W.heap.size 83 i0 _ 2 32 Try.underlying81 hi hz0 hz1 hz2 rfl (by decide) _ _ _ rfl (World.ownsRow.alloc hv3 _) ⟨w3.heap.size, 0, none⟩ 1 1 (kdEnc (p, q, t)) rfl rfl (kd_new _ p q t _) (kd_one (p, q, t)) (by unfold maxLen; omega) (by omega) (by simp; omega) ?_; intro v4 w4 hown4 hgrow4 _))
          | fail)
        refine ⟨⟨k + 1, by omega, by go_num, ?_, by rw [HT.out]; exact hown4, ((hbk.trans (k3.mono hsk)).alloc (by omega) _).grown hgrow4 (by simp; omega) (fun j e => (World.ownsRow.lt (show World.ownsRow _ _ _ _ _ _ _ from hv3) j e).1)⟩, ?_⟩
        · exact HGd
        · simp [RowKit.intOf]; omega
      · have cKey := KB.out x hx hbad wr
        have HBx := Go.Lib.hid hbad
        have HB1 := Go.Lib.hid (HB.out.trans (hbk.mono (by omega)))
        clear ht hlk hc o2 hbad
        go_wp2_with (go_at_call 21; (with_reducible refine cKey.mono ?_); rintro e w3 ⟨rfl, k3⟩)
        go_ret2
        exact ⟨rfl, HB1.out.trans (k3.mono (by omega))⟩
    · exfalso
      obtain rfl : k = n := by omega
      have h := HP.out
      rw [List.take_of_length_le (by rw [HN.out]; exact Nat.le_refl _)] at h
      exact H0.out h
end Go.Proofs.Ytknbglcmjggkjaa

/- Layer 6: what the law's own insertion gives, plainly. -/
namespace Go.Proofs.Ytknbglcmjggkjaa
open Go.RowKit Go.Shelf Go.Lib Go.Sort Sm Co

theorem kd_anti (x y : Kd) : kdCmp x y = 0 - kdCmp y x := by unfold kdCmp; exact Co.cb_anti _ _
/-- One pair goes to its place, behind all that are not greater. -/
theorem ins_ok {W : List Kd} {x : Kd} {p : Nat} (hs : W.Pairwise kdLt) (ht : ∀ y ∈ W, y.2.2 < x.2.2) (h1 : p = 0 ∨ ∃ y, W[p - 1]? = some y ∧ ¬ 0 < kdCmp y x) (h2 : ∀ y ∈ W.drop p, 0 < kdCmp y x) :
    (W.take p ++ x :: W.drop p).Pairwise kdLt ∧ (W.take p ++ x :: W.drop p).Perm (W ++ [x]) := by
  have hs' := hs
  rw [← List.take_append_drop p W, List.pairwise_append] at hs'
  obtain ⟨ha, hb, hab⟩ := hs'
  constructor
  · rw [List.pairwise_append, List.pairwise_cons]
    have hx : ∀ y ∈ W.drop p, kdLt x y := fun y hy => .inl (by have := h2 y hy; have := kd_anti x y; omega)
    refine ⟨ha, ⟨hx, hb⟩, fun a ha' b hb' => ?_⟩
    rcases List.mem_cons.1 hb' with rfl | hb'
    · rcases h1 with rfl | ⟨y, hy, hc⟩
      · simp at ha'
      · obtain ⟨hlt, rfl⟩ := List.getElem?_eq_some_iff.1 hy
        have hyx : kdLt W[p - 1] b := by
          have := ht _ (List.getElem_mem hlt)
          unfold kdLt
          omega
        obtain ⟨i, hi, rfl⟩ := List.mem_iff_getElem.1 ha'
        rw [List.length_take] at hi
        rw [List.getElem_take]
        by_cases e : i = p - 1
        · subst e; exact hyx
        · exact kdOrd.trans (List.pairwise_iff_getElem.1 hs i (p - 1) (by omega) hlt (by omega)) hyx
    · exact hab a ha' b hb'
  · have e : W ++ [x] = W.take p ++ (W.drop p ++ [x]) := by rw [← List.append_assoc, List.take_append_drop]
    rw [e]
    exact List.Perm.append_left _ (List.perm_append_singleton x (W.drop p)).symm
theorem seg_all (d : Array Kd) : seg (Ix d) 0 d.size = d.toList := by
  unfold seg
  refine List.ext_getElem (by simp) fun i h1 h2 => ?_
  simp [Ix] at h1 h2 ⊢
  simp [h1]
/-- The law's own list is Sort's. -/
theorem want_same {l : List Kd} {W : List Kd} {dn : Array Kd} {n : Nat} (hn : l.length = n) (hd : dn.size = n) (hs : W.Pairwise kdLt) (hp : W.Perm l) (hm : Merged kdLt (Ix l.toArray) (Ix dn) 0 n) : W = dn.toList := by
  have h1 := srt_pairwise hm.srt
  have h2 := hm.perm
  have e1 : seg (Ix dn) 0 n = dn.toList := by rw [← hd]; exact seg_all dn
  have e2 : seg (Ix l.toArray) 0 n = l := by
    have := seg_all l.toArray
    rw [← hn]
    simpa using this
  rw [e1] at h1
  rw [e1, e2] at h2
  exact sorted_unique kdOrd hs h1 (hp.trans h2.symm)
end Go.Proofs.Ytknbglcmjggkjaa

/- Layer 6: the strings that the law of sorting is given, cut. -/
namespace Go.Proofs.Ytknbglcmjggkjaa
open Go.RowKit Go.Shelf Go.Lib Go.Sort Sm Co

/-- A row of strings that came in. -/
def StrsIn (w : World) (v : Value) : Prop :=
  v = .slice none 0 0 ∨ ∃ (a : Addr) (len cap : Nat) (S : Nat → ByteArray), v = .slice (some a) len cap ∧ (0 < len → a.block < w.heap.size) ∧ len ≤ cap ∧ cap ≤ maxLen ∧ ∀ i, i < len → w.cell? (a.add i) = some (.string (S i)) ∧ (S i).size ≤ maxLen
/-- The cut strings, with their points. -/
theorem cuts_ex (S : Nat → ByteArray) : ∀ n, ∃ l : List Sx, l.length = n ∧ (∀ x ∈ l, x.s.size ≤ 200) ∧ ∀ i (h : i < l.length), l[i].s = cutS (S i)
  | 0 => ⟨[], rfl, fun x h => by simp at h, fun i h => by simp at h⟩
  | n + 1 => by
    obtain ⟨l, h1, h2, h3⟩ := cuts_ex S n
    obtain ⟨x, hx⟩ := Sx.ex (cutS (S n)) (by have := cutS_size (S n); omega)
    refine ⟨l ++ [x], by simp [h1], fun y hy => ?_, fun i h => ?_⟩
    · rcases List.mem_append.1 hy with hy | hy
      · exact h2 y hy
      · rw [List.mem_singleton.1 hy, hx]; exact cutS_size _
    · by_cases hi : i < l.length
      · rw [List.getElem_append_left hi]; exact h3 i hi
      · rw [List.length_append, List.length_singleton] at h
        rw [List.getElem_append_right (by omega)]
        simp only [List.getElem_singleton]
        rw [hx, show i = n by omega]
/-- A row that the law built is a row as Sort and fault take it. -/
theorem strsAt_row {w : World} {B : Nat} {v : Value} {l : List Sx} {n : Nat} (h : w.ownsRow B 9 1 v n (l.map fun x => .string x.s)) (hn : l.length = n) : StrsAt w v l := by
  by_cases h0 : 0 < n
  · obtain ⟨k, rfl⟩ : ∃ k, n = k + 1 := ⟨n - 1, by omega⟩
    obtain ⟨g, cap, rfl⟩ := ownsRow_succ h
    refine .inr ⟨g, cap, by rw [hn], (World.ownsRow.lt h g rfl).2, fun j hj => ?_⟩
    have := h.cellAt j (by omega)
    rw [this]
    simp [hj]
  · obtain rfl : l = [] := List.eq_nil_of_length_eq_zero (by omega)
    obtain rfl : n = 0 := by omega
    obtain ⟨_, h | ⟨g, cap, cur, rfl, hb, hg, _⟩⟩ := h
    · exact .inl ⟨rfl, h.1⟩
    · exact .inr ⟨g, cap, rfl, (Array.getElem?_eq_some_iff.1 hg).1, fun j hj => by simp at hj⟩
/-- What Sort answers, on any strings. -/
theorem sort_any {l : List Sx} {n : Nat} {v : Value} (st : Int) (nu ig uf : Bool) (w : World) (hn : l.length = n) (h40 : n ≤ 40) (hsx : ∀ x ∈ l, x.s.size ≤ 4096) (hv : StrsAt w v l) :
    Calls Try.prog 28 #[v, opV st nu ig uf] w fun e w' => (faultN st l = 0 → SortOk st nu ig uf l w e w') ∧ (faultN st l ≠ 0 → SortBad (faultN st l) w e w') := by
  by_cases h0 : faultN st l = 0
  · exact (sort_ok st nu ig uf w hn h40 hsx h0 hv).mono fun e w' h => ⟨fun _ => h, fun g => absurd h0 g⟩
  · by_cases h1 : st < 1 ∨ 4 < st
    · have e : faultN st l = 5 := by unfold faultN; rw [if_pos h1]
      rw [e]
      refine (sort_opt nu ig uf w h1 ?_).mono fun e w' h => ⟨fun g => by omega, fun _ => h⟩
      rcases hv with ⟨_, rfl⟩ | ⟨g, cap, rfl, _⟩
      · exact ⟨_, _, _, rfl⟩
      · exact ⟨_, _, _, rfl⟩
    · have h2 : ¬ ∀ x ∈ l, x.bad = [] := fun h => h0 (by unfold faultN; rw [if_neg h1, if_pos h])
      have e : faultN st l = 12 := by unfold faultN; rw [if_neg h1, if_neg h2]
      rw [e]
      exact (sort_str st nu ig uf w hn h40 hsx (by omega) h2 hv).mono fun e w' h => ⟨fun g => by omega, fun _ => h⟩
end Go.Proofs.Ytknbglcmjggkjaa

/- Layer 6: the appends of the law of sorting: onto one new cell, and onto a list without room. -/
namespace Go.Proofs.Ytknbglcmjggkjaa
open Go.RowKit Go.Shelf Go.Lib Go.Sort Sm Co

theorem add_lit0 (g j : Nat) : ((⟨g, 0, none⟩ : Addr).add j) = ⟨g, j, none⟩ := by unfold Addr.add; split <;> simp_all
theorem append_in {w : World} {base : Nat} {v : Value} {n : Nat} {xs : List Value} (ty : TypeId) (hown : w.ownsRow base 9 1 v n xs) (ax : Option Addr) (m c : Nat) (news : List Value) (hl : news.length = m)
    (hx : (ax = none ∧ m = 0 ∧ c = 0) ∨ ∃ ad, ax = some ad ∧ ∀ j u, news[j]? = some u → w.cell? (ad.add j) = some u) (h1 : ∀ u ∈ news, u.oneCell' = true) (hn : n + m ≤ 1000) (hbase : base ≤ w.heap.size) :
    ∃ v' w', (Builtin.append_ #[56, 56] ty #[v, .slice ax m c]).run Try.prog w = .ok v' w' ∧ w'.ownsRow base 9 1 v' (n + m) (xs ++ news) ∧ w.grownBy w' v.ownBlock := by
  obtain ⟨i1, hi1, hy0, hy1, hy2⟩ := info_parts info9
  rcases hx with ⟨rfl, rfl, rfl⟩ | ⟨ad, rfl, hnews⟩
  · obtain rfl : news = [] := List.eq_nil_of_length_eq_zero hl
    refine ⟨v, w, run_append_owned_none (P := Try.prog) (w := w) base 56 ty 9 i1 1 Try.underlying56 hi1 v n xs hown, by simpa using hown, ⟨rfl, rfl, rfl, Nat.le_refl _, fun _ _ _ => rfl⟩⟩
  · obtain ⟨v', w', hr, h2, h3, _⟩ := run_append_own (P := Try.prog) w base 56 ty 9 i1 _ 1 16 Try.underlying56 hi1 hy0 hy1 hy2 rfl (by decide) v n xs hown ad m c news (by omega) hnews h1 (by unfold maxLen; omega) (by omega) hbase
    exact ⟨v', w', hr, h2, h3⟩
theorem append_full {w : World} {base bx : Nat} (ty : TypeId) (B : Option Addr) (p : Nat) (olds : List Value) (hlo : olds.length = p) (hB : (B = none ∧ p = 0) ∨ ∃ g, B = some ⟨g, 0, none⟩ ∧ ∀ j u, olds[j]? = some u → w.cell? ⟨g, j, none⟩ = some u)
    {vx : Value} {n : Nat} {news : List Value} (hx : w.ownsRow bx 9 1 vx n news) (hn0 : 0 < n) (hn : p + n ≤ 1000) (hbase : base ≤ w.heap.size) :
    ∃ v' w', (Builtin.append_ #[56, 56] ty #[.slice B p p, vx]).run Try.prog w = .ok v' w' ∧ w'.ownsRow base 9 1 v' (p + n) (olds ++ news) ∧ w.grownBy w' none := by
  obtain ⟨i1, hi1, hy0, hy1, hy2⟩ := info_parts info9
  obtain ⟨g, cap, rfl⟩ : ∃ g cap, vx = .slice (some ⟨g, 0, none⟩) n cap := by
    obtain ⟨nn, rfl⟩ : ∃ nn, n = nn + 1 := ⟨n - 1, by omega⟩
    exact ownsRow_succ hx
  have hl : news.length = n := by have := hx.1; omega
  have hnews : ∀ j u, news[j]? = some u → w.cell? ((⟨g, 0, none⟩ : Addr).add j) = some u := hx.cells (g := g) rfl
  have grown : ∀ old : Nat, old < p + n →
      (w.drew.alloc (.cells (olds.toArray ++ news.toArray ++ Builtin.zeroCells (Value.string ByteArray.empty).cells (grownCap w (p + n) old 9 - (p + n))) 9)).ownsRow base 9 1 (.slice (some ⟨w.heap.size, 0, none⟩) (p + n) (grownCap w (p + n) old 9)) (p + n) (olds ++ news) ∧
      w.grownBy (w.drew.alloc (.cells (olds.toArray ++ news.toArray ++ Builtin.zeroCells (Value.string ByteArray.empty).cells (grownCap w (p + n) old 9 - (p + n))) 9)) none := by
    intro old ho
    have hge := grownCap_ge w (p + n) old 9
    have hcm : grownCap w (p + n) old 9 ≤ maxLen := grownCap_le_maxLen w (p + n) old 9 (by unfold maxLen; omega)
    refine ⟨⟨by rw [List.length_append]; omega, .inr ⟨w.heap.size, _, _, rfl, hbase, heap_alloc_new w.drew _, hge, hcm, ?_, ?_⟩⟩, ⟨rfl, rfl, rfl, by simp, fun k hk _ => heap_alloc_old w.drew _ hk⟩⟩
    · have hz : (Value.string ByteArray.empty).cells.size = 1 := rfl
      simp only [Array.size_append, List.size_toArray, size_zeroCells, hlo, hl, hz]
      omega
    · simp only [Array.toList_append, List.append_assoc]
      rw [← List.append_assoc]
      exact List.take_left' (by rw [List.length_append]; omega)
  rcases hB with ⟨rfl, rfl⟩ | ⟨gb, rfl, holds⟩
  · obtain rfl : olds = [] := List.eq_nil_of_length_eq_zero hlo
    have hr := run_append_nil (P := Try.prog) w 56 ty 9 i1 _ Try.underlying56 hi1 hy0 ⟨g, 0, none⟩ n cap news (by rw [hy1]; omega) hnews hn0 (by omega) (by rw [hy2]; omega)
    have hgr := grown 0 (by omega)
    simp only [Nat.zero_add, List.nil_append, Array.empty_append] at hgr ⊢
    exact ⟨_, _, hr, hgr.1, hgr.2⟩
  · have hr := run_append_grow (P := Try.prog) w 56 ty 9 i1 _ Try.underlying56 hi1 hy0 ⟨gb, 0, none⟩ p p olds (by rw [hy1]; omega) (fun j u hj => (congrArg w.cell? (add_lit0 gb j)).trans (holds j u hj)) ⟨g, 0, none⟩ n cap news (by rw [hy1]; omega) hnews (by omega) (by omega) (by rw [hy2]; exact growslice_fits (by omega) (by omega))
    have hgr := grown p (by omega)
    exact ⟨_, _, hr, hgr.1, hgr.2⟩
theorem full_nil (gq : Nat) (w : World) : ((some (⟨gq, 0, none⟩ : Addr) = none ∧ (0 : Nat) = 0) ∨ ∃ g, some (⟨gq, 0, none⟩ : Addr) = some ⟨g, 0, none⟩ ∧ ∀ j u, ([] : List Value)[j]? = some u → w.cell? ⟨g, j, none⟩ = some u) := .inr ⟨gq, rfl, fun j u hu => by simp at hu⟩
theorem full_none (w : World) : (((none : Option Addr) = none ∧ (0 : Nat) = 0) ∨ ∃ g, (none : Option Addr) = some ⟨g, 0, none⟩ ∧ ∀ j u, ([] : List Value)[j]? = some u → w.cell? ⟨g, j, none⟩ = some u) := .inl ⟨rfl, rfl⟩
section
variable {w : World} {ops : Array Oper} {o : Oper} {a : Act} {K : Act → World → Prop} {Q : Exit → Act → World → Prop} {E : Prop}
theorem step_in (hgd : o.guard = none) (s x : Operand) (ho : o.op = .call { callee := .builtin .append, args := #[s, x], argTypes := #[56, 56] })
    (base : Nat) (v : Value) (n : Nat) (xs : List Value) (hs : a.eval s = v) (hown : w.ownsRow base 9 1 v n xs) (ax : Option Addr) (m c : Nat) (news : List Value) (hx : a.eval x = .slice ax m c) (hl : news.length = m)
    (hxx : (ax = none ∧ m = 0 ∧ c = 0) ∨ ∃ ad, ax = some ad ∧ ∀ j u, news[j]? = some u → w.cell? (ad.add j) = some u) (h1 : ∀ u ∈ news, u.oneCell' = true) (hn : n + m ≤ 1000) (hbase : base ≤ w.heap.size)
    (h : ∀ v' w', w'.ownsRow base 9 1 v' (n + m) (xs ++ news) → w.grownBy w' v.ownBlock → K (a.put o.dst v') w') :
    if Region.wanted o (yielded ops a.tmps) = true then Oper.wp Try.prog o a w K Q else E := by
  have hw : Region.wanted o (yielded ops a.tmps) = true := by simp [Region.wanted, hgd]
  rw [if_pos hw]
  obtain ⟨v', w', hr, h2, h3⟩ := append_in o.type hown ax m c news hl hxx h1 hn hbase
  unfold Oper.wp execOp
  simp only [ho, resolve, invoke, builtin, Sem.run_bind, Sem.run_pure, Result.andThen_ok, List.map_toArray, List.map_cons, List.map_nil, hs, hx, hr]
  exact h v' w' h2 h3
theorem step_full (hgd : o.guard = none) (s x : Operand) (ho : o.op = .call { callee := .builtin .append, args := #[s, x], argTypes := #[56, 56] })
    (base bx : Nat) (B : Option Addr) (p : Nat) (olds : List Value) (hs : a.eval s = .slice B p p) (hlo : olds.length = p) (hB : (B = none ∧ p = 0) ∨ ∃ g, B = some ⟨g, 0, none⟩ ∧ ∀ j u, olds[j]? = some u → w.cell? ⟨g, j, none⟩ = some u)
    (vx : Value) (n : Nat) (news : List Value) (hv : a.eval x = vx) (hx : w.ownsRow bx 9 1 vx n news) (hn0 : 0 < n) (hn : p + n ≤ 1000) (hbase : base ≤ w.heap.size)
    (h : ∀ v' w', w'.ownsRow base 9 1 v' (p + n) (olds ++ news) → w.grownBy w' none → K (a.put o.dst v') w') :
    if Region.wanted o (yielded ops a.tmps) = true then Oper.wp Try.prog o a w K Q else E := by
  have hw : Region.wanted o (yielded ops a.tmps) = true := by simp [Region.wanted, hgd]
  rw [if_pos hw]
  obtain ⟨v', w', hr, h2, h3⟩ := append_full (base := base) o.type B p olds hlo hB hx hn0 hn hbase
  unfold Oper.wp execOp
  simp only [ho, resolve, invoke, builtin, Sem.run_bind, Sem.run_pure, Result.andThen_ok, List.map_toArray, List.map_cons, List.map_nil, hs, hv, hr]
  exact h v' w' h2 h3
end
end Go.Proofs.Ytknbglcmjggkjaa
