/- Layer 22: tables in the order of their times, plainly; SortStableFunc (49), Chronological (35). -/
import Derived.Test.YtmpklkhjipclmaaVC
import Derived.Test.YtmpklkhjipclmaaVD
namespace Go.Proofs.Ytmpklkhjipclmaa
open Go.RowKit Go.Shelf Go.Lib Go.Sort Sm
set_option linter.unusedVariables false

instance (x y : Rv) : Decidable (Lt2 x y) := inferInstanceAs (Decidable (_ ∨ _))
/-- One more revision in its place: behind all that it does not come ahead of. -/
def insR (L : List Rv) (x : Rv) : List Rv := L.filter (fun y => !decide (Lt2 x y)) ++ x :: L.filter (fun y => decide (Lt2 x y))
def chr (l : List Rv) : List Rv := l.foldl insR []
theorem chr_snoc (l : List Rv) (x : Rv) : chr (l ++ [x]) = insR (chr l) x := by unfold chr; rw [List.foldl_append]; rfl
/-- In order, weakly. -/
def WSrt (L : List Rv) : Prop := L.Pairwise (fun a b => ¬ Lt2 b a)
theorem lt2_trans {x y z : Rv} : Lt2 x y → Lt2 y z → Lt2 x z := by unfold Lt2; omega
theorem lt2_asymm {x y : Rv} : Lt2 x y → ¬ Lt2 y x := by unfold Lt2; omega
theorem insR_srt {L : List Rv} {x : Rv} (h : WSrt L) : WSrt (insR L x) := by
  unfold WSrt insR
  refine List.pairwise_append.2 ⟨List.Pairwise.filter _ h, List.pairwise_cons.2 ⟨fun a ha => ?_, List.Pairwise.filter _ h⟩, fun a ha b hb => ?_⟩
  · have h1 : Lt2 x a := by simpa using (List.mem_filter.1 ha).2
    exact lt2_asymm h1
  · have h1 : ¬ Lt2 x a := by simpa using (List.mem_filter.1 ha).2
    rcases List.mem_cons.1 hb with rfl | hb
    · exact h1
    · have h2 : Lt2 x b := by simpa using (List.mem_filter.1 hb).2
      exact fun h3 => h1 (lt2_trans h2 h3)
theorem chr_srt (l : List Rv) : WSrt (chr l) := by
  have : ∀ (l L : List Rv), WSrt L → WSrt (l.foldl insR L) := by
    intro l
    induction l with
    | nil => intro L h; exact h
    | cons a l ih => intro L h; exact ih _ (insR_srt h)
  exact this l [] List.Pairwise.nil
theorem filter_perm {β : Type} (p : β → Bool) (l : List β) : (l.filter (fun y => !p y) ++ l.filter p).Perm l := by
  induction l with
  | nil => exact List.Perm.refl _
  | cons a l ih =>
    cases h : p a with
    | true =>
      rw [List.filter_cons_of_neg (by simp [h]), List.filter_cons_of_pos h]
      exact List.perm_middle.trans (ih.cons a)
    | false =>
      rw [List.filter_cons_of_pos (by simp [h]), List.filter_cons_of_neg (by simp [h]), List.cons_append]
      exact ih.cons a
theorem insR_perm (L : List Rv) (x : Rv) : (insR L x).Perm (x :: L) := by
  unfold insR
  exact List.perm_middle.trans ((filter_perm (fun y => decide (Lt2 x y)) L).cons x)
theorem chr_perm (l : List Rv) : (chr l).Perm l := by
  have : ∀ (l L : List Rv), (l.foldl insR L).Perm (L ++ l) := by
    intro l
    induction l with
    | nil => intro L; rw [List.append_nil]; exact List.Perm.refl _
    | cons a l ih =>
      intro L
      refine (ih (insR L a)).trans ?_
      refine ((insR_perm L a).append_right l).trans ?_
      rw [List.cons_append]
      exact List.perm_middle.symm
  have h := this l []
  rw [List.nil_append] at h
  exact h
theorem chr_len (l : List Rv) : (chr l).length = l.length := (chr_perm l).length_eq
/-- The same with the places that the revisions began at. -/
def insK (L : List Kd) (x : Kd) : List Kd := L.filter (fun y => !decide (Lt2 x.1 y.1)) ++ x :: L.filter (fun y => decide (Lt2 x.1 y.1))
theorem insK_fst (L : List Kd) (x : Kd) : (insK L x).map (·.1) = insR (L.map (·.1)) x.1 := by
  unfold insK insR
  rw [List.map_append, List.map_cons, List.filter_map, List.filter_map]
  rfl
def tagged (l : List Rv) : List Kd := l.mapIdx fun i x => (x, i)
theorem tagged_snoc (l : List Rv) (x : Rv) : tagged (l ++ [x]) = tagged l ++ [(x, l.length)] := by unfold tagged; rw [List.mapIdx_concat]
theorem tagged_len (l : List Rv) : (tagged l).length = l.length := by unfold tagged; rw [List.length_mapIdx]
theorem tagged_fst (l : List Rv) : (tagged l).map (·.1) = l := by
  unfold tagged
  apply List.ext_getElem (by simp)
  intro i h1 h2
  simp
theorem tagged_tag (l : List Rv) (i : Nat) (h : i < l.length) : (Ix (tagged l).toArray i).2 = i := by
  unfold Ix tagged
  simp [h]
def chrK (l : List Kd) : List Kd := l.foldl insK []
theorem chrK_fst (l : List Rv) : (chrK (tagged l)).map (·.1) = chr l := by
  have : ∀ (l L : List Kd), (l.foldl insK L).map (·.1) = (l.map (·.1)).foldl insR (L.map (·.1)) := by
    intro l
    induction l with
    | nil => intro L; rfl
    | cons a l ih => intro L; rw [List.foldl_cons, ih, insK_fst, List.map_cons, List.foldl_cons]
  have h := this (tagged l) []
  rw [tagged_fst] at h
  exact h
theorem insK_perm (L : List Kd) (x : Kd) : (insK L x).Perm (x :: L) := by
  unfold insK
  exact List.perm_middle.trans ((filter_perm (fun y => decide (Lt2 x.1 y.1)) L).cons x)
theorem chrK_perm (l : List Kd) : (chrK l).Perm l := by
  have : ∀ (l L : List Kd), (l.foldl insK L).Perm (L ++ l) := by
    intro l
    induction l with
    | nil => intro L; rw [List.append_nil]; exact List.Perm.refl _
    | cons a l ih =>
      intro L
      refine (ih (insK L a)).trans ?_
      refine ((insK_perm L a).append_right l).trans ?_
      rw [List.cons_append]
      exact List.perm_middle.symm
  have h := this l []
  rw [List.nil_append] at h
  exact h
theorem insK_srt {L : List Kd} {x : Kd} (h : L.Pairwise kdLt) (ht : ∀ y ∈ L, y.2 < x.2) : (insK L x).Pairwise kdLt := by
  unfold insK
  have h1 : ∀ a ∈ L.filter (fun y => !decide (Lt2 x.1 y.1)), kdLt a x := fun a ha => by
    obtain ⟨m, hm⟩ := List.mem_filter.1 ha
    have h1 : ¬ Lt2 x.1 a.1 := by simpa using hm
    have c := rvCmp_lt a.1 x.1
    have t := ht a m
    unfold kdLt kdCmp
    unfold Lt2 at c h1
    omega
  have h2 : ∀ a ∈ L.filter (fun y => decide (Lt2 x.1 y.1)), kdLt x a := fun a ha => by
    have h1 : Lt2 x.1 a.1 := by simpa using (List.mem_filter.1 ha).2
    exact .inl ((rvCmp_lt x.1 a.1).1.2 h1)
  refine List.pairwise_append.2 ⟨List.Pairwise.filter _ h, List.pairwise_cons.2 ⟨h2, List.Pairwise.filter _ h⟩, fun a ha b hb => ?_⟩
  rcases List.mem_cons.1 hb with rfl | hb
  · exact h1 a ha
  · exact kdOrd.trans (h1 a ha) (h2 b hb)
theorem chrK_srt (l : List Rv) : (chrK (tagged l)).Pairwise kdLt := by
  have key : ∀ k, k ≤ l.length → (chrK (tagged (l.take k))).Pairwise kdLt ∧ ∀ y ∈ chrK (tagged (l.take k)), y.2 < k := by
    intro k
    induction k with
    | zero => intro _; rw [List.take_zero]; exact ⟨List.Pairwise.nil, fun y hy => by cases hy⟩
    | succ k ih =>
      intro hk
      obtain ⟨h1, h2⟩ := ih (by omega)
      rw [List.take_succ_eq_append_getElem (show k < l.length by omega), tagged_snoc]
      have e : chrK (tagged (l.take k) ++ [(l[k]'(by omega), (l.take k).length)]) = insK (chrK (tagged (l.take k))) (l[k]'(by omega), (l.take k).length) := by unfold chrK; rw [List.foldl_append]; rfl
      have hlen : (l.take k).length = k := by rw [List.length_take]; omega
      rw [e, hlen]
      refine ⟨insK_srt h1 h2, fun y hy => ?_⟩
      rcases List.mem_cons.1 ((insK_perm _ _).subset hy) with rfl | hy
      · exact Nat.lt_succ_self k
      · exact Nat.lt_succ_of_lt (h2 y hy)
  have := (key l.length (Nat.le_refl _)).1
  rwa [List.take_length] at this
theorem seg_list {d : Array Kd} {n : Nat} (h : d.size = n) : seg (Ix d) 0 n = d.toList := by
  unfold seg Ix
  apply List.ext_getElem
  · simp [h]
  · intro i h1 h2
    have hi : i < d.size := by simpa using h2
    simp [hi]
/-- What the sort leaves. -/
theorem merged_chr {l : List Rv} {d : Array Kd} (hs : d.size = l.length) (m : Merged kdLt (Ix (tagged l).toArray) (Ix d) 0 l.length) : d.toList.map (·.1) = chr l := by
  have hp := m.perm
  have hsrt := srt_pairwise m.srt
  rw [seg_list hs] at hp hsrt
  rw [seg_list (by simpa using tagged_len l)] at hp
  have e : d.toList = chrK (tagged l) := sorted_unique kdOrd hsrt (chrK_srt l) (hp.trans (chrK_perm _).symm)
  rw [e, chrK_fst]
theorem kd_one (x : Kd) : ∀ u ∈ kdEnc x, u.oneCell' = true := rowR1_one x.1
theorem kdCmpLays (blk off size : Nat) (w : World) : CmpLays Try.prog 50 #[] kdEnc 3 kdCmp blk off size w :=
  fun _ _ _ _ x y => closure50 x y _
theorem rowR_ix (l : List Rv) (j : Nat) (h : j < l.length * 3) : (rowR l)[j]? = (kdEnc ((tagged l).toArray[j / 3]!))[j % 3]? := by
  have e3 : j / 3 * 3 + j % 3 = j := by omega
  have hk : j / 3 < l.length := by omega
  have := rowR_get l (j / 3) hk (j % 3) (by omega)
  rw [e3] at this
  rw [this]
  unfold kdEnc tagged
  simp [hk]
theorem kd_holds {w : World} {B g cap n : Nat} {l : List Rv} (h : w.ownsRow B 23 3 (.slice (some ⟨g, 0, none⟩) n cap) n (rowR l)) (hn : l.length = n) : HoldsK kdEnc 3 w g 0 (tagged l).toArray := by
  intro j hj
  rw [size_flatK] at hj
  have hj' : j < n * 3 := by rw [← hn, ← tagged_len l]; simpa using hj
  have c := h.cellAt j hj'
  rw [rowR_ix l j (by omega)] at c
  rw [Nat.zero_add, get_flatK _ _ _ _ hj]
  refine ⟨?_, h.frozenAt j⟩
  rw [c]
  have h3 : j % 3 < (kdEnc ((tagged l).toArray[j / 3]!)).length := by show j % 3 < 3; omega
  rw [List.getElem?_eq_getElem h3, getElem!_pos (kdEnc _) _ h3]
  rfl
theorem kd_below {B g : Nat} {wA W : World} {d' : Array Kd} (h : SWK kdEnc 3 wA g 0 d' W) (hB : B ≤ g) (hg : g < wA.heap.size) : Below B wA W := by
  obtain ⟨n, os, rfl⟩ := h
  have e : (sortWorldK kdEnc 3 wA g 0 n d' os).heap = (wA.heap.modify g (onCells (putCells id 0 (flatK kdEnc 3 d')))) ++ os := rfl
  refine ⟨rfl, rfl, rfl, ?_, fun k hk => ?_⟩
  · rw [e, Array.size_append, Array.size_modify]
    omega
  · rw [e, Array.getElem?_append_left (by rw [Array.size_modify]; omega), Array.getElem?_modify, if_neg (by omega)]
theorem kd_rs {w0 W : World} {g : Nat} {l : List Rv} {d : Array Kd} (h : SWK kdEnc 3 w0 g 0 d W) (hH : HoldsK kdEnc 3 w0 g 0 (tagged l).toArray) (hg : g < w0.heap.size) (hgW : g < W.heap.size) (hs : d.size = l.length) :
    RsAt W (some ⟨g, 0, none⟩) (d.toList.map (·.1)) := by
  have q := h.holds hg hH (by simpa [tagged_len] using hs)
  refine .inr ⟨g, 0, rfl, hgW, fun k hk => ?_⟩
  have hkd : k < d.size := by simpa using hk
  have cell : ∀ j, j < 3 → W.cell? ⟨g, k * 3 + j, none⟩ = some ((kdEnc d[k]!)[j]!) := fun j hj => by
    have q0 := (q (k * 3 + j) (by rw [size_flatK]; omega)).1
    rw [Nat.zero_add, get_flatK _ _ _ _ (by omega), show (k * 3 + j) / 3 = k by omega, show (k * 3 + j) % 3 = j by omega] at q0
    exact q0
  have e : (d.toList.map (·.1))[k] = d[k]!.1 := by simp [hkd]
  rw [e, Nat.zero_add]
  exact ⟨cell 0 (by omega), cell 1 (by omega), cell 2 (by omega)⟩
set_option maxHeartbeats 1000000 in
theorem sortStable_any (blk off cap n : Nat) (d : Array Kd) (w : World) (hH : HoldsK kdEnc 3 w blk off d) (hblk : blk < w.heap.size) (hn : d.size = n) (h40 : n ≤ 40) (ht : ∀ i j, i < j → j < n → (Ix d i).2 < (Ix d j).2) :
    Calls Try.prog 49 #[.slice (some ⟨blk, off, none⟩) n cap, .func (.func 50) #[] #[]] w (SymOut kdLt kdEnc 3 w blk off d 0 n) := by
  have R : RowK kdEnc 3 w blk off d := ⟨fun _ => rfl, fun x v hv => kd_one x v hv, hH, hblk⟩
  have c := stable_any kdOrd Try.sizeOf23 50 #[] cap n d w R hn h40 (enters_of Try.func50 (by kernel_rfl) rfl) (kdCmpLays _ _ _ _) rfl (SWK.start hH) (kdTot ht)
  clear hH R
  go_enter Try.func49, Try.ntmps49
  go_wp2_with (go_at_call 73; refine c.mono ?_; rintro e w1 ⟨rfl, dn, h1, h2, h3⟩)
  go_end0
  exact ⟨rfl, dn, h1, h2, h3⟩
set_option maxRecDepth 100000 in
set_option maxHeartbeats 4000000 in
theorem ins_none (A : Option Addr) (c : Nat) (v : Value) (w : World) : Calls Try.prog 87 #[.slice A 0 c, .int .i64 0, .int .i64 0, v] w fun e w' => e = .returned (.tuple #[]) ∧ w' = w := by
  go_enter Try.func87, Try.ntmps87
  go_wp2
  go_loopg [8] 1 (fun kx s8 wr => s8 = .int .i64 1 ∧ wr = w)
  case atStart => exact ⟨rfl, rfl⟩
  case round =>
    obtain ⟨rfl, rfl⟩ := hrel
    go_wp2
    go_end0
    exact ⟨rfl, rfl⟩
set_option maxRecDepth 100000 in
set_option maxHeartbeats 4000000 in
theorem stable_none (A : Option Addr) (c : Nat) (v : Value) (w : World) : Calls Try.prog 49 #[.slice A 0 c, v] w fun e w' => e = .returned (.tuple #[]) ∧ w' = w := by
  have cI := fun w' => ins_none A c v w'
  have c73 : ∀ w, Calls Try.prog 73 #[.slice A 0 c, .int .i64 0, v] w fun e w' => e = .returned (.tuple #[]) ∧ w' = w := fun w => by
    go_enter Try.func73, Try.ntmps73
    go_wp2
    go_loopg [7, 8] 1 (fun kx s7 s8 wr => s7 = .int .i64 0 ∧ s8 = .int .i64 20 ∧ wr = w)
    case atStart => exact ⟨rfl, rfl, rfl⟩
    case round =>
      obtain ⟨rfl, rfl, rfl⟩ := hrel
      go_wp2_with (go_at_call 87; (with_reducible refine (cI _).mono ?_); rintro e w1 ⟨rfl, rfl⟩)
      go_loopg [6] 1 (fun kx s6 wr => s6 = .int .i64 20 ∧ wr = w1)
      case atStart => exact ⟨rfl, rfl⟩
      case round =>
        obtain ⟨rfl, rfl⟩ := hrel
        go_wp2
        go_end0
        exact ⟨rfl, rfl⟩
  go_enter Try.func49, Try.ntmps49
  go_wp2_with (go_at_call 73; (with_reducible refine (c73 _).mono ?_); rintro e w1 ⟨rfl, rfl⟩)
  go_end0
  exact ⟨rfl, rfl⟩
/-- A table that is handed back. -/
def RsRet (L : List Rv) (w : World) (e : Ending) (w' : World) : Prop := ∃ A cb, e = .returned (.slice A L.length cb) ∧ RsAt w' A L ∧ Below w.heap.size w w'
set_option maxRecDepth 100000 in
set_option maxHeartbeats 8000000 in
theorem chron_any (l : List Rv) (n : Nat) (hn : l.length = n) (h40 : n ≤ 40) (A : Option Addr) (c : Nat) (hc : n ≤ c ∧ c ≤ maxLen) (w : World) (hA : RsAt w A l) :
    Calls Try.prog 35 #[.slice A n c] w (RsRet (chr l) w) := by
  have cC := clone_any A n c l hn hc (by omega) w hA
  have HN := Lib.hid hn
  have HL := Lib.hid (chr_len l)
  clear hA hn hc
  by_cases h0 : n = 0
  · subst h0
    have HE := Lib.hid (List.eq_nil_of_length_eq_zero HN.out)
    go_enter Try.func35, Try.ntmps35
    go_wp2_with fail
    (with_reducible refine cC.mono ?_)
    rintro e w1 ⟨B, cb, rfl, hrow, k1⟩
    have cS := stable_none B cb (.func (.func 50) #[] #[]) w1
    clear cC hrow
    go_wp2_with fail
    (with_reducible refine cS.mono ?_)
    rintro e w2 ⟨rfl, rfl⟩
    go_wp2
    go_ret
    refine ⟨B, cb, ?_, .inl ?_, k1⟩
    · rw [HE.out]; rfl
    · rw [HE.out]; rfl
  · go_enter Try.func35, Try.ntmps35
    go_wp2_with fail
    (with_reducible refine cC.mono ?_)
    rintro e w1 ⟨B, cb, rfl, hrow, k1⟩
    obtain ⟨g, rfl, hgb, hgw⟩ : ∃ g, B = some ⟨g, 0, none⟩ ∧ w.heap.size ≤ g ∧ g < w1.heap.size := by
      rcases hrow.2 with ⟨_, hz⟩ | ⟨g, cap, cur, hv, hb, hg, _⟩
      · exact absurd hz h0
      · injection hv with e1 _ _
        exact ⟨g, e1, hb, (Array.getElem?_eq_some_iff.1 hg).1⟩
    have hH := kd_holds hrow HN.out
    have cS := sortStable_any g 0 cb n (tagged l).toArray w1 hH hgw (by rw [← HN.out]; simpa using tagged_len l) h40 (fun i j hij hj => by rw [tagged_tag l i (by rw [HN.out]; omega), tagged_tag l j (by rw [HN.out]; omega)]; exact hij)
    have HH := Lib.hid hH
    have K1 := Lib.hid k1
    clear cC hrow k1 hH
    go_wp2_with fail
    (with_reducible refine cS.mono ?_)
    rintro e w2 ⟨rfl, dn, h1, h2, h3⟩
    have hs : dn.size = l.length := by rw [h1, HN.out, ← HN.out]; simpa using tagged_len l
    have h2' := Lib.hid (merged_chr hs (by rw [HN.out]; exact h2))
    have kb := kd_below h3 hgb hgw
    have hgW : g < w2.heap.size := Nat.lt_of_lt_of_le hgw kb.size
    have HR := Lib.hid (kd_rs h3 HH.out hgw hgW hs)
    have KB := Lib.hid (K1.out.trans kb)
    clear cS h1 h2 h3 hs kb
    go_wp2
    go_ret
    refine ⟨some ⟨g, 0, none⟩, cb, ?_, ?_, KB.out⟩
    · rw [HL.out, HN.out]; rfl
    · have := HR.out
      rw [h2'.out] at this
      exact this
end Go.Proofs.Ytmpklkhjipclmaa
