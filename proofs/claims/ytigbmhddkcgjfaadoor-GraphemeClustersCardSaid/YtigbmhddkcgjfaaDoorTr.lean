import Derived.Test.YtigbmhddkcgjfaaDoorGs
namespace Go.Proofs.YtigbmhddkcgjfaaDoor
open Go.RowKit Go.Shelf Go.Lib
open Gc

attribute [local go_sem] Oper.semAt_some

def StrPost (s : ByteArray) (w : World) (e : Ending) (w' : World) : Prop := e = .returned (.string s) ∧ Below w.heap.size w w'
set_option maxRecDepth 100000 in
theorem clone_any (s : ByteArray) (w : World) (hs : s.size ≤ 100000) : Calls Tryd.prog 41 #[.string s] w (StrPost s w) := by
  have c := Tryd.stringslite_Clone s w (by omega)
  go_enter Tryd.func41, Tryd.ntmps41
  go_wp2_with (go_at_call 54; (with_reducible refine c.mono ?_); rintro e w1 ⟨rfl, hb1⟩)
  go_ret
  exact ⟨rfl, hb1⟩

/-- Where the first n clusters end. -/
def tr (P : List Nat) (n : Nat) : Nat := U.off P (nx (cp P) n)
def Sz (P : List Nat) (pre : List (Nat × Nat)) (z : Int) : Prop := pre <+: cls (cp P) → z = (U.off P (lastOf pre) : Nat)
theorem sz_nil (P : List Nat) : Sz P [] 0 := fun _ => by simp [lastOf, U.off]; rfl
theorem pre_take {cs : List Int} {pre : List (Nat × Nat)} (h : pre <+: cls cs) : pre = (cls cs).take pre.length ∧ pre.length ≤ (cls cs).length := ⟨(List.prefix_iff_eq_take.1 h), h.length_le⟩
theorem lastOf_pre {cs : List Int} {pre : List (Nat × Nat)} (h : pre <+: cls cs) : lastOf pre = (bnd cs)[pre.length]'(by have := h.length_le; rw [bnd_len]; omega) := by
  have e := (pre_take h).1
  have := lastOf_take cs pre.length h.length_le
  rw [← e] at this
  exact this
theorem sz_snoc {s : ByteArray} {P : List Nat} (h : Str s P []) {pre : List (Nat × Nat)} {x : Nat × Nat} {z : Int} (hz : Sz P pre z) :
    Sz P (pre ++ [x]) (wrap64 (z + ((s.extract (U.off P x.1) (U.off P x.2)).size : Int))) := by
  intro hp
  have hp1 : pre <+: cls (cp P) := (List.prefix_append pre [x]).trans hp
  have hl := hp.length_le
  rw [List.length_append, List.length_singleton] at hl
  have hx : x = (cls (cp P))[pre.length]'(by omega) := by
    have := List.IsPrefix.getElem hp (i := pre.length) (by simp)
    simpa using this
  have e1 : x.1 = lastOf pre := by
    rw [lastOf_pre hp1, hx]
    exact cls_fst _ _ (by omega)
  have hr := cls_range (cp P) x (by rw [hx]; exact List.getElem_mem _)
  rw [cp_len] at hr
  have h1 := U.off_mono P x.1 x.2 (by omega)
  have h2 := off_size h x.2
  have h3 := h.size
  rw [hz hp1, lastOf_snoc, ByteArray.size_extract, ← e1]
  have e : ((U.off P x.1 : Nat) : Int) + ((min (U.off P x.2) s.size - U.off P x.1 : Nat) : Int) = (U.off P x.2 : Nat) := by omega
  rw [e]
  unfold wrap64
  omega
theorem tr_all {P : List Nat} {n : Nat} (h : (cls (cp P)).length ≤ n) : U.off P (lastOf (cls (cp P))) = tr P n := by
  have := lastOf_take (cp P) (cls (cp P)).length (Nat.le_refl _)
  rw [List.take_length] at this
  unfold tr nx
  rw [this]
  congr 2
  omega
theorem tr_cut {P : List Nat} {pre : List (Nat × Nat)} (h : pre <+: cls (cp P)) : U.off P (lastOf pre) = tr P pre.length := by
  unfold tr nx
  rw [lastOf_pre h]
  congr 2
  have := h.length_le
  omega

set_option maxRecDepth 100000 in
set_option maxHeartbeats 2000000 in
theorem trunc_bad {s : ByteArray} {P : List Nat} {bad : List UInt8} (h : Str s P bad) (hb : bad ≠ []) (n : Int) (w : World) (hT : Tabs w) : Calls Tryd.prog 29 #[.string s, .int .i64 n] w (Pair2 (.string ByteArray.empty) (.int .i64 12) w) := by
  have hB0 : Below w.heap.size w (w.alloc (.cells #[.int .i64 n] 3)) := (Below.refl _ w).alloc (Nat.le_refl _) _
  have cV := valid_any h _ (hT.below hB0)
  rw [decide_eq_false hb] at cV
  go_enter Tryd.func29, Tryd.ntmps29
  go_wp2_with (go_at_call 36; refine cV.mono ?_; rintro e w1 ⟨rfl, hb1⟩)
  go_ret2
  exact ⟨rfl, hB0.trans (hb1.mono (by simp))⟩
set_option maxRecDepth 100000 in
set_option maxHeartbeats 2000000 in
theorem trunc_neg {s : ByteArray} {P : List Nat} (h : Str s P []) (n : Int) (hn : n < 0) (w : World) (hT : Tabs w) : Calls Tryd.prog 29 #[.string s, .int .i64 n] w (Pair2 (.string ByteArray.empty) (.int .i64 2) w) := by
  have hB0 : Below w.heap.size w (w.alloc (.cells #[.int .i64 n] 3)) := (Below.refl _ w).alloc (Nat.le_refl _) _
  have cV := valid_any h _ (hT.below hB0)
  rw [decide_eq_true rfl] at cV
  have b3 := Boxed.new w 3 (.int .i64 n)
  go_enter Tryd.func29, Tryd.ntmps29
  go_wp2_with (go_at_call 36; refine cV.mono ?_; rintro e w1 ⟨rfl, hb1⟩; have r3 := boxed_below b3 hb1; have c3 := r3.cell)
  go_ret2
  exact ⟨rfl, hB0.trans (hb1.mono (by simp))⟩

set_option maxRecDepth 100000 in
set_option maxHeartbeats 4000000 in
theorem trunc_in {s : ByteArray} {P : List Nat} (h : Str s P []) (n : Nat) (hn : n ≤ 9223372036854775807) (w : World) (hT : Tabs w) :
    CallsIn Fence.wide 6 Tryd.prog 29 #[.string s, .int .i64 (n : Nat)] w (Pair2 (.string (s.extract 0 (tr P n))) (.int .i64 0) w) := by
  have hB0 : Below w.heap.size w (w.alloc (.cells #[.int .i64 (n : Nat)] 3)) := (Below.refl _ w).alloc (Nat.le_refl _) _
  have cV := valid_any h _ (hT.below hB0)
  rw [decide_eq_true rfl] at cV
  have b3 := Boxed.new w 3 (.int .i64 (n : Nat))
  have hlen : (cls (cp P)).length ≤ 100000 := by
    have h1 := bnd_length_le (cp P)
    have h2 := h.len
    have h3 : (cp P).length = P.length := by simp [cp, clsOf]
    omega
  refine callsIn_of_wp_marks Tryd.func29 rfl trivial ?_ rfl
  simp only [Tryd.ntmps29, List.size_toArray, List.length_cons, List.length_nil, Nat.reduceAdd, Nat.reduceSub, Array.replicate_succ, Array.replicate_zero, List.push_toArray, List.append_toArray, List.nil_append, List.cons_append]
  gi_wp2_with (first
    | (refine ⟨trivial, ?_⟩; gi_at_call 36; (with_reducible refine (callsIn_wide.2 cV).mono ?_); rintro e w1 ⟨rfl, hb1⟩; clear cV; have r3 := boxed_below b3 hb1; have c3 := r3.cell)
    | (refine ⟨trivial, ?_⟩; gi_at_call 37; refine (clusters_in s _ _).mono ?_; rintro e w2 ⟨rfl, rfl⟩))
  have hz1 := hb1.size
  rw [World.size_alloc] at hz1
  have hs1 : w.heap.size ≤ w1.heap.size := by omega
  have hb1' : Below w.heap.size w w1 := hB0.trans (hb1.mono (by simp))
  have hB1 : Below w.heap.size w ((w1.alloc (.cells #[.int .i64 0] 3)).alloc (.cells #[.string s] 9)) := (hb1'.alloc hs1 _).alloc (by simp; omega) _
  have bZ := Boxed.new w1 3 (.int .i64 0)
  have bS := Boxed.new (w1.alloc (.cells #[.int .i64 0] 3)) 9 (.string s)
  rw [World.size_alloc] at bS
  clear hb1 c3 hB0 b3
  refine rangeT1 (T := TT) (Bs := w1.heap.size + 1) rfl (by decide) (gf := 47) (lb := #[.pointer (some ⟨w1.heap.size + 1, 0, none⟩)]) rfl trivial (enters_of Tryd.func47 (by kernel_rfl) rfl)
    (by simp) (iter_any 5 (by decide) (w1.heap.size + 1) s P h.pts h.whole h.room _ bS)
    (fun pre W => (∃ z : Int, Boxed W w1.heap.size 3 (.int .i64 z) ∧ Sz P pre z) ∧ Boxed W w.heap.size 3 (.int .i64 ((n : Int) - pre.length)) ∧ pre.length ≤ n ∧ Below w.heap.size w W)
    (fun c pre W => (c = .exit 0 ∧ ∃ pre' x z, pre = pre' ++ [x] ∧ Sz P pre' z ∧ pre'.length = n ∧ Boxed W w1.heap.size 3 (.int .i64 z)) ∧ Below w.heap.size w W)
    (OwnT.and (fun s A C row ⟨z, hz, hp⟩ hg hr => ⟨z, hz.kept hg (not_turned hz rfl hr), hp⟩) (OwnT.and (OwnT.boxed rfl _) (OwnT.and OwnT.pure (OwnT.below (Nat.le_refl _) (by simp; omega)))))
    (fun c => OwnT.and (fun s A C row ⟨hc, pre', x, z, h1, h2, h3, h4⟩ hg hr => ⟨hc, pre', x, z, h1, h2, h3, h4.kept hg (not_turned h4 rfl hr)⟩) (OwnT.below (Nat.le_refl _) (by simp; omega)))
    ⟨⟨0, bZ.alloc _, sz_nil P⟩, by simpa using (r3.alloc _).alloc _, Nat.zero_le _, hB1⟩ ?round ?done ?stop
  case round =>
    rintro l pre x W ⟨⟨z, hZ, hsz⟩, hN, hle, hB⟩ hlt hl hlW
    have hsn := sz_snoc h (x := x) hsz
    unfold clV
    generalize s.extract (U.off P x.1) (U.off P x.2) = txt at hsn ⊢
    have hW1 := hB.size
    have hl' := hl
    simp at hl'
    have hBs : w1.heap.size + 1 < W.heap.size := by omega
    gi_wp2
    refine ⟨(KeepsOthers.alloc _ _).from _, Kpt.alloc hBs _, ⟨⟨z, hZ.alloc _, hsz⟩, hN.alloc _, hle, hB.alloc hW1 _⟩, ?_⟩
    rintro V hg ⟨_, hN, _, hBV⟩
    have hZV : Boxed V w1.heap.size 3 (.int .i64 z) := (hZ.alloc _).kept hg (fun e => by simp at e; omega)
    have hcx : V.cell? ⟨W.heap.size, 1, none⟩ = some (.string txt) := hg.cell (by simp) (fun e => by simp at e; omega)
    have hcZ := hZV.cell
    have hcN := hN.cell
    have hfZ := hZV.frozen
    have hfN := hN.frozen
    have hVs : w1.heap.size + 1 < V.heap.size := by have := hg.size; simp at this; omega
    by_cases hx : pre.length = n
    · have hx0 : (n : Int) - pre.length = 0 := by omega
      rw [hx0] at hcN
      gi_wp2
      exact ⟨KeepsFrom.refl _ _, ⟨rfl, pre, x, z, rfl, hsz, hx, hZV⟩, hBV⟩
    · have hx0 : ((n : Int) - pre.length == 0) = false := by simp; omega
      gi_wp2
      have q := two_boxes hN hZV (show w.heap.size ≠ w1.heap.size by omega) (.int .i64 ((n : Int) - pre.length - 1)) (.int .i64 (wrap64 (z + txt.size)))
      have hZ2 := boxed_other hZV (show w1.heap.size ≠ w.heap.size by omega) (.int .i64 ((n : Int) - pre.length - 1))
      have e : (n : Int) - ((pre ++ [x]).length : Nat) = (n : Int) - pre.length - 1 := by rw [List.length_append, List.length_singleton]; omega
      refine ⟨((KeepsOthers.setCell _ _ _).trans (KeepsOthers.setCell _ _ _)).from _, (Kpt.boxed hVs hN (by omega) rfl _).trans (Kpt.boxed (by rw [World.size_setCell]; exact hVs) hZ2 (by omega) rfl _), ⟨_, q.2, hsn⟩, ?_, by rw [List.length_append, List.length_singleton]; omega, (hBV.setCell (p := ⟨w.heap.size, 0, none⟩) (by simp) _).setCell (p := ⟨w1.heap.size, 0, none⟩) (by simp; omega) _⟩
      rw [e]
      exact q.1
  case done =>
    rintro D xs W hD rfl ⟨⟨z, hZ, hsz⟩, hN, hle, hB⟩ hK
    have hz := hsz (List.prefix_refl _)
    rw [tr_all hle] at hz
    subst hz
    have hts : tr P n ≤ s.size := off_size h _
    have hss := h.size
    have hc := hZ.cell
    have cC := fun w' => clone_any (s.extract 0 (tr P n)) w' (by rw [ByteArray.size_extract]; omega)
    obtain ⟨o, ho⟩ : ∃ o, tr P n = o := ⟨_, rfl⟩
    rw [ho] at hc hts cC
    gi_wp2_with (refine ⟨trivial, ?_⟩; gi_at_call 41; (with_reducible refine (callsIn_wide.2 (cC _)).mono ?_); rintro e w3 ⟨rfl, hb3⟩)
    have hK3 := (hb3.block D ((Array.getElem?_eq_some_iff.1 hK).1)).trans hK
    refine ⟨by simp, .inl ⟨_, _, rfl, run_takeDeferred hK3, ?_⟩⟩
    refine ⟨_, by simp [results, Tryd.results29, go_sem]; rfl, by rw [ho], (hB.trans (hb3.mono hB.size)).trans (belowK_b (w := w) (Nat.le_refl _) _ D _ _ ?_ hK3 rfl rfl)⟩
    simp at hD
    omega
  case stop =>
    rintro D c pre W hD hpre ⟨⟨rfl, pre', x, z, rfl, hsz, hlen', hZ⟩, hB⟩ hK
    have hp1 : pre' <+: cls (cp P) := (List.prefix_append pre' [x]).trans hpre
    have hz := hsz hp1
    rw [tr_cut hp1, hlen'] at hz
    subst hz
    have hts : tr P n ≤ s.size := off_size h _
    have hss := h.size
    have hc := hZ.cell
    have cC := fun w' => clone_any (s.extract 0 (tr P n)) w' (by rw [ByteArray.size_extract]; omega)
    obtain ⟨o, ho⟩ : ∃ o, tr P n = o := ⟨_, rfl⟩
    rw [ho] at hc hts cC
    gi_wp2_with (refine ⟨trivial, ?_⟩; gi_at_call 41; (with_reducible refine (callsIn_wide.2 (cC _)).mono ?_); rintro e w3 ⟨rfl, hb3⟩)
    have hK3 := (hb3.block D ((Array.getElem?_eq_some_iff.1 hK).1)).trans hK
    refine ⟨by simp, .inl ⟨_, _, rfl, run_takeDeferred hK3, ?_⟩⟩
    refine ⟨_, by simp [results, Tryd.results29, go_sem]; rfl, by rw [ho], (hB.trans (hb3.mono hB.size)).trans (belowK_b (w := w) (Nat.le_refl _) _ D _ _ ?_ hK3 rfl rfl)⟩
    simp at hD
    omega
theorem trunc_ok {s : ByteArray} {P : List Nat} (h : Str s P []) (n : Nat) (hn : n ≤ 9223372036854775807) (w : World) (hT : Tabs w) :
    Calls Tryd.prog 29 #[.string s, .int .i64 (n : Nat)] w (Pair2 (.string (s.extract 0 (tr P n))) (.int .i64 0) w) := callsIn_wide.1 (trunc_in h n hn w hT)
end Go.Proofs.YtigbmhddkcgjfaaDoor
