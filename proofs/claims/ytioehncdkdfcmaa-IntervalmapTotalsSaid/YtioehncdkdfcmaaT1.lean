/- Layer 5: Total, the program's and the reference's. -/
import Derived.Test.YtioehncdkdfcmaaE1
import Derived.Test.YtioehncdkdfcmaaI3
namespace Go.Proofs.Ytioehncdkdfcmaa
open Go.RowKit Go.Shelf Go.Lib Im

attribute [local go_sem] Oper.semAt_some
/-- How much of some runs has a value. -/
def totP (v : Int) : List Rn → Int
  | [] => 0
  | r :: P => (if r.2.2 = v then r.2.1 - r.1 else 0) + totP v P
theorem totP_snoc (v : Int) (P : List Rn) (r : Rn) : totP v (P ++ [r]) = totP v P + (if r.2.2 = v then r.2.1 - r.1 else 0) := by
  induction P with
  | nil => simp [totP]
  | cons q P ih => rw [List.cons_append, totP, totP, ih]; omega
theorem totP_ch {v m e : Int} {P : List Rn} (h : Ch m P e) : totP v P = ((vals P).count v : Int) ∧ 0 ≤ totP v P ∧ totP v P ≤ e - m := by
  induction P generalizing m with
  | nil => have e0 : m = e := h; exact ⟨rfl, Int.le_refl _, by show (0 : Int) ≤ _; omega⟩
  | cons r P ih =>
    obtain ⟨c1, c2, c3⟩ := h
    obtain ⟨i1, i2, i3⟩ := ih c3
    rw [totP, vals_cons, List.count_append, i1, List.count_replicate]
    rw [i1] at i2 i3
    by_cases hr : r.2.2 = v
    · rw [if_pos hr, if_pos (by simpa using hr)]
      omega
    · rw [if_neg hr, if_neg (by simpa using hr)]
      omega
theorem ch_prefix {m e : Int} {P pre : List Rn} (h : Ch m P e) (hp : pre <+: P) : ∃ m', Ch m pre m' ∧ m' ≤ e := by
  obtain ⟨t, rfl⟩ := hp
  obtain ⟨m', h1, h2⟩ := ch_append.1 h
  exact ⟨m', h1, ch_le h2⟩
def seg (l : List Int) (f t : Int) : List Int := (l.drop f.toNat).take (t - f).toNat
def cntL (l : List Int) (f t v : Int) : Int := if 0 ≤ f ∧ f ≤ t ∧ t ≤ l.length then ((seg l f t).count v : Nat) else 0
def TotR (w : World) (l : List Int) (f t v : Int) (e : Ending) (w' : World) : Prop := e = .returned (.tuple #[.int .i64 (cntL l f t v), .int .i64 (chkR l.length f t)]) ∧ Below w.heap.size w w'
set_option maxRecDepth 100000 in
set_option maxHeartbeats 8000000 in
theorem total_in (b g : Nat) (l : List Int) (f t v : Int) (w : World) (h : MpG w b g (runs l)) (hl : l.length ≤ 400000) : CallsIn Fence.wide 6 Try.prog 23 #[.pointer (some ⟨b, 0, none⟩), .int .i64 f, .int .i64 t, .int .i64 v] w (TotR w l f t v) := by
  have cC := fun w' h => check_any b (runs l) f t w' h
  rw [lenR_runs] at cC
  have H := Go.Lib.hid h
  have hrl := runs_len l
  have hb0 : Below w.heap.size w (w.alloc (.cells #[.int .i64 v] 3)) := (Below.refl _ w).alloc (Nat.le_refl _) _
  have cC1 := cC (w.alloc (.cells #[.int .i64 v] 3)) (mpG_at (mpG_below h hb0))
  have cW := fun w' => within_any b f t w'
  clear h cC
  by_cases hok : 0 ≤ f ∧ f ≤ t ∧ t ≤ l.length
  · have hc : chkR l.length f t = 0 := if_pos hok
    rw [hc] at cC1
    have HCK := Go.Lib.hid hc
    have HST := Go.Lib.hid (ch_sortT (runs_ok l).1)
    have HPC : Hid (Ch f (partsW f t (runs l)) t) := Go.Lib.hid (by
      obtain ⟨q1, q2, q3⟩ := runs_ok l
      exact fits_ch (parts_ok q1 hok.1 hok.2.1 hok.2.2).1 (parts_ne _ _ _))
    have HCN : Hid (cntL l f t v = totP v (partsW f t (runs l))) := Go.Lib.hid (by
      obtain ⟨q1, q2, q3⟩ := runs_ok l
      have := (parts_ok q1 hok.1 hok.2.1 hok.2.2).2
      rw [q3, Int.sub_zero] at this
      unfold cntL seg
      rw [if_pos hok, (totP_ch HPC.out).1, this])
    obtain ⟨k0, k1, k2⟩ := hok
    clear hc
    refine callsIn_of_wp_marks Try.func23 rfl trivial ?_ rfl
    simp only [Try.ntmps23, List.size_toArray, List.length_cons, List.length_nil, Nat.reduceAdd, Nat.reduceSub, Array.replicate_succ, Array.replicate_zero, List.push_toArray, List.append_toArray, List.nil_append, List.cons_append]
    gi_wp2_with (first | (refine ⟨trivial, ?_⟩; gi_at_call 44; refine (callsIn_wide.2 cC1).mono ?_; rintro e w1 ⟨rfl, hb1⟩) | (refine ⟨trivial, ?_⟩; gi_at_call 43; refine (callsIn_wide.2 (cW _)).mono ?_; rintro e w2 ⟨rfl, rfl⟩))
    have b7 := boxed_below (Boxed.new w 3 (.int .i64 v)) hb1
    have hw1 : w.heap.size < w1.heap.size := by have := hb1.size; simp at this; omega
    have hb01 : Below w.heap.size w w1 := hb0.trans (hb1.mono (by simp))
    have HB01 := Go.Lib.hid hb01
    obtain ⟨A, c, g1, g2, g3, g4, g5⟩ := mpG_open (mpG_below H.out hb01)
    have cd1 := b7.cell
    clear cC1 hb1 hb0 hb01 b7
    obtain ⟨N, hN⟩ : ∃ N, w1.heap.size = N := ⟨_, rfl⟩
    have bN := (((Boxed.new w1 3 (.int .i64 0)).alloc (.cells #[.pointer (some ⟨b, 0, none⟩)] 25)).alloc (.cells #[.int .i64 f] 3)).alloc (.cells #[.int .i64 t] 3)
    have b1 := ((Boxed.new (w1.alloc (.cells #[.int .i64 0] 3)) 25 (.pointer (some ⟨b, 0, none⟩))).alloc (.cells #[.int .i64 f] 3)).alloc (.cells #[.int .i64 t] 3)
    have b2 := (Boxed.new ((w1.alloc (.cells #[.int .i64 0] 3)).alloc (.cells #[.pointer (some ⟨b, 0, none⟩)] 25)) 3 (.int .i64 f)).alloc (.cells #[.int .i64 t] 3)
    have b3 := Boxed.new (((w1.alloc (.cells #[.int .i64 0] 3)).alloc (.cells #[.pointer (some ⟨b, 0, none⟩)] 25)).alloc (.cells #[.int .i64 f] 3)) 3 (.int .i64 t)
    have hB0 : Below w1.heap.size w1 ((((w1.alloc (.cells #[.int .i64 0] 3)).alloc (.cells #[.pointer (some ⟨b, 0, none⟩)] 25)).alloc (.cells #[.int .i64 f] 3)).alloc (.cells #[.int .i64 t] 3)) := ((((Below.refl _ w1).alloc (Nat.le_refl _) _).alloc (by simp) _).alloc (by simp; omega) _).alloc (by simp; omega) _
    have hsz : ((((w1.alloc (.cells #[.int .i64 0] 3)).alloc (.cells #[.pointer (some ⟨b, 0, none⟩)] 25)).alloc (.cells #[.int .i64 f] 3)).alloc (.cells #[.int .i64 t] 3)).heap.size = w1.heap.size + 4 := by simp
    rw [World.size_alloc] at b1
    rw [World.size_alloc, World.size_alloc] at b2
    rw [World.size_alloc, World.size_alloc, World.size_alloc] at b3
    generalize ((((w1.alloc (.cells #[.int .i64 0] 3)).alloc (.cells #[.pointer (some ⟨b, 0, none⟩)] 25)).alloc (.cells #[.int .i64 f] 3)).alloc (.cells #[.int .i64 t] 3)) = W0 at bN b1 b2 b3 hB0 hsz ⊢
    rw [hN] at bN b1 b2 b3 hB0 hsz hw1 ⊢
    have G1 := Go.Lib.hid g1
    have G2 := Go.Lib.hid g2
    refine rangeG1 (T := TZ) (Bs := N + 1) (G := GW b (N + 1) (N + 1 + 1) (N + 1 + 2) A (runs l).length c (runs l) f t) rfl (by decide) (gf := 51) (lb := #[.pointer (some ⟨N + 1, 0, none⟩), .pointer (some ⟨N + 1 + 1, 0, none⟩), .pointer (some ⟨N + 1 + 2, 0, none⟩)]) rfl trivial (enters_of Try.func51 (by kernel_rfl) rfl)
      (by omega) (within_seq 5 (by decide) b (N + 1) (N + 1 + 1) (N + 1 + 2) A (runs l).length c (runs l) f t rfl g3 g4 g5 HST.out (by omega) W0)
      (fun (pre : List Rn) W => Boxed W N 3 (.int .i64 (totP v pre)) ∧ Below N w1 W ∧ Boxed W (N + 1) 25 (.pointer (some ⟨b, 0, none⟩)) ∧ Boxed W (N + 1 + 1) 3 (.int .i64 f) ∧ Boxed W (N + 1 + 2) 3 (.int .i64 t)) (fun _ _ _ => False)
      (fun _ W h => ⟨boxed_below G1.out (by rw [hN]; exact h.2.1), G2.out.below (by rw [hN]; exact h.2.1), h.2.2.1, h.2.2.2.1, h.2.2.2.2⟩)
      (OwnT.and (OwnT.boxed rfl (fun (pre : List Rn) => .int .i64 (totP v pre))) (OwnT.and (OwnT.below (Nat.le_of_eq hN.symm) (by omega)) (OwnT.and (OwnT.boxed rfl (fun _ => _)) (OwnT.and (OwnT.boxed rfl (fun _ => _)) (OwnT.boxed rfl (fun _ => _)))))) (fun _ _ _ _ _ hs _ _ => hs)
      ⟨bN, hB0, b1, b2, b3⟩ ?round ?done ?stop
    case round =>
      clear bN b1 b2 b3 hB0 cW
      rintro l' pre x W ⟨hv, hB, h1, h2, h3⟩ hlt hsp hl' hlW
      have hW1 := hB.size
      have hBs : N + 1 < W.heap.size := h1.lt
      obtain ⟨mm, hm1, hm2⟩ := ch_prefix HPC.out hsp
      obtain ⟨mp, hq1, hq2⟩ := ch_append.1 hm1
      obtain ⟨hx1, hx2, hx3⟩ := hq2
      have htp := totP_ch (v := v) hq1
      have hle1 := ch_le hq1
      have hx3 : x.2.1 = mm := hx3
      have HTS := Go.Lib.hid (totP_snoc v pre x)
      unfold rnV
      obtain ⟨x0, x1, x2⟩ := x
      dsimp only at hx1 hx2 hx3 HTS ⊢
      generalize totP v pre = s at hv htp HTS
      have hs0 : 0 ≤ s := htp.2.1
      have hs1 : s ≤ 400000 := by have := htp.2.2; omega
      have hxd : 0 ≤ x1 - x0 := by omega
      have hxe : x1 - x0 ≤ 400000 := by omega
      have hx0 : 0 ≤ x0 := by omega
      have hx1' : x1 ≤ 400000 := by omega
      clear htp hm1 hm2 hq1 hx1 hx2 hx3 hle1 hsp
      gi_wp2
      refine ⟨(KeepsOthers.alloc _ _).from _, Kpt.alloc (by omega) _, ⟨hv.alloc _, hB.alloc (by omega) _, h1.alloc _, h2.alloc _, h3.alloc _⟩, ?_⟩
      rintro V' hg hu hBV h1' h2' h3'
      have hVs := hg.size
      simp only [World.size_alloc] at hVs
      have hc0 : V'.cell? ⟨W.heap.size, 0, none⟩ = some (.int .i64 x0) := hg.cell (by simp) (fun e => by simp at e; omega)
      have hc1 : V'.cell? ⟨W.heap.size, 1, none⟩ = some (.int .i64 x1) := hg.cell (by simp) (fun e => by simp at e; omega)
      have hc2 : V'.cell? ⟨W.heap.size, 2, none⟩ = some (.int .i64 x2) := hg.cell (by simp) (fun e => by simp at e; omega)
      have hcd : V'.cell? ⟨w.heap.size, 0, none⟩ = some (.int .i64 v) := (hBV.cell (p := ⟨w.heap.size, 0, none⟩) hw1).trans cd1
      have hc := hu.cell
      have hf := hu.frozen
      clear hv hB hg h1 h2 h3
      by_cases hx : x2 = v
      · have hxb : (x2 == v) = true := by simpa using hx
        have HTE := Go.Lib.hid (HTS.out.trans (by rw [if_pos hx]))
        have hwa : IntKind.i64.wrap (x1 - x0) = x1 - x0 := by rw [IntKind.wrap_i64]; omega
        have hwb : IntKind.i64.wrap (s + (x1 - x0)) = s + (x1 - x0) := by rw [IntKind.wrap_i64]; omega
        clear hx HTS
        gi_wp2
        have k1' := Boxed.set (.int .i64 (s + (x1 - x0))) hu
        exact ⟨(KeepsOthers.setCell _ _ _).from _, Kpt.boxed (by omega) hu (by omega) rfl _, by rw [HTE.out]; exact k1', hBV.setCell (p := ⟨N, 0, none⟩) (by simp) _, Boxed.other h1' (by omega) _, Boxed.other h2' (by omega) _, Boxed.other h3' (by omega) _⟩
      · have hxb : (x2 == v) = false := by simpa using hx
        have HTE := Go.Lib.hid (HTS.out.trans (by rw [if_neg hx, Int.add_zero]))
        clear hx HTS
        gi_wp2
        exact ⟨KeepsFrom.refl _ _, Kpt.refl _, by rw [HTE.out]; exact hu, hBV, h1', h2', h3'⟩
    case done =>
      rintro D xs W hD rfl ⟨hv, hB, _, _, _⟩ hK
      rw [← HCN.out] at hv
      have hc := hv.cell
      have hwW : Below w.heap.size w W := HB01.out.trans (hB.mono (by omega))
      gi_wp2
      refine ⟨by simp, .inl ⟨_, _, rfl, run_takeDeferred hK, ?_⟩⟩
      refine ⟨.tuple #[.int .i64 (cntL l f t v), .int .i64 0], by simp [results, Try.results23, go_sem], by rw [HCK.out], hwW.trans (belowK_b (w := w) (Nat.le_refl _) W D _ _ (by omega) hK rfl rfl)⟩
    case stop =>
      rintro D c pre W _ _ h _
      exact h.elim
  · have hc : chkR l.length f t = 2 := if_neg hok
    rw [hc] at cC1
    have HCK := Go.Lib.hid hc
    have HCN : Hid (cntL l f t v = 0) := Go.Lib.hid (if_neg hok)
    clear hc hok cW
    refine callsIn_wide.2 ?_
    go_enter Try.func23, Try.ntmps23
    go_wp2_with (go_at_call 44; (with_reducible refine cC1.mono ?_); rintro e w1 ⟨rfl, hb1⟩)
    go_ret2
    exact ⟨by rw [HCK.out, HCN.out]; rfl, hb0.trans (hb1.mono (by simp))⟩
theorem total_any (b g : Nat) (l : List Int) (f t v : Int) (w : World) (h : MpG w b g (runs l)) (hl : l.length ≤ 400000) : Calls Try.prog 23 #[.pointer (some ⟨b, 0, none⟩), .int .i64 f, .int .i64 t, .int .i64 v] w (TotR w l f t v) := callsIn_wide.1 (total_in b g l f t v w h hl)
set_option maxRecDepth 100000 in
set_option maxHeartbeats 8000000 in
theorem rtotal_any (A : Option Addr) (n c : Nat) (l : List Int) (hl : l.length = n) (f t : Nat) (v : Int) (w : World) (hA : w.ownsRow 0 3 1 (.slice A n c) n (intsV l)) (hft : f ≤ t) (htn : t ≤ n) (hn : n ≤ 400000) :
    Calls Try.prog 25 #[.slice A n c, .int .i64 f, .int .i64 t, .int .i64 v] w fun e w' => e = .returned (.int .i64 (((seg l f t).count v : Nat) : Int)) ∧ Below w.heap.size w w' := by
  have HA := Go.Lib.hid hA
  have HL := Go.Lib.hid hl
  have hsg : seg l f t = (l.drop f).take (t - f) := by unfold seg; rw [Int.toNat_natCast, show ((t : Int) - (f : Int)).toNat = t - f by omega]
  have HSG := Go.Lib.hid hsg
  clear hA hl hsg
  go_enter Try.func25, Try.ntmps25
  go_wp2
  go_loopw [9, 10] (fun s i wr => ∃ k q : Nat, f + k ≤ t ∧ i = .int .i64 ((f + k : Nat) : Int) ∧ s = .int .i64 (q : Nat) ∧ q ≤ k ∧ Hid (((l.drop f).take k).count v = q) ∧ Hid (Below w.heap.size w wr)) (fun _ i _ => t - (RowKit.intOf i).toNat)
  case atStart => exact ⟨0, 0, by omega, by rw [Nat.add_zero], rfl, Nat.le_refl _, Go.Lib.hid rfl, Go.Lib.hid (Below.refl _ _)⟩
  case round =>
    obtain ⟨k, q, hk, rfl, rfl, hqk, HQ, HB⟩ := hrel
    by_cases hlt : f + k < t
    · obtain ⟨g, rfl, hg, hcA⟩ := own_list HA.out HL.out (k := f + k) (by omega)
      have c0 := (HB.out.cell (p := ⟨g, f + k, none⟩) hg).trans hcA
      have hkl : f + k < l.length := by rw [HL.out]; omega
      have HT : Hid ((l.drop f).take (k + 1) = (l.drop f).take k ++ [l[f + k]]) := Go.Lib.hid (by
        rw [List.take_succ_eq_append_getElem (by rw [List.length_drop]; omega), List.getElem_drop])
      clear hcA
      generalize l[f + k] = x at c0 HT
      have q0 : (0 : Int) ≤ (f : Int) + (k : Int) := by omega
      have q1 : (f : Int) + (k : Int) < (n : Int) := by omega
      by_cases hx : x = v
      · have e1 : (x == v) = true := by simpa using hx
        have HC := Go.Lib.hid (show ((l.drop f).take (k + 1)).count v = q + 1 by rw [HT.out, List.count_append, HQ.out, hx]; simp)
        clear hx HT hkl
        go_wp2
        go_roundw
        case rel => exact ⟨k + 1, q + 1, by omega, by go_num, by go_num, by omega, HC, HB⟩
        case measure => simp [RowKit.intOf]; omega
      · have e1 : (x == v) = false := by simpa using hx
        have HC := Go.Lib.hid (show ((l.drop f).take (k + 1)).count v = q by rw [HT.out, List.count_append, HQ.out]; simp [hx])
        clear hx HT hkl
        go_wp2
        go_roundw
        case rel => exact ⟨k + 1, q, by omega, by go_num, rfl, by omega, HC, HB⟩
        case measure => simp [RowKit.intOf]; omega
    · have HK : Hid (k = t - f) := Go.Lib.hid (by omega)
      go_wp2
      go_ret
      exact ⟨by rw [HSG.out, ← HK.out, HQ.out]; rfl, HB.out⟩
end Go.Proofs.Ytioehncdkdfcmaa
