/- Layer 22: the law of orders (10). -/
import Derived.Test.YtmpklkhjipclmaaWE
import Derived.Test.YtmpklkhjipclmaaVQ
import Derived.Test.YtmpklkhjipclmaaVT
import Derived.Deep.RegionLawGrows
namespace Go.Proofs.Ytmpklkhjipclmaa
open Go.RowKit Go.Lib Go.Sort
set_option linter.unusedVariables false

theorem insR_at {L : List Rv} {x : Rv} {i : Nat} (h1 : ∀ k (h : k < L.length), k < i → ¬ Lt2 x L[k]) (h2 : ∀ k (h : k < L.length), i ≤ k → Lt2 x L[k]) : L.take i ++ x :: L.drop i = insR L x := by
  unfold insR
  rw [filter_take (i := i) (fun k h hi => by simpa using h1 k h hi) (fun k h hi => by simpa using h2 k h hi), filter_drop (i := i) (fun k h hi => by simpa using h1 k h hi) (fun k h hi => by simpa using h2 k h hi)]
theorem wsrt_low {L : List Rv} (h : WSrt L) {x : Rv} {i : Nat} (hi : i < L.length) (hx : ¬ Lt2 x L[i]) : ∀ k (hk : k < L.length), k ≤ i → ¬ Lt2 x L[k] := by
  intro k hk hki hlt
  rcases Nat.lt_or_eq_of_le hki with h1 | h1
  · have h2 : ¬ Lt2 L[i] L[k] := List.pairwise_iff_getElem.1 h k i hk hi h1
    unfold Lt2 at *
    omega
  · subst h1; exact hx hlt
theorem run_app0 (w : World) (g n cap : Nat) (hn : n ≤ cap) (ao : Option Addr) (c : Nat) (ty : TypeId) : (Builtin.append_ #[24, 24] ty #[.slice (some ⟨g, 0, none⟩) n cap, .slice ao 0 c]).run Try.prog w = .ok (.slice (some ⟨g, 0, none⟩) n cap) w := by
  obtain ⟨i0, hi, hz0, hz1, hz2⟩ := info_parts info23
  cases ao with
  | none => simp [Builtin.append_, run_underlying Try.underlying24, sizeOf, typeInfo, hi, Builtin.lenOf, Builtin.firstCells, hn, storeCells]
  | some b =>
    have e1 : (loadCells b 0).run Try.prog w = .ok #[] w := by unfold loadCells; unfold loadCellsFrom; rfl
    simp [Builtin.append_, run_underlying Try.underlying24, sizeOf, typeInfo, hi, Builtin.lenOf, Builtin.firstCells, hn, e1, storeCells]
theorem step_app0 {ops : Array Oper} {o : Oper} {a : Act} {K : Act → World → Prop} {Q : Exit → Act → World → Prop} {E : Prop} {U : World} (hw : Region.wanted o (yielded ops a.tmps) = true) (s x : Operand)
    (ho : o.op = .call { callee := .builtin .append, args := #[s, x], argTypes := #[24, 24] }) (B cap n : Nat) (hn : n ≤ cap) (hs : a.eval s = .slice (some ⟨B, 0, none⟩) n cap) (ao : Option Addr) (c : Nat) (hx : a.eval x = .slice ao 0 c)
    (h : K (a.put o.dst (.slice (some ⟨B, 0, none⟩) n cap)) U) : if Region.wanted o (yielded ops a.tmps) = true then Oper.wp Try.prog o a U K Q else E := by
  rw [if_pos hw]
  unfold Oper.wp execOp
  simp only [ho, resolve, invoke, builtin, Sem.run_bind, Sem.run_pure, Result.andThen_ok, List.map_toArray, List.map_cons, List.map_nil, hs, hx, run_app0 U B n cap hn ao c o.type]
  exact h
theorem row_rsO {w : World} {base n g c : Nat} {l : List Rv} (h : w.ownsRow base 23 3 (.slice (some ⟨g, 0, none⟩) n c) n (rowR l)) (hl : l.length = n) : RsAt w (some ⟨g, 0, none⟩) l := by
  obtain ⟨A2, c2, e2, _, _, h3⟩ := row_rs h hl
  injection e2 with q1 q2 q3
  subst q1
  exact h3
theorem own_some {w : World} {base n sz : Nat} {t : TypeId} {D : Option Addr} {c : Nat} {xs : List Value} (h : w.ownsRow base t sz (.slice D n c) n xs) (hn : 0 < n) : ∃ b, D = some ⟨b, 0, none⟩ := by
  rcases h.2 with ⟨_, h0⟩ | ⟨g, cap, cur, hv, _⟩
  · omega
  · injection hv with h1 _ _; exact ⟨g, h1⟩
theorem own_cells {w : World} {base n sz b : Nat} {t : TypeId} {c : Nat} {xs : List Value} (h : w.ownsRow base t sz (.slice (some ⟨b, 0, none⟩) n c) n xs) : ∀ j u, xs[j]? = some u → w.cell? ((⟨b, 0, none⟩ : Addr).add j) = some u := fun j u hj => by
  rw [Addr.add_lit, Nat.zero_add]
  have hl := h.1
  exact (h.cellAt j (by have := (List.getElem?_eq_some_iff.1 hj).1; omega)).trans hj
theorem grp_author (l : List Rv) (s : ByteArray) (h : s ∈ l.map (·.author)) : (grp l s).author = s := by
  have key : ∀ (M : List Rv) (g : Gp), M ≠ [] → (∀ x ∈ M, x.author = s) → (M.foldl withG g).author = s := by
    intro M
    induction M with
    | nil => intro g h; exact absurd rfl h
    | cons x M ih =>
      intro g _ hM
      rw [List.foldl_cons]
      cases M with
      | nil =>
        show (withG g x).author = s
        unfold withG
        split <;> exact hM x (by simp)
      | cons y M => exact ih _ (by simp) (fun z hz => hM z (List.mem_cons_of_mem _ hz))
  obtain ⟨x, hx, rfl⟩ := List.mem_map.1 h
  refine key _ _ (fun e => ?_) (fun y hy => by simpa using (List.mem_filter.1 hy).2)
  have : x ∈ l.filter (fun y => decide (y.author = x.author)) := List.mem_filter.2 ⟨hx, by simp⟩
  rw [e] at this
  cases this
theorem grp_pos (l : List Rv) (s : ByteArray) (h : s ∈ l.map (·.author)) : 0 < (grp l s).n := by
  rw [grp_n]
  obtain ⟨x, hx, rfl⟩ := List.mem_map.1 h
  have : x ∈ l.filter (fun y => decide (y.author = x.author)) := List.mem_filter.2 ⟨hx, by simp⟩
  have := List.length_pos_of_mem this
  omega
def tot (ks : List ByteArray) (l : List Rv) : Nat := (ks.map (fun s => (l.filter (fun x => decide (x.author = s))).length)).sum
theorem sum0 : ∀ qs : List ByteArray, tot qs [] = 0 := by
  intro qs
  induction qs with
  | nil => rfl
  | cons q qs ih =>
    unfold tot at ih ⊢
    rw [List.map_cons, List.sum_cons, ih]
    rfl
theorem tot_all {ks : List ByteArray} (hnd : ks.Nodup) : ∀ (l : List Rv), (∀ x ∈ l, x.author ∈ ks) → tot ks l = l.length := by
  intro l
  induction l with
  | nil => intro _; exact sum0 ks
  | cons x l ih =>
    intro h
    have h1 := ih (fun y hy => h y (List.mem_cons_of_mem _ hy))
    have hx := h x (by simp)
    have key : ∀ (qs : List ByteArray), qs.Nodup → tot qs (x :: l) = tot qs l + (if x.author ∈ qs then 1 else 0) := by
      intro qs
      induction qs with
      | nil => intro _; simp [tot]
      | cons q qs ihq =>
        intro hq
        rw [List.nodup_cons] at hq
        have e := ihq hq.2
        unfold tot at e ⊢
        rw [List.map_cons, List.sum_cons, List.map_cons, List.sum_cons, e]
        by_cases hxq : x.author = q
        · have hn : ¬ x.author ∈ qs := by rw [hxq]; exact hq.1
          rw [List.filter_cons_of_pos (by simpa using hxq), List.length_cons, if_neg hn, if_pos (by simp [hxq])]
          omega
        · rw [List.filter_cons_of_neg (by simpa using hxq)]
          by_cases hm : x.author ∈ qs
          · rw [if_pos hm, if_pos (by simp [hm])]; omega
          · rw [if_neg hm, if_neg (by simp [hm, hxq])]; omega
    rw [key ks hnd, if_pos hx, h1, List.length_cons]
theorem tot_snoc (ks : List ByteArray) (l : List Rv) (t : Nat) (h : t < ks.length) : ((tot (ks.take (t + 1)) l : Nat) : Int) = (tot (ks.take t) l : Nat) + (grp l ks[t]).n := by
  unfold tot
  rw [List.take_succ_eq_append_getElem h, List.map_append, List.sum_append, grp_n]
  simp
theorem tot_le {ks : List ByteArray} (hnd : ks.Nodup) (l : List Rv) (h : ∀ x ∈ l, x.author ∈ ks) (t : Nat) : tot (ks.take t) l ≤ l.length := by
  rw [← tot_all hnd l h]
  unfold tot
  conv => rhs; rw [← List.take_append_drop t ks, List.map_append, List.sum_append]
  omega
theorem grp_step (l : List Rv) (k : Nat) (hk : k < l.length) (s : ByteArray) : grp (l.take (k + 1)) s = if l[k].author = s then withG (grp (l.take k) s) l[k] else grp (l.take k) s := by
  rw [List.take_succ_eq_append_getElem hk, grp_snoc]
theorem less_true {a b : ByteArray} (h : a.data.toList < b.data.toList) : Op.bytesLess a.toList b.toList = true := by
  rw [bytesLess_eq, toList_data, toList_data]
  exact decide_eq_true h
attribute [local irreducible] wpQuiet in
set_option maxRecDepth 100000 in
set_option maxHeartbeats 16000000 in
theorem orders_in (L : List Rv) (m : Nat) (hm : L.length = m) (h40 : m ≤ 40) (hz : SzOk L) (hok : RsOk L) (A0 : Option Addr) (n0 c0 : Nat) (w : World)
    (cU : CutC w A0 n0 c0 L m) : Calls Try.prog 10 #[.slice A0 n0 c0] w (TrueW w) := by
  obtain ⟨i0, hi, hz0, hz1, hz2⟩ := info_parts info23
  unfold CutC at cU
  have HM := Lib.hid hm
  have HOK := Lib.hid hok
  clear hm hok hz
  go_enter Try.func10, Try.ntmps10
  go_wp2_with fail
  (with_reducible refine cU.mono ?_)
  rintro e w1 ⟨A, cA, rfl, hLA, k1⟩
  have K1 := Lib.hid k1
  have LA := Lib.hid hLA.1
  have HCA := Lib.hid hLA.2
  have cC := chron_any L m HM.out h40 A cA HCA.out w1 LA.out
  clear cU k1 hLA
  go_wp2_with fail
  (with_reducible refine cC.mono ?_)
  rintro e w2 ⟨C, cC', rfl, hC, k2⟩
  rw [chr_len, HM.out]
  have K2 := Lib.hid (K1.out.trans (k2.mono K1.out.size))
  have LA2 := Lib.hid (LA.out.below k2)
  have LC2 := Lib.hid hC
  have cB := byauthor_any L m HM.out (by omega) HOK.out A cA w2 LA2.out
  clear cC k2 hC
  go_wp2_with fail
  (with_reducible refine cB.mono ?_)
  rintro e w3 ⟨G, cG, ks, rfl, hG, hpw, hk1, hk2, hkl, k3⟩
  have K3 := Lib.hid (K2.out.trans (k3.mono K2.out.size))
  have LA3 := Lib.hid (LA2.out.below k3)
  have LC3 := Lib.hid (LC2.out.below k3)
  have LG3 := Lib.hid hG
  have HPW := Lib.hid hpw
  have HK1 := Lib.hid hk1
  have HK2 := Lib.hid hk2
  obtain ⟨p, hp⟩ : ∃ p, ks.length = p := ⟨_, rfl⟩
  rw [hp] at hkl ⊢
  have HP := Lib.hid hp
  clear cB hG hpw hk1 hk2 hp k3
  go_wp2_with fail
  (with_reducible refine (known_any _).mono ?_)
  rintro e w4 ⟨rfl, k4⟩
  have K4 := Lib.hid (K3.out.trans (k4.mono K3.out.size))
  have LA4 := Lib.hid (LA3.out.below k4)
  have LC4 := Lib.hid (LC3.out.below k4)
  have LG4 := Lib.hid (LG3.out.below k4)
  have hbr := Lib.hid (Below.refl w4.heap.size w4)
  have R0 := Lib.hid (World.ownsRow_nil w4 w4.heap.size 23 3)
  clear k4
  go_wp2_with fail
  go_loopw [5, 6, 7] (fun s5 s6 _ wr => ∃ i : Nat, i ≤ m ∧ s6 = .int .i64 (i : Nat) ∧ Hid (Below w4.heap.size w4 wr) ∧ ∃ D cd, s5 = .slice D i cd ∧ (i = 0 → D = none ∧ cd = 0) ∧ Hid (wr.ownsRow w4.heap.size 23 3 (.slice D i cd) i (rowR (chr (L.take i))))) (fun _ s6 _ _ => m - (intOf s6).toNat)
  case atStart => exact ⟨0, Nat.zero_le _, rfl, hbr, none, 0, rfl, fun _ => ⟨rfl, rfl⟩, R0⟩
  case round =>
    clear hbr R0
    obtain ⟨i, him, rfl, HBR, D, cd, rfl, hD0, HRW⟩ := hrel
    by_cases hlt : i < m
    case neg =>
      obtain rfl : i = m := by omega
      have hW := HRW.out
      rw [show chr (L.take i) = chr L by rw [List.take_of_length_le (by rw [HM.out]; exact Nat.le_refl _)]] at hW
      obtain ⟨_, _, e9, _, _, hDR⟩ := row_rs hW (by rw [chr_len, HM.out])
      injection e9 with e91 e92 e93
      subst e91 e93
      have HDR := Lib.hid hDR
      have LG := Lib.hid (LG4.out.below HBR.out)
      have LA5 := Lib.hid (LA4.out.below HBR.out)
      have LC5 := Lib.hid (LC4.out.below HBR.out)
      have HNDK := Lib.hid (show ks.Nodup from HPW.out.imp (fun {a b} h e => by subst e; exact List.lt_irrefl _ h))
      have HCOV := Lib.hid (fun x (hx : x ∈ L) => HK2.out x.author (HOK.out x hx).2.2 (List.mem_map_of_mem hx))
      have K5 := Lib.hid (K4.out.trans (HBR.out.mono K4.out.size))
      have hb5 := Lib.hid (Below.refl wr.heap.size wr)
      have LAW := Lib.hid (show wr.heap.size ≤ wr.heap.size from Nat.le_refl _)
      have WR : ∃ W0, W0 = wr := ⟨wr, rfl⟩
      obtain ⟨W0, hW0⟩ := WR
      rw [← hW0] at HDR LG LA5 LC5 K5 hb5
      have HWR := Lib.hid hW0
      clear hW hDR e92 HRW hD0 LA4 LC4 LG4 LA3 LC3 LG3 LA2 LC2 LA LAW hlt HBR
      go_wp2_with fail
      go_loopw [8, 9, 10, 11, 12, 13] (fun s8 s9 _ _ _ _ wq => ∃ t : Nat, t ≤ p ∧ s9 = .int .i64 (t : Nat) ∧ s8 = .int .i64 ((tot (ks.take t) L : Nat) : Int) ∧ Hid (Below W0.heap.size W0 wq)) (fun _ s9 _ _ _ _ _ => p - (intOf s9).toNat)
      case atStart => exact ⟨0, Nat.zero_le _, rfl, rfl, by rw [← HWR.out]; exact hb5⟩
      case round =>
        clear hb5
        obtain ⟨t, htp, rfl, rfl, HBT⟩ := hrel
        have sT := HBT.out.size
        by_cases htl : t < p
        case neg =>
          obtain rfl : t = p := by omega
          have HTOT := Lib.hid (show tot (ks.take t) L = i by rw [List.take_of_length_le (by rw [HP.out]; exact Nat.le_refl _), tot_all HNDK.out L HCOV.out, HM.out])
          rw [HTOT.out]
          have cS := samerevs_any (chr L) (chr L) i i (by rw [chr_len, HM.out]) (by rw [chr_len, HM.out]) (by omega) (by omega) C D cC' cd wr (LC5.out.below HBT.out) (HDR.out.below HBT.out)
          rw [decide_eq_true rfl] at cS
          go_wp2_with fail
          (with_reducible refine cS.mono ?_)
          rintro e w9 ⟨rfl, k9⟩
          have KF := Lib.hid (K5.out.trans ((HBT.out.trans (k9.mono sT)).mono K5.out.size))
          clear cS k9
          go_wp2
          go_ret
          exact ⟨by simp, KF.out⟩
        case pos =>
          have htk : t < ks.length := by rw [HP.out]; exact htl
          obtain ⟨gg, rfl, hgg, hgc⟩ := LG.out.pos (by rw [List.length_map]; omega)
          have hgt := hgc t (by rw [List.length_map]; omega)
          rw [List.getElem_map] at hgt
          obtain ⟨d0, d1, d2, d3⟩ := hgt
          obtain ⟨hsz, hsm⟩ := HK1.out _ (List.getElem_mem htk)
          rw [grp_author L _ hsm] at d0
          have HGP := Lib.hid (grp_pos L _ hsm)
          have HGB := Lib.hid (grp_nb L ks[t])
          have HTS := Lib.hid (tot_snoc ks L t htk)
          have HTL := Lib.hid (tot_le HNDK.out L HCOV.out (t + 1))
          have HPREV := Lib.hid (fun j (hj : t = j + 1) => (by
            have hjk : j < ks.length := by omega
            have hg := hgc j (by rw [List.length_map]; omega)
            rw [List.getElem_map] at hg
            obtain ⟨_, hs2⟩ := HK1.out _ (List.getElem_mem hjk)
            have h0 := hg.1
            rw [grp_author L _ hs2] at h0
            refine ⟨ks[j], h0, ?_⟩
            have := List.pairwise_iff_getElem.1 HPW.out j t hjk htk (by omega)
            exact less_true this : ∃ q, W0.cell? ⟨gg, j * 4, none⟩ = some (.string q) ∧ Op.bytesLess q.toList ks[t].toList = true))
          have f0 : (0 : Int) ≤ (t : Int) := by omega
          have f1 : (t : Int) < (p : Int) := by omega
          clear hgc hsz hsm
          generalize ks[t] = s at d0 d1 d2 d3 HGP HGB HTS HPREV
          have D0 := Lib.hid d0
          have D1 := Lib.hid d1
          have D2 := Lib.hid d2
          have D3 := Lib.hid d3
          clear d0 d1 d2 d3
          have hbt := Lib.hid (show Below W0.heap.size W0 wr from HBT.out)
          go_wp2_with fail
          go_loopw [10, 11, 12, 13] (fun s10 s11 s12 s13 wq => ∃ k : Nat, k ≤ i ∧ s13 = .int .i64 (k : Nat) ∧ s10 = .int .i64 (grp (L.take k) s).n ∧ s11 = .int .i64 (grp (L.take k) s).first ∧ s12 = .int .i64 (grp (L.take k) s).last ∧ Hid (Below W0.heap.size W0 wq)) (fun _ _ _ s13 _ => i - (intOf s13).toNat)
          case atStart => exact ⟨0, Nat.zero_le _, rfl, rfl, rfl, rfl, hbt⟩
          case round =>
            clear hbt
            obtain ⟨k, hki, rfl, rfl, rfl, rfl, HBK⟩ := hrel
            have x0 := (HBK.out.cell (p := ⟨gg, t * 4, none⟩) hgg).trans D0.out
            have x1 := (HBK.out.cell (p := ⟨gg, t * 4 + 1, none⟩) hgg).trans D1.out
            have x2 := (HBK.out.cell (p := ⟨gg, t * 4 + 2, none⟩) hgg).trans D2.out
            have x3 := (HBK.out.cell (p := ⟨gg, t * 4 + 3, none⟩) hgg).trans D3.out
            by_cases hkl : k < i
            case pos =>
              have hkL : k < L.length := by rw [HM.out]; exact hkl
              obtain ⟨g, o, rfl, hg, hcl⟩ := LA5.out.pos (by omega)
              obtain ⟨c0, c1, c2⟩ := hcl k hkL
              have z1 := (HBK.out.cell (p := ⟨g, o + k * 3 + 1, none⟩) hg).trans c1
              have z2 := (HBK.out.cell (p := ⟨g, o + k * 3 + 2, none⟩) hg).trans c2
              have HST := Lib.hid (grp_step L k hkL s)
              have HNB := Lib.hid (grp_nb (L.take k) s)
              have g0 : (0 : Int) ≤ (k : Int) := by omega
              have g1 : (k : Int) < (i : Int) := by omega
              have hgn : (grp (L.take k) s).n ≤ 1000 := by have := HNB.out.2; rw [List.length_take] at this; omega
              have hgn0 : 0 ≤ (grp (L.take k) s).n := HNB.out.1
              clear hcl c0 c1 c2
              generalize L[k] = x at z1 z2 HST
              obtain ⟨xa, xs, xt⟩ := x
              dsimp only at z1 z2 HST
              generalize grp (L.take k) s = gq at HST HNB hgn hgn0 ⊢
              obtain ⟨qa, qn, qf, ql⟩ := gq
              dsimp only at hgn hgn0
              have e1 : IntKind.i64.wrap (qn + 1) = qn + 1 := by rw [IntKind.wrap_i64]; omega
              by_cases hxs : xs = s
              case neg =>
                have b1 : (xs.toList == s.toList) = false := str_neB hxs
                have HE := Lib.hid (HST.out.trans (if_neg hxs))
                clear hxs
                go_wp2_with fail
                go_quiet (fail)
                go_wp2_with fail
                exact ⟨⟨k + 1, by omega, by first | rfl | go_num, by rw [HE.out], by rw [HE.out], by rw [HE.out], Lib.hid (bdrew HBK.out _)⟩, by simp [intOf]; omega⟩
              case pos =>
                have b1 : (xs.toList == s.toList) = true := str_eqB hxs
                have HE := Lib.hid (HST.out.trans (if_pos hxs))
                clear hxs
                by_cases hq0 : qn = 0
                · subst hq0
                  have HE2 := Lib.hid (HE.out.trans (show withG ⟨qa, 0, qf, ql⟩ ⟨xa, xs, xt⟩ = ⟨xs, 1, xt, xt⟩ from rfl))
                  go_wp2_with fail
                  go_quiet (fail)
                  go_wp2_with fail
                  go_quiet (fail)
                  go_wp2_with fail
                  go_quiet (fail)
                  go_wp2_with fail
                  exact ⟨⟨k + 1, by omega, by first | rfl | go_num, by rw [HE2.out], by rw [HE2.out], by rw [HE2.out], Lib.hid (bdrew HBK.out _)⟩, by simp [intOf]; omega⟩
                · have hq1 : (qn == 0) = false := neB hq0
                  have HE2 := Lib.hid (HE.out.trans (show withG ⟨qa, qn, qf, ql⟩ ⟨xa, xs, xt⟩ = ⟨xs, qn + 1, min qf xt, max ql xt⟩ from if_neg hq0))
                  go_wp2_with fail
                  go_quiet (fail)
                  go_wp2_with fail
                  go_quiet (fail)
                  go_wp2_with fail
                  exact ⟨⟨k + 1, by omega, by first | rfl | go_num, by rw [HE2.out], by rw [HE2.out], by rw [HE2.out], Lib.hid (bdrew HBK.out _)⟩, by simp [intOf]; omega⟩
            case neg =>
              obtain rfl : k = i := by omega
              rw [List.take_of_length_le (show L.length ≤ k by rw [HM.out]; exact Nat.le_refl _)]
              have hn0 := HGP.out
              have hnb := HGB.out
              generalize hgr : grp L s = gr at x1 x2 x3 hn0 hnb HTS ⊢
              obtain ⟨ra, rn, rf, rl⟩ := gr
              dsimp only at x1 x2 x3 hn0 hnb HTS ⊢
              have b0 : (rn == 0) = false := neB (by omega)
              have b1 : (rn == rn) = true := beq_self_eq_true _
              have b2 : (rf == rf) = true := beq_self_eq_true _
              have b3 : (rl == rl) = true := beq_self_eq_true _
              have e2 : IntKind.i64.wrap (((tot (ks.take t) L : Nat) : Int) + rn) = ((tot (ks.take (t + 1)) L : Nat) : Int) := by
                have h1 := HTS.out
                have h2 := HTL.out
                have h3 := HM.out
                rw [IntKind.wrap_i64]
                omega
              clear hgr
              by_cases ht0 : t = 0
              · subst ht0
                simp only [Nat.zero_mul, Nat.zero_add] at x0 x1 x2 x3
                have e2' : IntKind.i64.wrap (((tot [] L : Nat) : Int) + rn) = ((tot (ks.take (0 + 1)) L : Nat) : Int) := e2
                have e2'' : ((tot (ks.take (0 + 1)) L : Nat) : Int) = rn := by have h := HTS.out; rw [h]; show ((tot [] L : Nat) : Int) + rn = rn; unfold tot; simp
                go_wp2_with fail
                go_quiet (fail)
                go_wp2_with fail
                exact ⟨⟨0 + 1, by omega, by first | rfl | go_num, by first | rfl | (rw [e2'']) | (simpa using e2'), Lib.hid (bdrew HBK.out _)⟩, by simp [intOf]; omega⟩
              · obtain ⟨j, hj⟩ : ∃ j, t = j + 1 := ⟨t - 1, by omega⟩
                obtain ⟨q, hq1, hq2⟩ := HPREV.out j hj
                have y0 := (HBK.out.cell (p := ⟨gg, j * 4, none⟩) hgg).trans hq1
                have a1 : (0 : Int) < (t : Int) := by omega
                have a2 : 0 < t := by omega
                have a3 : IntKind.i64.wrap ((t : Int) - 1) = (j : Int) := by rw [IntKind.wrap_i64]; omega
                have a4 : (t : Int) - 1 = (j : Int) := by omega
                have a5 : IntKind.i64.wrap (j : Int) = (j : Int) := by rw [IntKind.wrap_i64]; omega
                have a6 : (0 : Int) ≤ (j : Int) := by omega
                have a7 : (j : Int) < (p : Int) := by omega
                have HJ := Lib.hid hj
                clear hj hq1
                go_wp2_with fail
                go_quiet (fail)
                go_wp2_with fail
                exact ⟨⟨t + 1, by omega, by first | rfl | go_num, rfl, Lib.hid (bdrew HBK.out _)⟩, by simp [intOf]; omega⟩
    case pos =>
      have hil : i < L.length := by rw [HM.out]; exact hlt
      have HSN := Lib.hid (show chr (L.take (i + 1)) = insR (chr (L.take i)) L[i] by rw [List.take_succ_eq_append_getElem hil, chr_snoc])
      have HWS := Lib.hid (chr_srt (L.take i))
      have HWL := Lib.hid (show (chr (L.take i)).length = i by rw [chr_len, List.length_take, HM.out]; omega)
      generalize chr (L.take i) = W at HRW HSN HWS HWL
      obtain ⟨g, o, rfl, hg, hcl⟩ := LA4.out.pos (by omega)
      obtain ⟨c0', c1', c2'⟩ := hcl i hil
      have C0 := Lib.hid c0'
      have C1 := Lib.hid c1'
      have C2 := Lib.hid c2'
      clear hcl c0' c1' c2'
      generalize L[i] = x at C0 C1 C2 HSN
      obtain ⟨xa, xs, xt⟩ := x
      have f0 : (0 : Int) ≤ (i : Int) := by omega
      have f1 : (i : Int) < (m : Int) := by omega
      have sB := HBR.out.size
      have hb2 := Lib.hid (Below.refl wr.heap.size wr)
      have HG0 := Lib.hid (fun j (h : j < W.length) (h' : i ≤ j) => (by have := HWL.out; omega : Lt2 ⟨xa, xs, xt⟩ W[j]))
      go_wp2_with fail
      go_loopw [7] (fun s7 wq => ∃ a : Nat, a ≤ i ∧ s7 = .int .i64 (a : Nat) ∧ Hid (∀ j (h : j < W.length), a ≤ j → Lt2 ⟨xa, xs, xt⟩ W[j]) ∧ Hid (Below wr.heap.size wr wq)) (fun s7 _ => (intOf s7).toNat)
      case atStart => exact ⟨i, Nat.le_refl _, rfl, HG0, hb2⟩
      case round =>
        clear hb2 HG0
        obtain ⟨a, hai, rfl, HGT, HBQ⟩ := hrel
        have BU := Lib.hid (HBR.out.trans (HBQ.out.mono sB))
        have z0 := (BU.out.cell (p := ⟨g, o + i * 3, none⟩) hg).trans C0.out
        have z1 := (BU.out.cell (p := ⟨g, o + i * 3 + 1, none⟩) hg).trans C1.out
        have z2 := (BU.out.cell (p := ⟨g, o + i * 3 + 2, none⟩) hg).trans C2.out
        have RWQ := Lib.hid (row_below HRW.out HBQ.out)
        by_cases hi0 : i = 0
        case pos =>
          · obtain rfl : a = 0 := by omega
            have HE := Lib.hid (insR_at (L := W) (x := ⟨xa, xs, xt⟩) (i := 0) (fun k h hk => absurd hk (Nat.not_lt_zero _)) HGT.out)
            obtain ⟨rfl, rfl⟩ := hD0 hi0
            subst hi0
            go_wp2_with fail
            go_quiet (fail)
            go_wp2_with fail
            have bq := Lib.hid (bdrew (Below.refl wr.heap.size wr) nq)
            generalize wr.drewN nq = V at bq ⊢
            have BV := Lib.hid (BU.out.trans (bq.out.mono BU.out.size))
            have RV := Lib.hid (row_below RWQ.out bq.out)
            have z0 : V.cell? ⟨g, o, none⟩ = some (.int .i64 xa) := (BV.out.cell (p := ⟨g, o, none⟩) hg).trans (by simpa using C0.out)
            have z1 : V.cell? ⟨g, o + 1, none⟩ = some (.string xs) := (BV.out.cell (p := ⟨g, o + 1, none⟩) hg).trans (by simpa using C1.out)
            have z2 : V.cell? ⟨g, o + 2, none⟩ = some (.int .i64 xt) := (BV.out.cell (p := ⟨g, o + 2, none⟩) hg).trans (by simpa using C2.out)
            skip
            have NWX := Lib.hid (rv_news V ⟨xa, xs, xt⟩)
            have BX := Lib.hid (bdrew1 (BV.out.alloc BV.out.size (.cells #[.int .i64 xa, .string xs, .int .i64 xt] 23)))
            have sX := BX.out.size
            go_region_law (first | (refine step_app0 (by rfl) (.tmp 84) (.tmp 87) (by rfl) V.heap.size 1 1 (by omega) (by rfl) _ _ (by rfl) ?_) | (refine step_append_grows rfl (.tmp 79) (.tmp 88) 24 rfl 23 i0 (.agg #[.int .i64 0, .string ByteArray.empty, .int .i64 0]) 3 32 Try.underlying24 hi hz0 hz1 hz2 rfl (by decide) none 0 0 [] (by rfl) (fun _ => ⟨rfl, rfl⟩) rfl (fun b h => by cases h) ⟨V.heap.size, 0, none⟩ 1 1 (rowR1 ⟨xa, xs, xt⟩) (by rfl) rfl NWX.out (rowR1_one _) (by omega) (by unfold maxLen; omega) (by omega) ?_; intro v1 V2 hown2 hgrow2; obtain ⟨D2, cd2, rfl⟩ := own_form hown2))
            have HO := Lib.hid (show V2.ownsRow w4.heap.size 23 3 (.slice D2 (0 + 1) cd2) (0 + 1) (rowR (insR W ⟨xa, xs, xt⟩)) by have h := own_lower (b' := w4.heap.size) hown2 sX; have hW : W = [] := List.eq_nil_of_length_eq_zero HWL.out; rw [← HE.out, hW]; exact h)
            have BY := Lib.hid (BX.out.grown hgrow2 sX (fun e h => by cases h))
            go_wp2
            go_roundw
            case rel => exact ⟨0 + 1, by omega, by first | rfl | go_num, BY, D2, cd2, rfl, fun e => by omega, Lib.hid (by rw [HSN.out]; exact HO.out)⟩
            case measure => simp [intOf]; omega
        by_cases ha0 : a = 0
        case pos =>
          obtain ⟨h, hDh, hhw⟩ : ∃ h, D = some ⟨h, 0, none⟩ ∧ h < wr.heap.size := by
            rcases RWQ.out.2 with ⟨_, h0⟩ | ⟨g, cap, cur, hv, _, hg, _⟩
            · exact absurd h0 hi0
            · injection hv with h1 _ _; exact ⟨g, h1, (Array.getElem?_eq_some_iff.1 hg).1⟩
          subst hDh
          have HE := Lib.hid (insR_at (L := W) (x := ⟨xa, xs, xt⟩) (i := a) (fun k h hk => absurd hk (by omega)) HGT.out)
          have hic : i ≤ cd := by obtain ⟨_, _, q1, q2, _, _⟩ := row_rs RWQ.out HWL.out; injection q1 with _ _ q3; omega
          have p1 : (0 : Int) ≤ (a : Int) := by omega
          have p2 : (a : Int) ≤ (i : Int) := by omega
          have p3 : (a : Int) ≤ (cd : Int) := by omega
          have p4 : a ≤ cd := by omega
          have p5 : a ≤ i := by omega
          have hca : ¬ (cd = a) := by omega
          have g1 : ¬ (0 : Int) < (a : Int) := by omega
          have g0 : ¬ 0 < a := by omega
          have p6 : a < i := by omega
          clear ha0
          go_wp2_with fail
          go_quiet (fail)
          go_wp2_with fail
          have bq := Lib.hid (bdrew (Below.refl wr.heap.size wr) nq)
          generalize wr.drewN nq = V at bq ⊢
          have BV := Lib.hid (BU.out.trans (bq.out.mono BU.out.size))
          have RV := Lib.hid (row_below RWQ.out bq.out)
          have z0 : V.cell? ⟨g, o + i * 3, none⟩ = some (.int .i64 xa) := (BV.out.cell (p := ⟨g, o + i * 3, none⟩) hg).trans C0.out
          have z1 : V.cell? ⟨g, o + i * 3 + 1, none⟩ = some (.string xs) := (BV.out.cell (p := ⟨g, o + i * 3 + 1, none⟩) hg).trans C1.out
          have z2 : V.cell? ⟨g, o + i * 3 + 2, none⟩ = some (.int .i64 xt) := (BV.out.cell (p := ⟨g, o + i * 3 + 2, none⟩) hg).trans C2.out
          have NWX := Lib.hid (rv_news V ⟨xa, xs, xt⟩)
          have BX := Lib.hid (bdrew1 (BV.out.alloc BV.out.size (.cells #[.int .i64 xa, .string xs, .int .i64 xt] 23)))
          have sX := BX.out.size
          have WVX := Lib.hid (row_rsO RV.out HWL.out)
          have BXV := Lib.hid (bdrew1 ((Below.refl V.heap.size V).alloc (Nat.le_refl _) (.cells #[.int .i64 xa, .string xs, .int .i64 xt] 23)))
          have HS2 := Lib.hid (fun (U : World) (hU : Below V.heap.size V U) => RsAt.cells (RsAt.take (RsAt.below WVX.out hU) a))
          have HS3 := Lib.hid (fun (U : World) (hU : Below V.heap.size V U) => RsAt.cells (RsAt.drop (RsAt.below WVX.out hU) a))
          have l1 := Lib.hid (show (rowR (W.take a)).length = a * 3 by rw [rowR_len, List.length_take, HWL.out]; omega)
          have l2 := Lib.hid (show (rowR (W.drop a)).length = (i - a) * 3 by rw [rowR_len, List.length_drop, HWL.out])
          go_region_law (first | (refine step_append_grows rfl (.tmp 84) (.tmp 87) 24 rfl 23 i0 (.agg #[.int .i64 0, .string ByteArray.empty, .int .i64 0]) 3 32 Try.underlying24 hi hz0 hz1 hz2 rfl (by decide) (some ⟨V.heap.size, 0, none⟩) 1 1 (rowR1 ⟨xa, xs, xt⟩) (by rfl) (fun e => by cases e) rfl (fun b hb jj u hu => by injection hb with hb; subst hb; exact NWX.out jj u hu) ⟨h, a * 3, none⟩ (i - a) (cd - a) (rowR (W.drop a)) (by rfl) l2.out (fun jj u hu => by rw [Addr.add_lit]; have q := HS3.out _ BXV.out jj u hu; rw [Nat.zero_add] at q; exact q) (rowR_one _) (by omega) (by unfold maxLen; omega) (by omega) ?_; intro v1 V1 hown1 hgrow1; obtain ⟨D1, cd1, rfl⟩ := own_form hown1; obtain ⟨b1, rfl⟩ := own_some hown1 (by omega); have BZ := Lib.hid (BXV.out.grown hgrow1 BXV.out.size (fun e h => by cases h)); have NC1 := Lib.hid (own_cells hown1)) | (refine step_append_grows rfl (.tmp 79) (.tmp 88) 24 rfl 23 i0 (.agg #[.int .i64 0, .string ByteArray.empty, .int .i64 0]) 3 32 Try.underlying24 hi hz0 hz1 hz2 rfl (by decide) (some ⟨h, 0, none⟩) a a (rowR (W.take a)) (by rfl) (fun e => by cases e) l1.out (fun b hb jj u hu => by injection hb with hb; subst hb; rw [Addr.add_lit]; exact HS2.out _ BZ.out jj u hu) ⟨b1, 0, none⟩ (1 + (i - a)) cd1 (rowR1 ⟨xa, xs, xt⟩ ++ rowR (W.drop a)) (by rfl) (by rw [List.length_append, l2.out]; show 3 + _ = _; omega) NC1.out (fun u hu => (List.mem_append.1 hu).elim (rowR1_one _ u) (rowR_one _ u)) (by omega) (by unfold maxLen; omega) (by omega) ?_; intro v2 V2 hown2 hgrow2; obtain ⟨D2, cd2, rfl⟩ := own_form hown2))
          have HO := Lib.hid (show V2.ownsRow w4.heap.size 23 3 (.slice D2 (a + (1 + (i - a))) cd2) (a + (1 + (i - a))) (rowR (insR W ⟨xa, xs, xt⟩)) by have h := own_lower (b' := w4.heap.size) hown2 (Nat.le_trans sX hgrow1.size); rw [← HE.out, rowR_append, rowR_cons]; exact h)
          have BY := Lib.hid ((BX.out.grown hgrow1 sX (fun e h => by cases h)).grown hgrow2 (BX.out.grown hgrow1 sX (fun e h => by cases h)).size (fun e h => by cases h))
          have hN : a + (1 + (i - a)) = i + 1 := by omega
          rw [hN] at HO
          go_wp2
          go_roundw
          case rel => exact ⟨i + 1, by omega, by first | rfl | go_num, BY, D2, cd2, by first | rfl | rw [hN], fun e => by omega, Lib.hid (by rw [HSN.out]; exact HO.out)⟩
          case measure => simp [intOf]; omega
        case neg =>
          obtain ⟨j, hj⟩ : ∃ j, a = j + 1 := ⟨a - 1, by omega⟩
          have hjW : j < W.length := by rw [HWL.out]; omega
          obtain ⟨h, hDh, hhw⟩ : ∃ h, D = some ⟨h, 0, none⟩ ∧ h < wr.heap.size := by
            rcases RWQ.out.2 with ⟨_, h0⟩ | ⟨g, cap, cur, hv, _, hg, _⟩
            · omega
            · injection hv with h1 _ _; exact ⟨g, h1, (Array.getElem?_eq_some_iff.1 hg).1⟩
          subst hDh
          have hrg := fun q (hq : q < 3) => (RWQ.out.cellAt (j * 3 + q) (by omega)).trans (rowR_get W j hjW q hq)
          have y0 : wr.cell? ⟨h, j * 3, none⟩ = some (.int .i64 W[j].id) := hrg 0 (by omega)
          have y1 : wr.cell? ⟨h, j * 3 + 1, none⟩ = some (.string W[j].author) := hrg 1 (by omega)
          have y2 : wr.cell? ⟨h, j * 3 + 2, none⟩ = some (.int .i64 W[j].time) := hrg 2 (by omega)
          have g0 : 0 < a := by omega
          have g1 : (0 : Int) < (a : Int) := by omega
          have g2 : (0 : Int) ≤ (j : Int) := by omega
          have g3 : (j : Int) < (i : Int) := by omega
          have g4 : IntKind.i64.wrap ((a : Int) - 1) = (j : Int) := by rw [IntKind.wrap_i64]; omega
          have g5 : (a : Int) - 1 = (j : Int) := by omega
          have g6 : IntKind.i64.wrap (j : Int) = (j : Int) := by rw [IntKind.wrap_i64]; omega
          have HX := Lib.hid (fun (h : Lt2 ⟨xa, xs, xt⟩ W[j]) k (hk : k < W.length) (hjk : j ≤ k) => (if e : k = j then by subst e; exact h else HGT.out k hk (by omega) : Lt2 ⟨xa, xs, xt⟩ W[k]))
          have HY := Lib.hid (fun (h : ¬ Lt2 ⟨xa, xs, xt⟩ W[j]) => insR_at (L := W) (x := ⟨xa, xs, xt⟩) (i := a) (fun k hk hka => wsrt_low HWS.out hjW h k hk (by omega)) HGT.out)
          clear hrg
          generalize W[j] = v at y0 y1 y2 HX HY
          obtain ⟨va, vs, vt⟩ := v
          dsimp only at y0 y1 y2
          unfold Lt2 at HX HY
          dsimp only at HX HY
          have HJ := Lib.hid hj
          clear hj
          by_cases hv : xt < vt ∨ xt = vt ∧ xa < va
          case pos =>
            have HE := Lib.hid (HX.out hv)
            clear HX HY
            rcases hv with hv | ⟨hv1, hv2⟩
            · go_wp2_with fail
              go_quiet (fail)
              go_wp2_with fail
              exact ⟨⟨j, by omega, rfl, HE, Lib.hid (bdrew HBQ.out _)⟩, by have := HJ.out; simp [intOf]; omega⟩
            · have n1 : ¬ xt < vt := by omega
              have e3 : (vt == xt) = true := by rw [hv1]; exact beq_self_eq_true vt
              subst hv1
              go_wp2_with fail
              go_quiet (fail)
              go_wp2_with fail
              exact ⟨⟨j, by omega, rfl, HE, Lib.hid (bdrew HBQ.out _)⟩, by have := HJ.out; simp [intOf]; omega⟩
          case neg =>
            have HE := Lib.hid (HY.out hv)
            clear HX HY
            have hv1 : ¬ xt < vt := fun e => hv (.inl e)
            have hic : i ≤ cd := by obtain ⟨_, _, q1, q2, _, _⟩ := row_rs RWQ.out HWL.out; injection q1 with _ _ q3; omega
            have p1 : (0 : Int) ≤ (a : Int) := by omega
            have p2 : (a : Int) ≤ (i : Int) := by omega
            have p3 : (a : Int) ≤ (cd : Int) := by omega
            have p4 : a ≤ cd := by omega
            have p5 : a ≤ i := by omega
            by_cases hai2 : a = i
            · subst hai2
              by_cases hcd : cd = a
              all_goals
                by_cases hvt : vt = xt
                · have n3 : ¬ xa < va := fun e => hv (.inr ⟨hvt.symm, e⟩)
                  have e3 : (vt == xt) = true := by rw [hvt]; exact beq_self_eq_true xt
                  have hvt' := hvt.symm
                  subst hvt'
                  clear hv
                  go_wp2_with fail
                  go_quiet (fail)
                  go_wp2_with fail
                  have bq := Lib.hid (bdrew (Below.refl wr.heap.size wr) nq)
                  generalize wr.drewN nq = V at bq ⊢
                  have BV := Lib.hid (BU.out.trans (bq.out.mono BU.out.size))
                  have RV := Lib.hid (row_below RWQ.out bq.out)
                  have z0 : V.cell? ⟨g, o + a * 3, none⟩ = some (.int .i64 xa) := (BV.out.cell (p := ⟨g, o + a * 3, none⟩) hg).trans C0.out
                  have z1 : V.cell? ⟨g, o + a * 3 + 1, none⟩ = some (.string xs) := (BV.out.cell (p := ⟨g, o + a * 3 + 1, none⟩) hg).trans C1.out
                  have z2 : V.cell? ⟨g, o + a * 3 + 2, none⟩ = some (.int .i64 xt) := (BV.out.cell (p := ⟨g, o + a * 3 + 2, none⟩) hg).trans C2.out
                  have NWX := Lib.hid (rv_news V ⟨xa, xs, xt⟩)
                  have BX := Lib.hid (bdrew1 (BV.out.alloc BV.out.size (.cells #[.int .i64 xa, .string xs, .int .i64 xt] 23)))
                  have sX := BX.out.size
                  have WVX := Lib.hid (row_rsO RV.out HWL.out)
                  have BXV := Lib.hid (bdrew1 ((Below.refl V.heap.size V).alloc (Nat.le_refl _) (.cells #[.int .i64 xa, .string xs, .int .i64 xt] 23)))
                  have HS2 := Lib.hid (fun (U : World) (hU : Below V.heap.size V U) => RsAt.cells (RsAt.below WVX.out hU))
                  go_region_law (first | (refine step_app0 (by rfl) (.tmp 84) (.tmp 87) (by rfl) V.heap.size 1 1 (by omega) (by rfl) _ _ (by rfl) ?_) | (refine step_append_grows rfl (.tmp 79) (.tmp 88) 24 rfl 23 i0 (.agg #[.int .i64 0, .string ByteArray.empty, .int .i64 0]) 3 32 Try.underlying24 hi hz0 hz1 hz2 rfl (by decide) (some ⟨h, 0, none⟩) a a (rowR W) (by rfl) (fun e => by cases e) (by rw [rowR_len, HWL.out]) (fun b hb jj u hu => by injection hb with hb; subst hb; rw [Addr.add_lit]; exact HS2.out _ BXV.out jj u hu) ⟨V.heap.size, 0, none⟩ 1 1 (rowR1 ⟨xa, xs, xt⟩) (by rfl) rfl NWX.out (rowR1_one _) (by omega) (by unfold maxLen; omega) (by omega) ?_; intro v1 V2 hown2 hgrow2; obtain ⟨D2, cd2, rfl⟩ := own_form hown2))
                  have HO := Lib.hid (show V2.ownsRow w4.heap.size 23 3 (.slice D2 (a + 1) cd2) (a + 1) (rowR (insR W ⟨xa, xs, xt⟩)) by have h := own_lower (b' := w4.heap.size) hown2 sX; rw [← HE.out, List.take_of_length_le (by rw [HWL.out]; exact Nat.le_refl _), List.drop_eq_nil_of_le (by rw [HWL.out]; exact Nat.le_refl _), rowR_snoc]; exact h)
                  have BY := Lib.hid (BX.out.grown hgrow2 sX (fun e h => by cases h))
                  go_wp2
                  go_roundw
                  case rel => exact ⟨a + 1, by omega, by first | rfl | go_num, BY, D2, cd2, rfl, fun e => by omega, Lib.hid (by rw [HSN.out]; exact HO.out)⟩
                  case measure => simp [intOf]; omega
                · have e3 : (vt == xt) = false := neB hvt
                  clear hv hvt
                  go_wp2_with fail
                  go_quiet (fail)
                  go_wp2_with fail
                  have bq := Lib.hid (bdrew (Below.refl wr.heap.size wr) nq)
                  generalize wr.drewN nq = V at bq ⊢
                  have BV := Lib.hid (BU.out.trans (bq.out.mono BU.out.size))
                  have RV := Lib.hid (row_below RWQ.out bq.out)
                  have z0 : V.cell? ⟨g, o + a * 3, none⟩ = some (.int .i64 xa) := (BV.out.cell (p := ⟨g, o + a * 3, none⟩) hg).trans C0.out
                  have z1 : V.cell? ⟨g, o + a * 3 + 1, none⟩ = some (.string xs) := (BV.out.cell (p := ⟨g, o + a * 3 + 1, none⟩) hg).trans C1.out
                  have z2 : V.cell? ⟨g, o + a * 3 + 2, none⟩ = some (.int .i64 xt) := (BV.out.cell (p := ⟨g, o + a * 3 + 2, none⟩) hg).trans C2.out
                  have NWX := Lib.hid (rv_news V ⟨xa, xs, xt⟩)
                  have BX := Lib.hid (bdrew1 (BV.out.alloc BV.out.size (.cells #[.int .i64 xa, .string xs, .int .i64 xt] 23)))
                  have sX := BX.out.size
                  have WVX := Lib.hid (row_rsO RV.out HWL.out)
                  have BXV := Lib.hid (bdrew1 ((Below.refl V.heap.size V).alloc (Nat.le_refl _) (.cells #[.int .i64 xa, .string xs, .int .i64 xt] 23)))
                  have HS2 := Lib.hid (fun (U : World) (hU : Below V.heap.size V U) => RsAt.cells (RsAt.below WVX.out hU))
                  go_region_law (first | (refine step_app0 (by rfl) (.tmp 84) (.tmp 87) (by rfl) V.heap.size 1 1 (by omega) (by rfl) _ _ (by rfl) ?_) | (refine step_append_grows rfl (.tmp 79) (.tmp 88) 24 rfl 23 i0 (.agg #[.int .i64 0, .string ByteArray.empty, .int .i64 0]) 3 32 Try.underlying24 hi hz0 hz1 hz2 rfl (by decide) (some ⟨h, 0, none⟩) a a (rowR W) (by rfl) (fun e => by cases e) (by rw [rowR_len, HWL.out]) (fun b hb jj u hu => by injection hb with hb; subst hb; rw [Addr.add_lit]; exact HS2.out _ BXV.out jj u hu) ⟨V.heap.size, 0, none⟩ 1 1 (rowR1 ⟨xa, xs, xt⟩) (by rfl) rfl NWX.out (rowR1_one _) (by omega) (by unfold maxLen; omega) (by omega) ?_; intro v1 V2 hown2 hgrow2; obtain ⟨D2, cd2, rfl⟩ := own_form hown2))
                  have HO := Lib.hid (show V2.ownsRow w4.heap.size 23 3 (.slice D2 (a + 1) cd2) (a + 1) (rowR (insR W ⟨xa, xs, xt⟩)) by have h := own_lower (b' := w4.heap.size) hown2 sX; rw [← HE.out, List.take_of_length_le (by rw [HWL.out]; exact Nat.le_refl _), List.drop_eq_nil_of_le (by rw [HWL.out]; exact Nat.le_refl _), rowR_snoc]; exact h)
                  have BY := Lib.hid (BX.out.grown hgrow2 sX (fun e h => by cases h))
                  go_wp2
                  go_roundw
                  case rel => exact ⟨a + 1, by omega, by first | rfl | go_num, BY, D2, cd2, rfl, fun e => by omega, Lib.hid (by rw [HSN.out]; exact HO.out)⟩
                  case measure => simp [intOf]; omega
            · have hca : ¬ (cd = a) := by omega
              have p6 : a < i := by omega
              by_cases hvt : vt = xt
              · have n3 : ¬ xa < va := fun e => hv (.inr ⟨hvt.symm, e⟩)
                have e3 : (vt == xt) = true := by rw [hvt]; exact beq_self_eq_true xt
                have hvt' := hvt.symm
                subst hvt'
                clear hv
                go_wp2_with fail
                go_quiet (fail)
                go_wp2_with fail
                have bq := Lib.hid (bdrew (Below.refl wr.heap.size wr) nq)
                generalize wr.drewN nq = V at bq ⊢
                have BV := Lib.hid (BU.out.trans (bq.out.mono BU.out.size))
                have RV := Lib.hid (row_below RWQ.out bq.out)
                have z0 : V.cell? ⟨g, o + i * 3, none⟩ = some (.int .i64 xa) := (BV.out.cell (p := ⟨g, o + i * 3, none⟩) hg).trans C0.out
                have z1 : V.cell? ⟨g, o + i * 3 + 1, none⟩ = some (.string xs) := (BV.out.cell (p := ⟨g, o + i * 3 + 1, none⟩) hg).trans C1.out
                have z2 : V.cell? ⟨g, o + i * 3 + 2, none⟩ = some (.int .i64 xt) := (BV.out.cell (p := ⟨g, o + i * 3 + 2, none⟩) hg).trans C2.out
                have NWX := Lib.hid (rv_news V ⟨xa, xs, xt⟩)
                have BX := Lib.hid (bdrew1 (BV.out.alloc BV.out.size (.cells #[.int .i64 xa, .string xs, .int .i64 xt] 23)))
                have sX := BX.out.size
                have WVX := Lib.hid (row_rsO RV.out HWL.out)
                have BXV := Lib.hid (bdrew1 ((Below.refl V.heap.size V).alloc (Nat.le_refl _) (.cells #[.int .i64 xa, .string xs, .int .i64 xt] 23)))
                have HS2 := Lib.hid (fun (U : World) (hU : Below V.heap.size V U) => RsAt.cells (RsAt.take (RsAt.below WVX.out hU) a))
                have HS3 := Lib.hid (fun (U : World) (hU : Below V.heap.size V U) => RsAt.cells (RsAt.drop (RsAt.below WVX.out hU) a))
                have l1 := Lib.hid (show (rowR (W.take a)).length = a * 3 by rw [rowR_len, List.length_take, HWL.out]; omega)
                have l2 := Lib.hid (show (rowR (W.drop a)).length = (i - a) * 3 by rw [rowR_len, List.length_drop, HWL.out])
                go_region_law (first | (refine step_append_grows rfl (.tmp 84) (.tmp 87) 24 rfl 23 i0 (.agg #[.int .i64 0, .string ByteArray.empty, .int .i64 0]) 3 32 Try.underlying24 hi hz0 hz1 hz2 rfl (by decide) (some ⟨V.heap.size, 0, none⟩) 1 1 (rowR1 ⟨xa, xs, xt⟩) (by rfl) (fun e => by cases e) rfl (fun b hb jj u hu => by injection hb with hb; subst hb; exact NWX.out jj u hu) ⟨h, a * 3, none⟩ (i - a) (cd - a) (rowR (W.drop a)) (by rfl) l2.out (fun jj u hu => by rw [Addr.add_lit]; have q := HS3.out _ BXV.out jj u hu; rw [Nat.zero_add] at q; exact q) (rowR_one _) (by omega) (by unfold maxLen; omega) (by omega) ?_; intro v1 V1 hown1 hgrow1; obtain ⟨D1, cd1, rfl⟩ := own_form hown1; obtain ⟨b1, rfl⟩ := own_some hown1 (by omega); have BZ := Lib.hid (BXV.out.grown hgrow1 BXV.out.size (fun e h => by cases h)); have NC1 := Lib.hid (own_cells hown1)) | (refine step_append_grows rfl (.tmp 79) (.tmp 88) 24 rfl 23 i0 (.agg #[.int .i64 0, .string ByteArray.empty, .int .i64 0]) 3 32 Try.underlying24 hi hz0 hz1 hz2 rfl (by decide) (some ⟨h, 0, none⟩) a a (rowR (W.take a)) (by rfl) (fun e => by cases e) l1.out (fun b hb jj u hu => by injection hb with hb; subst hb; rw [Addr.add_lit]; exact HS2.out _ BZ.out jj u hu) ⟨b1, 0, none⟩ (1 + (i - a)) cd1 (rowR1 ⟨xa, xs, xt⟩ ++ rowR (W.drop a)) (by rfl) (by rw [List.length_append, l2.out]; show 3 + _ = _; omega) NC1.out (fun u hu => (List.mem_append.1 hu).elim (rowR1_one _ u) (rowR_one _ u)) (by omega) (by unfold maxLen; omega) (by omega) ?_; intro v2 V2 hown2 hgrow2; obtain ⟨D2, cd2, rfl⟩ := own_form hown2))
                have HO := Lib.hid (show V2.ownsRow w4.heap.size 23 3 (.slice D2 (a + (1 + (i - a))) cd2) (a + (1 + (i - a))) (rowR (insR W ⟨xa, xs, xt⟩)) by have h := own_lower (b' := w4.heap.size) hown2 (Nat.le_trans sX hgrow1.size); rw [← HE.out, rowR_append, rowR_cons]; exact h)
                have BY := Lib.hid ((BX.out.grown hgrow1 sX (fun e h => by cases h)).grown hgrow2 (BX.out.grown hgrow1 sX (fun e h => by cases h)).size (fun e h => by cases h))
                have hN : a + (1 + (i - a)) = i + 1 := by omega
                rw [hN] at HO
                go_wp2
                go_roundw
                case rel => exact ⟨i + 1, by omega, by first | rfl | go_num, BY, D2, cd2, by first | rfl | rw [hN], fun e => by omega, Lib.hid (by rw [HSN.out]; exact HO.out)⟩
                case measure => simp [intOf]; omega
              · have e3 : (vt == xt) = false := neB hvt
                clear hv hvt
                go_wp2_with fail
                go_quiet (fail)
                go_wp2_with fail
                have bq := Lib.hid (bdrew (Below.refl wr.heap.size wr) nq)
                generalize wr.drewN nq = V at bq ⊢
                have BV := Lib.hid (BU.out.trans (bq.out.mono BU.out.size))
                have RV := Lib.hid (row_below RWQ.out bq.out)
                have z0 : V.cell? ⟨g, o + i * 3, none⟩ = some (.int .i64 xa) := (BV.out.cell (p := ⟨g, o + i * 3, none⟩) hg).trans C0.out
                have z1 : V.cell? ⟨g, o + i * 3 + 1, none⟩ = some (.string xs) := (BV.out.cell (p := ⟨g, o + i * 3 + 1, none⟩) hg).trans C1.out
                have z2 : V.cell? ⟨g, o + i * 3 + 2, none⟩ = some (.int .i64 xt) := (BV.out.cell (p := ⟨g, o + i * 3 + 2, none⟩) hg).trans C2.out
                have NWX := Lib.hid (rv_news V ⟨xa, xs, xt⟩)
                have BX := Lib.hid (bdrew1 (BV.out.alloc BV.out.size (.cells #[.int .i64 xa, .string xs, .int .i64 xt] 23)))
                have sX := BX.out.size
                have WVX := Lib.hid (row_rsO RV.out HWL.out)
                have BXV := Lib.hid (bdrew1 ((Below.refl V.heap.size V).alloc (Nat.le_refl _) (.cells #[.int .i64 xa, .string xs, .int .i64 xt] 23)))
                have HS2 := Lib.hid (fun (U : World) (hU : Below V.heap.size V U) => RsAt.cells (RsAt.take (RsAt.below WVX.out hU) a))
                have HS3 := Lib.hid (fun (U : World) (hU : Below V.heap.size V U) => RsAt.cells (RsAt.drop (RsAt.below WVX.out hU) a))
                have l1 := Lib.hid (show (rowR (W.take a)).length = a * 3 by rw [rowR_len, List.length_take, HWL.out]; omega)
                have l2 := Lib.hid (show (rowR (W.drop a)).length = (i - a) * 3 by rw [rowR_len, List.length_drop, HWL.out])
                go_region_law (first | (refine step_append_grows rfl (.tmp 84) (.tmp 87) 24 rfl 23 i0 (.agg #[.int .i64 0, .string ByteArray.empty, .int .i64 0]) 3 32 Try.underlying24 hi hz0 hz1 hz2 rfl (by decide) (some ⟨V.heap.size, 0, none⟩) 1 1 (rowR1 ⟨xa, xs, xt⟩) (by rfl) (fun e => by cases e) rfl (fun b hb jj u hu => by injection hb with hb; subst hb; exact NWX.out jj u hu) ⟨h, a * 3, none⟩ (i - a) (cd - a) (rowR (W.drop a)) (by rfl) l2.out (fun jj u hu => by rw [Addr.add_lit]; have q := HS3.out _ BXV.out jj u hu; rw [Nat.zero_add] at q; exact q) (rowR_one _) (by omega) (by unfold maxLen; omega) (by omega) ?_; intro v1 V1 hown1 hgrow1; obtain ⟨D1, cd1, rfl⟩ := own_form hown1; obtain ⟨b1, rfl⟩ := own_some hown1 (by omega); have BZ := Lib.hid (BXV.out.grown hgrow1 BXV.out.size (fun e h => by cases h)); have NC1 := Lib.hid (own_cells hown1)) | (refine step_append_grows rfl (.tmp 79) (.tmp 88) 24 rfl 23 i0 (.agg #[.int .i64 0, .string ByteArray.empty, .int .i64 0]) 3 32 Try.underlying24 hi hz0 hz1 hz2 rfl (by decide) (some ⟨h, 0, none⟩) a a (rowR (W.take a)) (by rfl) (fun e => by cases e) l1.out (fun b hb jj u hu => by injection hb with hb; subst hb; rw [Addr.add_lit]; exact HS2.out _ BZ.out jj u hu) ⟨b1, 0, none⟩ (1 + (i - a)) cd1 (rowR1 ⟨xa, xs, xt⟩ ++ rowR (W.drop a)) (by rfl) (by rw [List.length_append, l2.out]; show 3 + _ = _; omega) NC1.out (fun u hu => (List.mem_append.1 hu).elim (rowR1_one _ u) (rowR_one _ u)) (by omega) (by unfold maxLen; omega) (by omega) ?_; intro v2 V2 hown2 hgrow2; obtain ⟨D2, cd2, rfl⟩ := own_form hown2))
                have HO := Lib.hid (show V2.ownsRow w4.heap.size 23 3 (.slice D2 (a + (1 + (i - a))) cd2) (a + (1 + (i - a))) (rowR (insR W ⟨xa, xs, xt⟩)) by have h := own_lower (b' := w4.heap.size) hown2 (Nat.le_trans sX hgrow1.size); rw [← HE.out, rowR_append, rowR_cons]; exact h)
                have BY := Lib.hid ((BX.out.grown hgrow1 sX (fun e h => by cases h)).grown hgrow2 (BX.out.grown hgrow1 sX (fun e h => by cases h)).size (fun e h => by cases h))
                have hN : a + (1 + (i - a)) = i + 1 := by omega
                rw [hN] at HO
                go_wp2
                go_roundw
                case rel => exact ⟨i + 1, by omega, by first | rfl | go_num, BY, D2, cd2, by first | rfl | rw [hN], fun e => by omega, Lib.hid (by rw [HSN.out]; exact HO.out)⟩
                case measure => simp [intOf]; omega
/-- The law: orders. -/
theorem law_orders (A : Option Addr) (n c : Nat) (l : List Rv) (hn : l.length = n) (hc : n ≤ c ∧ c ≤ maxLen) (hok : RsOk l) (w : World) (hA : RsAt w A l) : Calls Try.prog 10 #[.slice A n c] w (TrueW w) :=
  orders_in (cutL l) _ rfl (cut_40 l) (cut_sz l) (cutL_ok hok) A n c w (cut_c l n hn hok A c hc w hA)
end Go.Proofs.Ytmpklkhjipclmaa
