/- Layer 6: the law of sorting (10). -/
import Derived.Test.YtknbglcmjggkjaaNB
import Derived.StillTailTactics
import Derived.Deep.RegionHeld3
namespace Go.Proofs.Ytknbglcmjggkjaa
open Go.RowKit Go.Shelf Go.Lib Go.Sort Sm Co

attribute [local irreducible] wpStill in
set_option maxRecDepth 100000 in
set_option maxHeartbeats 8000000 in
theorem law_sorts {v : Value} (st : Int) (nu ig uf : Bool) (w : World) (hv : StrsIn w v) : Calls Try.prog 10 #[v, opV st nu ig uf] w (TrueW w) := by
  obtain ⟨i1, hi1, hy0, hy1, hy2⟩ := info_parts info9
  obtain ⟨A, m, c, S, rfl, hmc, hcm, HS⟩ : ∃ (A : Option Addr) (m c : Nat) (S : Nat → ByteArray), v = .slice A m c ∧ m ≤ c ∧ c ≤ maxLen ∧ Hid (∀ i, i < m → ∃ a, A = some a ∧ a.block < w.heap.size ∧ w.cell? (a.add i) = some (.string (S i)) ∧ (S i).size ≤ maxLen) := by
    rcases hv with rfl | ⟨a, len, cap, S, rfl, h1, h2, h3, h4⟩
    · exact ⟨none, 0, 0, fun _ => ByteArray.empty, rfl, Nat.le_refl _, Nat.zero_le _, Go.Lib.hid fun i h => by omega⟩
    · exact ⟨some a, len, cap, S, rfl, h2, h3, Go.Lib.hid fun i h => ⟨a, rfl, h1 (by omega), (h4 i h).1, (h4 i h).2⟩⟩
  have HA : Hid (A = none → c = 0) := by
    rcases hv with h | ⟨a, len, cap, S, h, _⟩
    · injection h with _ _ h3
      exact Go.Lib.hid fun _ => h3
    · injection h with h1
      exact Go.Lib.hid fun h => by rw [h1] at h; cases h
  clear hv
  obtain ⟨n, hn⟩ : ∃ n, n = min m 40 := ⟨_, rfl⟩
  have h40 : n ≤ 40 := by omega
  have hnm : n ≤ m := by omega
  have hnz : min (m : Int) 40 = (n : Int) := by omega
  obtain ⟨l, hl1, hl2, hl3⟩ := cuts_ex S n
  have HL1 := Go.Lib.hid hl1
  have HL2 := Go.Lib.hid hl2
  have HC := Go.Lib.hid (show ∀ k, k < n → ∃ x ∈ l, l.take (k + 1) = l.take k ++ [x] ∧ x.s = cutS (S k) from fun k hk => by
    have hkl : k < l.length := by omega
    exact ⟨l[k], List.getElem_mem hkl, List.take_succ_eq_append_getElem hkl, hl3 k hkl⟩)
  clear hl1 hl2 hl3 hn
  have o1 := ObjAt.new w #[.int .i64 st, .bool nu, .bool ig, .bool uf] 23
  have hB : Below w.heap.size w (w.alloc (.cells #[.int .i64 st, .bool nu, .bool ig, .bool uf] 23)) := (Below.refl _ w).alloc (Nat.le_refl _) _
  unfold maxLen at hcm
  have c63 : (c : Int) ≤ 9223372036854775807 := by omega
  have m63 : (m : Int) ≤ 9223372036854775807 := by omega
  have n0 : (0 : Int) ≤ (n : Int) := by omega
  have nc : (n : Int) ≤ (c : Int) := by omega
  unfold opV at *
  go_enter Try.func10, Try.ntmps10
  go_wp2_with fail
  generalize hW : w.alloc (.cells #[.int .i64 st, .bool nu, .bool ig, .bool uf] 23) = W at *
  have hWs : W.heap.size = w.heap.size + 1 := by rw [← hW]; simp
  clear hW
  have O := Go.Lib.hid o1
  have HB := Go.Lib.hid hB
  clear o1 hB
  have hb0 := Below.refl W.heap.size W
  go_loopw [5, 6] (fun lv kv wr => ∃ k : Nat, k ≤ n ∧ kv = .int .i64 (k : Nat) ∧ wr.ownsRow W.heap.size 9 1 lv k ((l.take k).map fun x => .string x.s) ∧ Below W.heap.size W wr) (fun _ kv _ => n - (RowKit.intOf kv).toNat)
  case atStart => exact ⟨0, Nat.zero_le _, rfl, World.ownsRow_nil _ _ _ _, hb0⟩
  case round =>
    clear hb0
    obtain ⟨k, hk, rfl, hvk, hbk⟩ := hrel
    have hsk := hbk.size
    by_cases hlt : k < n
    · have j0 : (0 : Int) ≤ (k : Int) := by omega
      have j1 : (k : Int) < (n : Int) := by omega
      obtain ⟨a, rfl, ha, hc, hsz⟩ := HS.out k (by omega)
      have hab : (a.add k).block = a.block := by unfold Addr.add; split <;> rfl
      have c0 := (hbk.cell (p := a.add k) (by rw [hab]; omega)).trans ((HB.out.cell (p := a.add k) (by rw [hab]; exact ha)).trans hc)
      obtain ⟨x, hx, ht, hxs⟩ := HC.out k hlt
      have cc := fun w' => cut_any (S k) hsz w'
      rw [← hxs] at cc
      have HT := Go.Lib.hid (show (l.take (k + 1)).map (fun x => Value.string x.s) = (l.take k).map (fun x => Value.string x.s) ++ [.string x.s] by rw [ht, List.map_append]; rfl)
      generalize (l.take k).map (fun x => Value.string x.s) = cs at hvk HT
      generalize x.s = q at cc HT
      generalize S k = sk at c0 cc
      clear hc hsz ht hxs hx
      clear hab
      go_wp2_with (first
        | (go_at_call 14; (with_reducible refine (cc _).mono ?_); rintro e wr ⟨rfl, rfl⟩)
        | (at_builtin; go_loud (refine wpList_append_own _ rfl _ _ 56 rfl W.heap.size 9 i1 _ 1 16 Try.underlying56 hi1 hy0 hy1 hy2 rfl (by decide) _ _ _ rfl (World.ownsRow.alloc hvk _) ⟨wr.heap.size, 0, none⟩ 1 1 [.string q] rfl rfl (cell_one_new _ _ _) (by intro u hu; simp at hu; subst hu; rfl) (by unfold maxLen; omega) (by omega) (by simp; omega) ?_; intro v4 w4 hown4 hgrow4 _))
        | fail)
      go_roundw
      case rel => exact ⟨k + 1, by omega, by go_num, by rw [HT.out]; exact hown4, (hbk.alloc (by omega) _).grown hgrow4 (by simp; omega) (fun j e => (World.ownsRow.lt (show World.ownsRow _ _ _ _ _ _ _ from hvk) j e).1)⟩
      case measure => simp [RowKit.intOf]; omega
    · have j1 : ¬ (k : Int) < (n : Int) := by omega
      obtain rfl : k = n := by omega
      rw [List.take_of_length_le (by rw [HL1.out]; exact Nat.le_refl _)] at hvk
      have hst := strsAt_row hvk HL1.out
      have cS := fun w' (hb : Below wr.heap.size wr w') => sort_any st nu ig uf w' HL1.out h40 (fun x hx => by have := HL2.out x hx; omega) (hst.below hb)
      have cF := fun w' (hb : Below wr.heap.size wr w') => fault_any (st := st) (nu := nu) (ig := ig) (uf := uf) w' (hst.below hb) (by rw [HL1.out]; omega)
      unfold opV at cS cF
      have CS := Go.Lib.hid cS
      have CF := Go.Lib.hid cF
      have HVK := Go.Lib.hid hvk
      have o2 := O.out.below hbk
      have z0 := o2.o0
      have z1 := o2.o1
      have z2 := o2.o2
      have z3 := o2.o3
      obtain ⟨B5, c5, rfl⟩ : ∃ B d, u5 = .slice B k d := by
        have h1 := HL1.out
        rcases hst with ⟨h, rfl⟩ | ⟨g, cap, rfl, _⟩
        · rw [h] at h1; exact ⟨none, 0, by rw [← h1]; rfl⟩
        · exact ⟨_, _, by rw [h1]⟩
      clear cS cF hvk HC HS HA hlt hnz
      go_wp2_with fail
      refine (CS.out wr (Below.refl _ _)).mono ?_
      rintro e w1 ⟨hs0, hs1⟩
      have HST := Go.Lib.hid hst
      clear CS z0 z1 z2 z3 o2 hst
      by_cases h0 : faultN st l = 0
      · obtain ⟨v, d, rfl, hd, hm, hvd, k1⟩ := hs0 h0
        have HS0 := Go.Lib.hid h0
        have hk2 := k1.size
        have HBk := Go.Lib.hid hbk
        have HK1 := Go.Lib.hid k1
        have HM := Go.Lib.hid hm
        have HD := Go.Lib.hid hd
        have HVD := Go.Lib.hid hvd
        clear hs0 hs1 hm hd hvd k1 hbk
        rw [h0] at CF
        clear h0
        obtain ⟨B7, c7, rfl⟩ : ∃ B d, v = .slice B l.length d := by
          obtain ⟨_, h | ⟨g, cap, cur, rfl, _⟩⟩ := HVD.out
          · exact ⟨none, 0, by rw [h.1, h.2]⟩
          · exact ⟨_, _, rfl⟩
        go_wp2_with (first
          | (go_at_call 16; (with_reducible refine (known_any _).mono ?_); rintro e w2 ⟨rfl, k2⟩; have kk := HK1.out.trans (k2.mono hk2); have o2 := O.out.below (HBk.out.trans (kk.mono hsk)); have z0 := o2.o0; have z1 := o2.o1; have z2 := o2.o2; have z3 := o2.o3; have cf := CF.out w2 kk)
          | (go_at_call 18; (with_reducible refine cf.mono ?_); rintro e w3 ⟨rfl, k3⟩; clear z0 z1 z2 z3 o2)
          | fail)
        have hb3 : Below wr.heap.size wr w3 := kk.trans (k3.mono (Nat.le_trans hk2 k2.size))
        have HB3 := Go.Lib.hid hb3
        have hs3 := hb3.size
        have HCI := Go.Lib.hid (show ∀ i, i < k → ∃ x ∈ l, kdOf st nu ig uf (l.take (i + 1)) = kdOf st nu ig uf (l.take i) ++ [(bs (keyX st nu ig uf x), x.s, i)] ∧ ∃ g, B5 = some ⟨g, 0, none⟩ ∧ g < wr.heap.size ∧ wr.cell? ⟨g, i, none⟩ = some (.string x.s) from fun i hi => by
          have hil : i < l.length := by rw [HL1.out]; exact hi
          refine ⟨l[i], List.getElem_mem hil, ?_, ?_⟩
          · rw [List.take_succ_eq_append_getElem hil, kdOf_snoc, List.length_take, Nat.min_eq_left (by omega)]
          · rcases HST.out with ⟨h, _⟩ | ⟨g, cap, hv, hg, hc⟩
            · rw [h] at hil; exact absurd hil (Nat.not_lt_zero _)
            · injection hv with hv1
              exact ⟨g, hv1, hg, hc i hil⟩)
        have HQI := Go.Lib.hid (show ∀ i (Q : List Kd), Q.Perm (kdOf st nu ig uf (l.take i)) → ∀ y ∈ Q, ∃ z ∈ l, y.1 = bs (keyX st nu ig uf z) ∧ y.2.1 = z.s ∧ y.2.2 < i from fun i Q hp y hy => by
          have := hp.subset hy
          unfold kdOf at this
          obtain ⟨j, hj, rfl⟩ := List.mem_mapIdx.1 this
          have hji : j < i := by rw [List.length_take] at hj; omega
          exact ⟨(l.take i)[j], List.mem_of_mem_take (List.getElem_mem hj), rfl, rfl, hji⟩)
        have hz := faultN_zero HS0.out
        have CR := Go.Lib.hid (show ∀ x ∈ l, ∀ z ∈ l, ∀ W', Calls Try.prog 24 #[.string x.s, .string z.s, .agg #[.int .i64 st, .bool nu, .bool ig, .bool uf]] W' fun e w' => e = .returned (.int .i64 (cmpX st nu ig uf x z)) ∧ Below W'.heap.size W' w' from fun x hx z hz' W' =>
          rcompare_any nu ig uf (hz.2 x hx) (hz.2 z hz') hz.1.1 hz.1.2 (by have := HL2.out x hx; omega) (by have := HL2.out z hz'; omega) W')
        have CO := Go.Lib.hid (show ∀ W', Calls Try.prog 20 #[.agg #[.int .i64 st, .bool nu, .bool ig, .bool uf]] W' fun e w' => e = .returned (.agg #[.int .i64 st, .bool nu, .bool ig, .bool uf]) ∧ Below W'.heap.size W' w' from fun W' => options_any st nu ig uf W')
        clear hz
        have b33 := Below.refl w3.heap.size w3
        have HB13 := Go.Lib.hid (show Below w1.heap.size w1 w3 from k2.trans (k3.mono k2.size))
        clear kk k2 k3 hb3
        go_loopw [10, 11] (fun qv iv w4 => ∃ (i : Nat) (Q : List Kd), i ≤ k ∧ iv = .int .i64 (i : Nat) ∧ Q.length = i ∧ Hid (Q.Pairwise kdLt ∧ Q.Perm (kdOf st nu ig uf (l.take i))) ∧ w4.ownsRow w3.heap.size 9 1 qv i (kdStrs Q) ∧ Below w3.heap.size w3 w4) (fun _ iv _ => k - (RowKit.intOf iv).toNat)
        case atStart => exact ⟨0, [], Nat.zero_le _, rfl, rfl, Go.Lib.hid ⟨List.Pairwise.nil, List.Perm.refl _⟩, World.ownsRow_nil _ _ _ _, b33⟩
        case round =>
          clear b33
          rename World => W2
          obtain ⟨i, Q, hik, rfl, hQ, HQ, hvq, hbq⟩ := hrel
          have hsq := hbq.size
          by_cases hlt : i < k
          · have i1z : (i : Int) < (k : Int) := by omega
            obtain ⟨Bq, cq, rfl⟩ : ∃ B d, u10 = .slice B i d := by
              obtain ⟨_, h | ⟨g, cap, cur, rfl, _⟩⟩ := hvq
              · exact ⟨none, 0, by rw [h.1, h.2]⟩
              · exact ⟨_, _, rfl⟩
            obtain ⟨x, hx, hkx, gl, rfl, hgl, hcl⟩ := HCI.out i hlt
            have hbi := Below.refl W2.heap.size W2
            have hcl2 := (hbq.cell (p := ⟨gl, i, none⟩) (Nat.lt_of_lt_of_le hgl hs3)).trans ((HB3.out.cell (p := ⟨gl, i, none⟩) hgl).trans hcl)
            have hgl2 := Nat.lt_of_lt_of_le (Nat.lt_of_lt_of_le hgl hs3) hsq
            have ob := O.out.below (HBk.out.trans ((HB3.out.trans (hbq.mono hs3)).mono hsk))
            have HF := Go.Lib.hid (show (Bq = none ∧ i = 0 ∧ cq = 0) ∨ ∃ gq, Bq = some ⟨gq, 0, none⟩ ∧ gq < W2.heap.size ∧ i ≤ cq ∧ cq ≤ 9223372036854775807 ∧ ∀ r, r < i → ∃ y, Q[r]? = some y ∧ W2.cell? ⟨gq, r, none⟩ = some (.string y.2.1) from by
              obtain ⟨_, h | ⟨g, cap, cur, he, _, _, hic, hcm, _⟩⟩ := id hvq
              · refine .inl ⟨?_, h.2, ?_⟩
                · have := h.1; injection this
                · have := h.1; injection this
              · injection he with he1 he2 he3
                subst he1 he3
                refine .inr ⟨g, rfl, (World.ownsRow.lt hvq g rfl).2, hic, by unfold maxLen at hcm; omega, fun r hr => ?_⟩
                have hrQ : r < Q.length := by omega
                refine ⟨Q[r], List.getElem?_eq_getElem hrQ, ?_⟩
                rw [hvq.cellAt r (by omega)]
                simp [kdStrs, hrQ])
            have HQL := Go.Lib.hid hQ
            have HBQ := Go.Lib.hid hbq
            clear hvq hbq hQ
            rcases HF.out with ⟨rfl, hi0, rfl⟩ | ⟨gq, rfl, hgq, hiq, hqm, hcq⟩
            · subst hi0
              go_wp2_with fail
              go_loopw [12] (fun pv w5 => ∃ p : Nat, p ≤ 0 ∧ pv = .int .i64 (p : Nat) ∧ Hid (∀ y ∈ Q.drop p, 0 < kdCmp y (bs (keyX st nu ig uf x), x.s, 0)) ∧ Below W2.heap.size W2 w5) (fun pv _ => (RowKit.intOf pv).toNat)
              case atStart => exact ⟨0, Nat.le_refl _, rfl, Go.Lib.hid (by rw [← HQL.out, List.drop_length]; intro y hy; cases hy), hbi⟩
              case round =>
                clear hbi
                obtain ⟨p, hpi, rfl, HP, hbp⟩ := hrel
                have hp : p = 0 := by omega
                · subst hp
                  have f0n := (hbp.cell (p := ⟨gl, 0, none⟩) hgl2).trans hcl2
                  generalize hxs : x.s = xs at *
                  have HBN := Go.Lib.hid hbp.drew
                  have HBP := Go.Lib.hid hbp
                  have f1n := (HBN.out.cell (p := ⟨gl, 0, none⟩) hgl2).trans hcl2
                  have hsn : W2.heap.size ≤ wr.heap.size := HBP.out.size
                  have hsm : w3.heap.size ≤ W2.heap.size := HBQ.out.size
                  have HDL := Go.Lib.hid (show (kdStrs Q).length = 0 by unfold kdStrs; rw [List.length_map, HQL.out])
                  have HON := Go.Lib.hid (show ∀ u ∈ kdStrs Q, u.oneCell' = true from fun u hu => by unfold kdStrs at hu; obtain ⟨z, _, rfl⟩ := List.mem_map.1 hu; rfl)
                  have HD := Go.Lib.hid (show ∀ V, Below W2.heap.size W2 V → (((none : Option Addr) = none ∧ 0 = 0 ∧ 0 = 0) ∨ ∃ ad, (none : Option Addr) = some ad ∧ ∀ j u, (kdStrs Q)[j]? = some u → V.cell? (ad.add j) = some u) from fun V hV => .inl ⟨rfl, rfl, rfl⟩)
                  have HTK := Go.Lib.hid (show ∀ V : World, (((none : Option Addr) = none ∧ 0 = 0) ∨ ∃ g, (none : Option Addr) = some ⟨g, 0, none⟩ ∧ ∀ j u, ([] : List Value)[j]? = some u → V.cell? ⟨g, j, none⟩ = some u) from fun V => .inl ⟨rfl, rfl⟩)
                  go_wp2_with fail
                  refine wp_region_still_tail 16 (by kernel_rfl) (by kernel_rfl) ?_
                  simp only [List.take_succ_cons, List.take_zero, List.drop_succ_cons, List.drop_zero]
                  change wpStill _ _ (World.drew _) _ _ _
                  repeat still_step
                  refine wpStill_nil ?_
                  change wpList _ _ _ _ _ (World.drew _)
                  go_wp2_with fail
                  go_region_held3 (fun w' => w'.cell? ⟨gl, 0, none⟩ = some (.string xs))
                    (first
                      | exact f1n
                      | exact (hb7.cell (p := ⟨gl, 0, none⟩) hgl2).trans hcl2
                      | exact (hb6.cell (p := ⟨gl, 0, none⟩) hgl2).trans hcl2
                      | go_keep)
                    (first
                      | (refine step_in (by rfl) _ _ (by rfl) w3.heap.size _ 1 [.string xs] (by rfl) (by first | exact World.ownsRow_lit _ _ _ (by simp; omega) (by unfold maxLen; omega) rfl | exact (World.ownsRow_lit _ _ _ (by first | omega | (simp; omega)) (by unfold maxLen; omega) rfl).drew | exact ((World.ownsRow_lit _ _ _ (by first | omega | (simp; omega)) (by unfold maxLen; omega) rfl).drew).drew) none 0 0 (kdStrs Q) (by rfl) HDL.out (.inl ⟨rfl, rfl, rfl⟩) HON.out (by omega) (by simp; omega) ?_; intro v6 w6 hown6 hgrow6; have hb6 : Below W2.heap.size W2 w6 := Below.grown (by first | exact (HBP.out.alloc (by have := HBP.out.size; omega) _).drew.drew | exact (HBN.out.alloc (by have := HBN.out.size; omega) _).drew | exact HBN.out.drew.alloc (by have := HBN.out.size; simp; omega) _) hgrow6 (by have := HBP.out.size; simp; omega) (fun j e => by cases e; exact HBP.out.size))
                      | (refine step_full (by rfl) _ _ (by rfl) w3.heap.size w3.heap.size none 0 [] (by rfl) rfl (full_none _) _ _ _ (by rfl) hown6 (by omega) (by omega) (Nat.le_trans HBQ.out.size hb6.size) ?_; intro v7 w7' hown7 hgrow7; have hb7 : Below W2.heap.size W2 w7' := hb6.grown hgrow7 hb6.size (fun j e => by cases e))
                      | fail)
                  all_goals
                    have HOWN := Go.Lib.hid (show w7'.ownsRow w3.heap.size 9 1 v7 (0 + 1) (kdStrs ((bs (keyX st nu ig uf x), xs, 0) :: Q)) from by
                      have hn : 0 + (1 + 0) = 0 + 1 := by omega
                      rw [hn] at hown7
                      exact hown7)
                    have HB7 := Go.Lib.hid (HBQ.out.trans (hb7.mono HBQ.out.size))
                    have HINS := Go.Lib.hid (show ((bs (keyX st nu ig uf x), xs, 0) :: Q).Pairwise kdLt ∧ ((bs (keyX st nu ig uf x), xs, 0) :: Q).Perm (kdOf st nu ig uf (l.take (0 + 1))) from by
                      obtain ⟨q1, q2⟩ := ins_ok (x := (bs (keyX st nu ig uf x), xs, 0)) (p := 0) HQ.out.1 (fun y hy => by obtain ⟨_, _, _, _, h⟩ := HQI.out 0 Q HQ.out.2 y hy; exact h) (.inl rfl) HP.out
                      refine ⟨by simpa using q1, (show ((bs (keyX st nu ig uf x), xs, 0) :: Q).Perm (Q ++ [(bs (keyX st nu ig uf x), xs, 0)]) by simpa using q2).trans ?_⟩
                      rw [hkx]
                      exact HQ.out.2.append_right _)
                    have HLN := Go.Lib.hid (show ((bs (keyX st nu ig uf x), xs, 0) :: Q).length = 0 + 1 by rw [List.length_cons, HQL.out])
                    clear hown7 hb7 hgrow7 hown6 hb6 hgrow6 f1n hkx hcl hcl2
                    go_wp2
                    go_roundw
                    case rel => exact ⟨0 + 1, _, by omega, by go_num, HLN.out, HINS, HOWN.out, HB7.out⟩
                    case measure => simp [RowKit.intOf]; omega
            · go_wp2_with fail
              go_loopw [12] (fun pv w5 => ∃ p : Nat, p ≤ i ∧ pv = .int .i64 (p : Nat) ∧ Hid (∀ y ∈ Q.drop p, 0 < kdCmp y (bs (keyX st nu ig uf x), x.s, i)) ∧ Below W2.heap.size W2 w5) (fun pv _ => (RowKit.intOf pv).toNat)
              case atStart => exact ⟨i, Nat.le_refl _, rfl, Go.Lib.hid (by rw [← HQL.out, List.drop_length]; intro y hy; cases hy), hbi⟩
              case round =>
                clear hbi
                obtain ⟨p, hpi, rfl, HP, hbp⟩ := hrel
                by_cases hp : p = 0
                · subst hp
                  have f0n := (hbp.cell (p := ⟨gl, i, none⟩) hgl2).trans hcl2
                  generalize hxs : x.s = xs at *
                  have HBN := Go.Lib.hid hbp.drew
                  have HBP := Go.Lib.hid hbp
                  have f1n := (HBN.out.cell (p := ⟨gl, i, none⟩) hgl2).trans hcl2
                  have hsn : W2.heap.size ≤ wr.heap.size := HBP.out.size
                  have hsm : w3.heap.size ≤ W2.heap.size := HBQ.out.size
                  have HDL := Go.Lib.hid (show (kdStrs Q).length = i by unfold kdStrs; rw [List.length_map, HQL.out])
                  have HON := Go.Lib.hid (show ∀ u ∈ kdStrs Q, u.oneCell' = true from fun u hu => by unfold kdStrs at hu; obtain ⟨z, _, rfl⟩ := List.mem_map.1 hu; rfl)
                  have a3 : (i : Int) ≤ (cq : Int) := by omega
                  have a4 : (0 : Int) ≤ (i : Int) := by omega
                  have a5 : (0 : Int) ≤ (cq : Int) := by omega
                  have HD := Go.Lib.hid (show ∀ V, Below W2.heap.size W2 V → ((some (⟨gq, 0, none⟩ : Addr) = none ∧ i = 0 ∧ cq = 0) ∨ ∃ ad, some (⟨gq, 0, none⟩ : Addr) = some ad ∧ ∀ j u, (kdStrs Q)[j]? = some u → V.cell? (ad.add j) = some u) from fun V hV => .inr ⟨⟨gq, 0, none⟩, rfl, fun j u hu => by
                    have hj : j < i := by rw [← HDL.out]; exact (List.getElem?_eq_some_iff.1 hu).1
                    obtain ⟨y, hy, hcy⟩ := hcq j (by omega)
                    rw [add_lit0, hV.cell (p := ⟨gq, j, none⟩) hgq, hcy]
                    unfold kdStrs at hu
                    rw [List.getElem?_map, hy] at hu
                    exact hu⟩)
                  have HTK := Go.Lib.hid (show ∀ V : World, ((some (⟨gq, 0, none⟩ : Addr) = none ∧ 0 = 0) ∨ ∃ g, some (⟨gq, 0, none⟩ : Addr) = some ⟨g, 0, none⟩ ∧ ∀ j u, ([] : List Value)[j]? = some u → V.cell? ⟨g, j, none⟩ = some u) from fun V => .inr ⟨gq, rfl, fun j u hu => by simp at hu⟩)
                  go_wp2_with fail
                  refine wp_region_still_tail 16 (by kernel_rfl) (by kernel_rfl) ?_
                  simp only [List.take_succ_cons, List.take_zero, List.drop_succ_cons, List.drop_zero]
                  change wpStill _ _ (World.drew _) _ _ _
                  repeat still_step
                  refine wpStill_nil ?_
                  change wpList _ _ _ _ _ (World.drew _)
                  go_wp2_with fail
                  go_region_held3 (fun w' => w'.cell? ⟨gl, i, none⟩ = some (.string xs))
                    (first
                      | exact f1n
                      | exact (hb7.cell (p := ⟨gl, i, none⟩) hgl2).trans hcl2
                      | exact (hb6.cell (p := ⟨gl, i, none⟩) hgl2).trans hcl2
                      | go_keep)
                    (first
                      | (refine step_in (by rfl) _ _ (by rfl) w3.heap.size _ 1 [.string xs] (by rfl) (by first | exact World.ownsRow_lit _ _ _ (by simp; omega) (by unfold maxLen; omega) rfl | exact (World.ownsRow_lit _ _ _ (by first | omega | (simp; omega)) (by unfold maxLen; omega) rfl).drew | exact ((World.ownsRow_lit _ _ _ (by first | omega | (simp; omega)) (by unfold maxLen; omega) rfl).drew).drew) (some ⟨gq, 0, none⟩) i cq (kdStrs Q) (by rfl) HDL.out (HD.out _ (by first | exact (HBP.out.alloc (by have := HBP.out.size; omega) _).drew.drew | exact (HBN.out.alloc (by have := HBN.out.size; omega) _).drew | exact HBN.out.drew.alloc (by have := HBN.out.size; simp; omega) _)) HON.out (by omega) (by simp; omega) ?_; intro v6 w6 hown6 hgrow6; have hb6 : Below W2.heap.size W2 w6 := Below.grown (by first | exact (HBP.out.alloc (by have := HBP.out.size; omega) _).drew.drew | exact (HBN.out.alloc (by have := HBN.out.size; omega) _).drew | exact HBN.out.drew.alloc (by have := HBN.out.size; simp; omega) _) hgrow6 (by have := HBP.out.size; simp; omega) (fun j e => by cases e; exact HBP.out.size))
                      | (refine step_full (by rfl) _ _ (by rfl) w3.heap.size w3.heap.size (some ⟨gq, 0, none⟩) 0 [] (by rfl) rfl (full_nil gq _) _ _ _ (by rfl) hown6 (by omega) (by omega) (Nat.le_trans HBQ.out.size hb6.size) ?_; intro v7 w7' hown7 hgrow7; have hb7 : Below W2.heap.size W2 w7' := hb6.grown hgrow7 hb6.size (fun j e => by cases e))
                      | fail)
                  all_goals
                    have HOWN := Go.Lib.hid (show w7'.ownsRow w3.heap.size 9 1 v7 (i + 1) (kdStrs ((bs (keyX st nu ig uf x), xs, i) :: Q)) from by
                      have hn : 0 + (1 + i) = i + 1 := by omega
                      rw [hn] at hown7
                      exact hown7)
                    have HB7 := Go.Lib.hid (HBQ.out.trans (hb7.mono HBQ.out.size))
                    have HINS := Go.Lib.hid (show ((bs (keyX st nu ig uf x), xs, i) :: Q).Pairwise kdLt ∧ ((bs (keyX st nu ig uf x), xs, i) :: Q).Perm (kdOf st nu ig uf (l.take (i + 1))) from by
                      obtain ⟨q1, q2⟩ := ins_ok (x := (bs (keyX st nu ig uf x), xs, i)) (p := 0) HQ.out.1 (fun y hy => by obtain ⟨_, _, _, _, h⟩ := HQI.out i Q HQ.out.2 y hy; exact h) (.inl rfl) HP.out
                      refine ⟨by simpa using q1, (show ((bs (keyX st nu ig uf x), xs, i) :: Q).Perm (Q ++ [(bs (keyX st nu ig uf x), xs, i)]) by simpa using q2).trans ?_⟩
                      rw [hkx]
                      exact HQ.out.2.append_right _)
                    have HLN := Go.Lib.hid (show ((bs (keyX st nu ig uf x), xs, i) :: Q).length = i + 1 by rw [List.length_cons, HQL.out])
                    clear hown7 hb7 hgrow7 hown6 hb6 hgrow6 f1n hkx hcl hcl2
                    go_wp2
                    go_roundw
                    case rel => exact ⟨i + 1, _, by omega, by go_num, HLN.out, HINS, HOWN.out, HB7.out⟩
                    case measure => simp [RowKit.intOf]; omega
                · obtain ⟨r, rfl⟩ : ∃ r, p = r + 1 := ⟨p - 1, by omega⟩
                  obtain ⟨y, hy, hcy⟩ := hcq r (by omega)
                  obtain ⟨z, hz, hz1, hz2, hz3⟩ := HQI.out i Q HQ.out.2 y (List.mem_of_getElem? hy)
                  rw [hz2] at hcy
                  have e0 := (hbp.cell (p := ⟨gq, r, none⟩) hgq).trans hcy
                  have e1 := (hbp.cell (p := ⟨gl, i, none⟩) hgl2).trans hcl2
                  have q2 := ob.below hbp
                  have q2' : ObjAt wr.drew w.heap.size #[.int .i64 st, .bool nu, .bool ig, .bool uf] 23 := q2
                  have f0 : wr.drew.cell? ⟨gq, r, none⟩ = some (.string z.s) := e0
                  have f1 : wr.drew.cell? ⟨gl, i, none⟩ = some (.string x.s) := e1
                  have r0 : (0 : Int) < (r : Int) + 1 := by omega
                  have r1 : (0 : Int) ≤ (r : Int) := by omega
                  have r2 : (r : Int) < (i : Int) := by omega
                  have i0' : (0 : Int) ≤ (i : Int) := by omega
                  have r3 : IntKind.i64.wrap (r : Int) = (r : Int) := by rw [IntKind.wrap_i64]; omega
                  have ck := CR.out z hz x hx
                  obtain ⟨cv, hcv⟩ : ∃ cv, cv = cmpX st nu ig uf z x := ⟨_, rfl⟩
                  rw [← hcv] at ck
                  have CK := Go.Lib.hid ck
                  have HCV := Go.Lib.hid (show kdCmp y (bs (keyX st nu ig uf x), x.s, i) = cv by
                    rw [hcv]
                    unfold kdCmp cmpX
                    rw [hz1]
                    rfl)
                  have NX := Go.Lib.hid (show 0 < cv → ∀ y' ∈ Q.drop r, 0 < kdCmp y' (bs (keyX st nu ig uf x), x.s, i) from fun h y' hy' => by
                    obtain ⟨hrl, hry⟩ := List.getElem?_eq_some_iff.1 hy
                    rw [List.drop_eq_getElem_cons hrl] at hy'
                    rcases List.mem_cons.1 hy' with e | e
                    · rw [e, hry, HCV.out]; exact h
                    · exact HP.out y' e)
                  have hl0 : w.heap.size < wr.heap.size := q2.lt
                  have hgq3 := Nat.lt_of_lt_of_le hgq hbp.size
                  have hgl3 := Nat.lt_of_lt_of_le hgl2 hbp.size
                  generalize hzs : z.s = zs at *
                  generalize hxs : x.s = xs at *
                  clear ck e0 e1
                  by_cases hc : 0 < cv
                  · have hcn : decide (0 < cv) = true := decide_eq_true hc
                    go_wp2_with fail
                    go_region_held3 (fun w' => w'.cell? ⟨w.heap.size, 0, none⟩ = some (.int .i64 st) ∧ w'.cell? ⟨w.heap.size, 1, none⟩ = some (.bool nu) ∧ w'.cell? ⟨w.heap.size, 2, none⟩ = some (.bool ig) ∧ w'.cell? ⟨w.heap.size, 3, none⟩ = some (.bool uf) ∧ w'.cell? ⟨gq, r, none⟩ = some (.string zs) ∧ w'.cell? ⟨gl, i, none⟩ = some (.string xs))
                      (first
                        | exact ⟨q2'.o0, q2'.o1, q2'.o2, q2'.o3, f0, f1⟩
                        | exact ⟨q7.o0, q7.o1, q7.o2, q7.o3, f7, g7⟩
                        | exact ⟨q6.o0, q6.o1, q6.o2, q6.o3, f6, g6⟩
                        | go_keep)
                      (first
                        | (go_at_call 20; (with_reducible refine (CO.out _).mono ?_); rintro e w6 ⟨rfl, k6⟩; have q6 := q2'.below k6; have f6 := (k6.cell (p := ⟨gq, r, none⟩) hgq3).trans f0; have g6 := (k6.cell (p := ⟨gl, i, none⟩) hgl3).trans f1)
                        | (go_at_call 24; (with_reducible refine (CK.out _).mono ?_); rintro e w7 ⟨rfl, k7⟩; have q7 := q6.below k7; have f7 := (k7.cell (p := ⟨gq, r, none⟩) (Nat.lt_of_lt_of_le hgq3 k6.size)).trans f6; have g7 := (k7.cell (p := ⟨gl, i, none⟩) (Nat.lt_of_lt_of_le hgl3 k6.size)).trans g6)
                        | fail)
                    all_goals
                      have hbn := (hbp.drew.trans (k6.mono hbp.size)).trans (k7.mono (Nat.le_trans hbp.size k6.size))
                      clear q2 q2' q6 q7 f0 f1 f6 f7 g6 g7 k6 k7
                      go_wp2
                      go_roundw
                      case rel => exact ⟨r, by omega, by first | rfl | go_num | simp, NX.out hc, hbn⟩
                      case measure => simp [RowKit.intOf]
                  · have hcn : decide (0 < cv) = false := decide_eq_false hc
                    go_wp2_with fail
                    go_region_held3 (fun w' => w'.cell? ⟨w.heap.size, 0, none⟩ = some (.int .i64 st) ∧ w'.cell? ⟨w.heap.size, 1, none⟩ = some (.bool nu) ∧ w'.cell? ⟨w.heap.size, 2, none⟩ = some (.bool ig) ∧ w'.cell? ⟨w.heap.size, 3, none⟩ = some (.bool uf) ∧ w'.cell? ⟨gq, r, none⟩ = some (.string zs) ∧ w'.cell? ⟨gl, i, none⟩ = some (.string xs))
                      (first
                        | exact ⟨q2'.o0, q2'.o1, q2'.o2, q2'.o3, f0, f1⟩
                        | exact ⟨q7.o0, q7.o1, q7.o2, q7.o3, f7, g7⟩
                        | exact ⟨q6.o0, q6.o1, q6.o2, q6.o3, f6, g6⟩
                        | go_keep)
                      (first
                        | (go_at_call 20; (with_reducible refine (CO.out _).mono ?_); rintro e w6 ⟨rfl, k6⟩; have q6 := q2'.below k6; have f6 := (k6.cell (p := ⟨gq, r, none⟩) hgq3).trans f0; have g6 := (k6.cell (p := ⟨gl, i, none⟩) hgl3).trans f1)
                        | (go_at_call 24; (with_reducible refine (CK.out _).mono ?_); rintro e w7 ⟨rfl, k7⟩; have q7 := q6.below k7; have f7 := (k7.cell (p := ⟨gq, r, none⟩) (Nat.lt_of_lt_of_le hgq3 k6.size)).trans f6; have g7 := (k7.cell (p := ⟨gl, i, none⟩) (Nat.lt_of_lt_of_le hgl3 k6.size)).trans g6)
                        | fail)
                    all_goals
                      have hbn := (hbp.drew.trans (k6.mono hbp.size)).trans (k7.mono (Nat.le_trans hbp.size k6.size))
                      have HE := Go.Lib.hid (show ¬ 0 < kdCmp y (bs (keyX st nu ig uf x), xs, i) by rw [HCV.out]; omega)
                      clear q2 q2' q6 q7 f6 g6 k6 k7 f0 f1
                      clear CK HCV NX hgl3 hgq3 hl0 hcy
                      obtain ⟨p, hp⟩ : ∃ p, p = r + 1 := ⟨_, rfl⟩
                      have H1 := Go.Lib.hid (show p = 0 ∨ ∃ y, Q[p - 1]? = some y ∧ ¬ 0 < kdCmp y (bs (keyX st nu ig uf x), xs, i) from .inr ⟨y, by rw [hp, Nat.add_sub_cancel]; exact hy, HE.out⟩)
                      rw [← hp] at HP hpi
                      have HPP := Go.Lib.hid hp
                      have HEE := Go.Lib.hid HE
                      clear HE
                      go_wp2_with fail
                      rw [show ((r : Int) + 1) = ((p : Nat) : Int) by have := HPP.out; omega]
                      clear hy hz1 hz2 hz3 hz r0 r1 r2 r3 hp HEE hc hcn
                      have a0 : (0 : Int) ≤ (p : Int) := by omega
                      have a1 : (p : Int) ≤ (cq : Int) := by omega
                      have a2 : (p : Int) ≤ (i : Int) := by omega
                      have a3 : (i : Int) ≤ (cq : Int) := by omega
                      have a4 : (0 : Int) ≤ (i : Int) := by omega
                      have HDL := Go.Lib.hid (show (kdStrs (Q.drop p)).length = i - p by unfold kdStrs; rw [List.length_map, List.length_drop, HQL.out])
                      have HTL := Go.Lib.hid (show (kdStrs (Q.take p)).length = p by unfold kdStrs; rw [List.length_map, List.length_take, HQL.out]; omega)
                      have HON := Go.Lib.hid (show ∀ u ∈ kdStrs (Q.drop p), u.oneCell' = true from fun u hu => by unfold kdStrs at hu; obtain ⟨z, _, rfl⟩ := List.mem_map.1 hu; rfl)
                      have HTK := Go.Lib.hid (show ∀ V, Below W2.heap.size W2 V → ((some (⟨gq, 0, none⟩ : Addr) = none ∧ p = 0) ∨ ∃ g, some (⟨gq, 0, none⟩ : Addr) = some ⟨g, 0, none⟩ ∧ ∀ j u, (kdStrs (Q.take p))[j]? = some u → V.cell? ⟨g, j, none⟩ = some u) from fun V hV => .inr ⟨gq, rfl, fun j u hu => by
                        have hj : j < p := by rw [← HTL.out]; exact (List.getElem?_eq_some_iff.1 hu).1
                        obtain ⟨y, hy, hcy⟩ := hcq j (by omega)
                        rw [hV.cell (p := ⟨gq, j, none⟩) hgq, hcy]
                        unfold kdStrs at hu
                        rw [List.getElem?_map, List.getElem?_take_of_lt hj, hy] at hu
                        exact hu⟩)
                      have HD := Go.Lib.hid (show ∀ V, Below W2.heap.size W2 V → (((if cq = p then some ⟨gq, 0, none⟩ else some ⟨gq, p, none⟩ : Option Addr) = none ∧ i - p = 0 ∧ cq - p = 0) ∨ ∃ ad, (if cq = p then some ⟨gq, 0, none⟩ else some ⟨gq, p, none⟩ : Option Addr) = some ad ∧ ∀ j u, (kdStrs (Q.drop p))[j]? = some u → V.cell? (ad.add j) = some u) from fun V hV => by
                        right
                        by_cases hpc : cq = p
                        · rw [if_pos hpc]
                          refine ⟨_, rfl, fun j u hu => ?_⟩
                          have hj : j < i - p := by rw [← HDL.out]; exact (List.getElem?_eq_some_iff.1 hu).1
                          omega
                        · rw [if_neg hpc]
                          refine ⟨_, rfl, fun j u hu => ?_⟩
                          have hj : j < i - p := by rw [← HDL.out]; exact (List.getElem?_eq_some_iff.1 hu).1
                          obtain ⟨y, hy, hcy⟩ := hcq (p + j) (by omega)
                          have hadd : (⟨gq, p, none⟩ : Addr).add j = ⟨gq, p + j, none⟩ := by unfold Addr.add; split <;> simp_all
                          rw [hadd, hV.cell (p := ⟨gq, p + j, none⟩) hgq, hcy]
                          unfold kdStrs at hu
                          rw [List.getElem?_map, List.getElem?_drop, hy] at hu
                          exact hu)
                      have f1n := (hbn.cell (p := ⟨gl, i, none⟩) hgl2).trans hcl2
                      have HBN := Go.Lib.hid hbn
                      have hsn := hbn.size
                      clear hbn
                      go_region_held3 (fun w' => w'.cell? ⟨gl, i, none⟩ = some (.string xs))
                        (first
                          | exact f1n
                          | exact (hb7.cell (p := ⟨gl, i, none⟩) hgl2).trans hcl2
                          | exact (hb6.cell (p := ⟨gl, i, none⟩) hgl2).trans hcl2
                          | go_keep)
                        (first
                          | (refine step_in (by rfl) _ _ (by rfl) w3.heap.size _ 1 [.string xs] (by rfl) (by first | exact World.ownsRow_lit _ _ _ (by simp; omega) (by unfold maxLen; omega) rfl | exact (World.ownsRow_lit _ _ _ (by omega) (by unfold maxLen; omega) rfl).drew) (if cq = p then some ⟨gq, 0, none⟩ else some ⟨gq, p, none⟩) (i - p) (cq - p) (kdStrs (Q.drop p)) (by rfl) HDL.out (HD.out _ (by first | exact (HBN.out.alloc (by have := HBN.out.size; omega) _).drew | exact HBN.out.drew.alloc (by have := HBN.out.size; simp; omega) _)) HON.out (by omega) (by simp; omega) ?_; intro v6 w6 hown6 hgrow6; have hb6 : Below W2.heap.size W2 w6 := Below.grown (by first | exact (HBN.out.alloc (by have := HBN.out.size; omega) _).drew | exact HBN.out.drew.alloc (by have := HBN.out.size; simp; omega) _) hgrow6 (by have := HBN.out.size; simp; omega) (fun j e => by cases e; exact HBN.out.size))
                          | (refine step_full (by rfl) _ _ (by rfl) w3.heap.size w3.heap.size (some ⟨gq, 0, none⟩) p (kdStrs (Q.take p)) (by rfl) HTL.out (HTK.out _ hb6) _ _ _ (by rfl) hown6 (by omega) (by omega) (Nat.le_trans HBQ.out.size hb6.size) ?_; intro v7 w7' hown7 hgrow7; have hb7 : Below W2.heap.size W2 w7' := hb6.grown hgrow7 hb6.size (fun j e => by cases e))
                          | fail)
                      all_goals
                        have HOWN := Go.Lib.hid (show w7'.ownsRow w3.heap.size 9 1 v7 (i + 1) (kdStrs (Q.take p ++ (bs (keyX st nu ig uf x), xs, i) :: Q.drop p)) from by
                          have hn : p + (1 + (i - p)) = i + 1 := by omega
                          rw [hn] at hown7
                          unfold kdStrs at hown7 ⊢
                          rw [List.map_append, List.map_cons]
                          exact hown7)
                        have HB7 := Go.Lib.hid (HBQ.out.trans (hb7.mono HBQ.out.size))
                        have HINS := Go.Lib.hid (show (Q.take p ++ (bs (keyX st nu ig uf x), xs, i) :: Q.drop p).Pairwise kdLt ∧ (Q.take p ++ (bs (keyX st nu ig uf x), xs, i) :: Q.drop p).Perm (kdOf st nu ig uf (l.take (i + 1))) from by
                          obtain ⟨q1, q2⟩ := ins_ok (x := (bs (keyX st nu ig uf x), xs, i)) HQ.out.1 (fun y hy => by obtain ⟨_, _, _, _, h⟩ := HQI.out i Q HQ.out.2 y hy; exact h) (H1.out.imp id fun ⟨y, a, b⟩ => ⟨y, a, by omega⟩) HP.out
                          refine ⟨q1, q2.trans ?_⟩
                          rw [hkx]
                          exact HQ.out.2.append_right _)
                        have HLN := Go.Lib.hid (show (Q.take p ++ (bs (keyX st nu ig uf x), xs, i) :: Q.drop p).length = i + 1 by rw [List.length_append, List.length_cons, List.length_take, List.length_drop, HQL.out]; omega)
                        clear hown7 hb7 hgrow7 hown6 hb6 hgrow6 f1n hkx hcl hcl2
                        go_wp2
                        go_roundw
                        case rel => exact ⟨i + 1, _, by omega, by go_num, HLN.out, HINS, HOWN.out, HB7.out⟩
                        case measure => simp [RowKit.intOf]; omega
          · obtain rfl : i = k := by omega
            obtain ⟨Bw, cw, rfl⟩ : ∃ B d, u10 = .slice B i d := by
              obtain ⟨_, h | ⟨g, cap, cur, rfl, _⟩⟩ := hvq
              · exact ⟨none, 0, by rw [h.1, h.2]⟩
              · exact ⟨_, _, rfl⟩
            have hll : l.length = i := HL1.out
            have HQD := Go.Lib.hid (show Q = d.toList from by
              have hp := HQ.out.2
              rw [List.take_of_length_le (by omega)] at hp
              have hkl : (kdOf st nu ig uf l).length = l.length := by unfold kdOf; rw [List.length_mapIdx]
              exact want_same hkl HD.out HQ.out.1 hp HM.out)
            have HOU := Go.Lib.hid (show ∀ j, j < i → ∃ go s, B7 = some ⟨go, 0, none⟩ ∧ go < w1.heap.size ∧ w1.cell? ⟨go, j, none⟩ = some (.string s) ∧ ∃ gw, Bw = some ⟨gw, 0, none⟩ ∧ gw < W2.heap.size ∧ W2.cell? ⟨gw, j, none⟩ = some (.string s) from fun j hj => by
              have hjQ : j < Q.length := by omega
              obtain ⟨_, h | ⟨g, cap, cur, he, _⟩⟩ := id HVD.out
              · have := h.2; omega
              obtain ⟨_, h | ⟨g2, cap2, cur2, he2, _⟩⟩ := id hvq
              · have := h.2; omega
              injection he with he1 he2' he3
              injection he2 with hf1 hf2 hf3
              subst he1 he3 hf1 hf3
              refine ⟨g, Q[j].2.1, rfl, (World.ownsRow.lt HVD.out g rfl).2, ?_, g2, rfl, (World.ownsRow.lt hvq g2 rfl).2, ?_⟩
              · rw [HVD.out.cellAt j (by omega), ← HQD.out]
                simp [kdStrs, hjQ]
              · rw [hvq.cellAt j (by omega)]
                simp [kdStrs, hjQ])
            have HBQ := Go.Lib.hid hbq
            have HB13q := Go.Lib.hid (show Below w1.heap.size w1 W2 from HB13.out.trans (hbq.mono HB13.out.size))
            have HEND := Go.Lib.hid (HB3.out.trans (hbq.mono hs3))
            have i0z : (0 : Int) ≤ (i : Int) := by omega
            have bz0 := Below.refl W2.heap.size W2
            clear hvq hbq
            rw [hll]
            go_wp2_with fail
            go_loopw [13] (fun jv w5 => ∃ j : Nat, j ≤ i ∧ jv = .int .i64 (j : Nat) ∧ Below W2.heap.size W2 w5) (fun jv _ => i - (RowKit.intOf jv).toNat)
            case atStart => exact ⟨0, Nat.zero_le _, rfl, bz0⟩
            case round =>
              clear bz0
              obtain ⟨j, hj, rfl, hbj⟩ := hrel
              by_cases hlt2 : j < i
              · have j0 : (0 : Int) ≤ (j : Int) := by omega
                have j1 : (j : Int) < (i : Int) := by omega
                obtain ⟨go, s, rfl, hgo, hco, gw, rfl, hgw, hcw⟩ := HOU.out j hlt2
                have e0 := (hbj.cell (p := ⟨go, j, none⟩) (Nat.lt_of_lt_of_le hgo HB13q.out.size)).trans ((HB13q.out.cell (p := ⟨go, j, none⟩) hgo).trans hco)
                have e1 := (hbj.cell (p := ⟨gw, j, none⟩) hgw).trans hcw
                have HBJ := Go.Lib.hid hbj
                clear hbj
                go_wp2_with fail
                go_region
                all_goals go_wp2
                all_goals go_roundw
                case rel => exact ⟨j + 1, by omega, by go_num, by first | exact HBJ.out.drew | exact HBJ.out⟩
                case measure => simp [RowKit.intOf]; omega
              · obtain rfl : j = i := by omega
                go_wp2
                go_ret
                exact ⟨rfl, HB.out.trans ((HBk.out.trans ((HEND.out.trans (hbj.mono (Nat.le_trans hs3 HBQ.out.size))).mono hsk)).mono (by omega))⟩
      · obtain ⟨rfl, k1⟩ := hs1 h0
        clear hs0 hs1
        generalize faultN st l = f at *
        have hk2 := k1.size
        have HBk := Go.Lib.hid hbk
        have HK1 := Go.Lib.hid k1
        clear k1 hbk HVK
        go_wp2_with (first
          | (go_at_call 16; (with_reducible refine (known_any _).mono ?_); rintro e w2 ⟨rfl, k2⟩; have kk := HK1.out.trans (k2.mono hk2); have o2 := O.out.below (HBk.out.trans (kk.mono hsk)); have z0 := o2.o0; have z1 := o2.o1; have z2 := o2.o2; have z3 := o2.o3; have cf := CF.out w2 kk)
          | (go_at_call 18; (with_reducible refine cf.mono ?_); rintro e w3 ⟨rfl, k3⟩; clear z0 z1 z2 z3 o2)
          | fail)
        go_ret
        exact ⟨rfl, HB.out.trans ((HBk.out.trans ((kk.trans (k3.mono (Nat.le_trans hk2 k2.size))).mono hsk)).mono (by omega))⟩
end Go.Proofs.Ytknbglcmjggkjaa
