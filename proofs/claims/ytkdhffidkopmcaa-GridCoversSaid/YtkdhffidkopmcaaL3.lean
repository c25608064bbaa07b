/- Layer 12: the law of rectangles (4), walked. -/
import Derived.Test.YtkdhffidkopmcaaL2
namespace Go.Proofs.Ytkdhffidkopmcaa
open Go.RowKit Go.Lib Go.Maps
set_option linter.unusedVariables false

/-- What place says of a cell that is there. -/
theorem place_of {T : List (List Cl)} {i k : Nat} {e : Ending} (h : PlcR T i k e) (hi : i < T.length) (hk : k < T[i].length) : ∃ (f t : Nat) (m : Int), Gd.At (plT T) i k f t m ∧ ((f = t ∧ e = .returned (.tuple #[rectV 0 0 0 0 0 0, .int .i64 20])) ∨
    (f < t ∧ ∃ (c b : Nat) (m' : Int), Gd.At (plT T) (Gd.top (plT T) f t i) c f t m' ∧ Gd.Bt (plT T) f t i b ∧ e = .returned (.tuple #[rectV (Gd.top (plT T) f t i : Nat) c (Gd.top (plT T) f t i : Nat) f b t, .int .i64 0]))) := by
  rcases h with ⟨h, _⟩ | ⟨i', k', f, t, m, e1, e2, ha, h⟩
  · exact absurd (Ex.of hi hk) h
  · obtain rfl : i = i' := by omega
    obtain rfl : k = k' := by omega
    exact ⟨f, t, m, ha, h⟩
theorem skip_empty {T : Gd.Tb} {rs : List Gd.Rc} {g : Nat → Nat → Option Nat} (hF : Gd.Fin T rs g) {i k f t : Nat} {m : Int} (ha : Gd.At T i k f t m) (h : ¬ f < t ∨ Gd.top T f t i ≠ i) : ∀ q ∈ rs, ¬ (q.row = i ∧ q.cell = k) := by
  rintro q hq ⟨rfl, rfl⟩
  obtain ⟨⟨m', ha'⟩, hlt, hk, _⟩ := hF.cell q hq
  obtain ⟨e1, e2, _⟩ := Gd.At.fn ha ha'
  rcases h with h | h
  · omega
  · rw [e1, e2] at h
    exact h (Gd.top_self hk)

set_option maxRecDepth 100000 in
set_option maxHeartbeats 8000000 in
theorem law_rects (A : Option Addr) (N c : Nat) (T : List (List Cl)) (hN : T.length = N) (hc : N ≤ c ∧ c ≤ maxLen) (w : World) (hA : TbAt w A T) : Calls Try.prog 4 #[.slice A N c] w (TrueW w) := by
  have cK := Go.Lib.hid (fun w' => known_any w')
  have cS := Go.Lib.hid (fun w' (hb : Below w.heap.size w w') => small_any T A N c hN hc w' (hA.below hb))
  have HA := Go.Lib.hid hA
  have HN := Go.Lib.hid hN
  have HC := Go.Lib.hid hc
  have hc1 := hc.1
  have hc2 := hc.2
  unfold maxLen at hc2
  clear hA hN hc
  go_enter Try.func4, Try.ntmps4
  go_wp2_with fail
  (with_reducible refine (cK.out _).mono ?_)
  rintro e w1 ⟨rfl, k1⟩
  have s1 := k1.size
  have cs := cS.out w1 k1
  go_wp2_with fail
  (with_reducible refine cs.mono ?_)
  rintro e w2 ⟨⟨b, rfl, hb⟩, k2⟩
  have K2 := Go.Lib.hid (k1.trans (k2.mono s1))
  have s2 := K2.out.size
  clear cs k1 k2
  cases b with
  | false =>
    clear hb
    go_wp2_with fail
    (with_reducible refine (cK.out _).mono ?_)
    rintro e w3 ⟨rfl, k3⟩
    go_wp2
    go_ret
    exact ⟨by simp, K2.out.trans (k3.mono s2)⟩
  | true =>
    have HT := Go.Lib.hid (hb rfl)
    clear hb
    have c1 := rects_any T HT.out A N c HN.out HC.out w2 (HA.out.below K2.out)
    have cP := Go.Lib.hid (fun (i k : Nat) w' (hb : Below w.heap.size w w') => place_any T HT.out A N c HN.out HC.out i k w' (HA.out.below hb))
    have hN10 : N ≤ 10 := by rw [← HN.out]; exact HT.out.1
    go_wp2_with fail
    (with_reducible refine c1.mono ?_)
    rintro e w3 ⟨rv, rs, f, rfl, hR, hF, hl4, k3⟩
    have K3 := Go.Lib.hid (K2.out.trans (k3.mono s2))
    obtain ⟨rc, rcap, hrv⟩ : ∃ B d, rv = .slice B rs.length d := by
      obtain ⟨_, h | ⟨g, cap, cur, rfl, _⟩⟩ := id hR
      · exact ⟨none, 0, by rw [h.1, h.2]⟩
      · exact ⟨_, _, rfl⟩
    subst hrv
    have HR := Go.Lib.hid hR
    have HF := Go.Lib.hid hF
    obtain ⟨ln, hln⟩ : ∃ ln, rs.length = ln := ⟨_, rfl⟩
    have HLN := Go.Lib.hid hln
    rw [hln] at hl4 ⊢
    clear c1 k3 hR hF hln
    have bb0 := Below.refl w3.heap.size w3
    go_wp2_with fail
    go_loopw [2, 4, 5, 6, 7, 8] (fun s2 s4 s5 _ _ _ wr => s2 = .bool false ∧ ∃ i n : Nat, i ≤ N ∧ s5 = .int .i64 (i : Nat) ∧ s4 = .int .i64 (n : Nat) ∧ n ≤ ln ∧ Hid (Ahead rs i 0 n) ∧ Below w3.heap.size w3 wr) (fun _ _ s5 _ _ _ _ => N - (RowKit.intOf s5).toNat)
    case atStart => exact ⟨rfl, 0, 0, Nat.zero_le _, rfl, rfl, Nat.zero_le _, Go.Lib.hid (Ahead.zero rs), bb0⟩
    case round =>
      clear bb0
      obtain ⟨rfl, i, n, hi, rfl, rfl, hnl, HAh, hbk⟩ := hrel
      have HBK := Go.Lib.hid hbk
      by_cases hlt : i < N
      · have p0 : (0 : Int) ≤ (i : Int) := by omega
        have p1 : (i : Int) < (N : Int) := by omega
        have hiT : i < T.length := by have := HN.out; omega
        obtain ⟨g, o, rfl, hg, hrows⟩ := HA.out.row hiT
        obtain ⟨a1, a2, B, n2, cB, D, dn, dc, Y, yn, yc, Ac, kc, d0, d1, d2, d3, d4, d5, g1, g2, hcs⟩ := hrows i hiT
        obtain ⟨rl, hrl⟩ : ∃ rl, T[i].length = rl := ⟨_, rfl⟩
        have HRL := Go.Lib.hid hrl
        rw [hrl] at d5 g1
        have D5 := Go.Lib.hid (fun w' (hb : Below w3.heap.size w3 w') => (hb.cell (p := ⟨g, o + i * 6 + 5, none⟩) (Nat.lt_of_lt_of_le hg K3.out.size)).trans ((K3.out.cell (p := ⟨g, o + i * 6 + 5, none⟩) hg).trans d5))
        unfold maxLen at g2
        have hr40 : rl ≤ 40 := by rw [← hrl]; exact (HT.out.2 _ (List.getElem_mem hiT)).1
        clear hrows hcs d0 d1 d2 d3 d4 d5 hrl
        go_wp2_with fail
        go_loopw [2, 4, 6, 7, 8] (fun s2 s4 s6 _ _ w5 => s2 = .bool false ∧ ∃ k n : Nat, k ≤ rl ∧ s6 = .int .i64 (k : Nat) ∧ s4 = .int .i64 (n : Nat) ∧ n ≤ ln ∧ Hid (Ahead rs i k n) ∧ Below w3.heap.size w3 w5) (fun _ _ s6 _ _ _ => rl - (RowKit.intOf s6).toNat)
        case atStart => exact ⟨rfl, 0, n, Nat.zero_le _, rfl, rfl, hnl, HAh, hbk⟩
        case round =>
          clear hbk
          obtain ⟨rfl, k, n, hk, rfl, rfl, hnl, HAk, hb5⟩ := hrel
          have y5 := D5.out wr hb5
          have HB5 := Go.Lib.hid hb5
          by_cases hlt2 : k < rl
          · have r0 : (0 : Int) ≤ (k : Int) := by omega
            have r1 : (k : Int) < (rl : Int) := by omega
            have hkr : k < T[i].length := by rw [HRL.out]; exact hlt2
            have hbw := K3.out.trans (hb5.mono K3.out.size)
            have cp := cP.out i k wr hbw
            have hs := hb5.size
            clear hb5
            go_wp2_with fail
            (with_reducible refine cp.mono ?_)
            rintro e w6 ⟨hpl, k6⟩
            obtain ⟨f1, t1, m1, hat, hcase⟩ := place_of hpl hiT hkr
            have HAT := Go.Lib.hid hat
            have HB6 := Go.Lib.hid (HB5.out.trans (k6.mono hs))
            clear cp hpl hat k6 y5
            rcases hcase with ⟨hft, rfl⟩ | ⟨hft, c1, b1, m', ha', hbt, rfl⟩
            · have HNX := Go.Lib.hid (HAk.out.skip HF.out (skip_empty HF.out HAT.out (.inl (by omega))))
              clear hft
              unfold rectV
              go_wp2
              go_roundw
              case rel => exact ⟨rfl, k + 1, n, by omega, by go_num, rfl, hnl, HNX, HB6.out.alloc HB6.out.size _⟩
              case measure => simp [RowKit.intOf]; omega
            · by_cases htop : Gd.top (plT T) f1 t1 i = i
              · obtain ⟨j, q, _, hqj, hql, hqr, hqrow, hqb, m2, hqa⟩ := HF.out.get (plT_ok T) HAT.out hft
                have hqc : q.cell = k := by
                  rw [htop] at hqa
                  exact hqa.idx (plT_ok T) HAT.out hft hft
                have hc1 : c1 = k := by
                  rw [htop] at ha'
                  exact ha'.idx (plT_ok T) HAT.out hft hft
                have hbq : q.bot = b1 := hqb.unique hbt
                rw [htop] at hqrow
                obtain ⟨hn, hnq, hnext⟩ := HAk.out.next HF.out (List.mem_of_getElem? hqj) hqrow hqc
                have HNX := Go.Lib.hid hnext
                rw [htop]
                subst hc1
                have hnl2 : n < ln := by have := HLN.out; omega
                obtain ⟨gr, hgr⟩ : ∃ gr, rc = some ⟨gr, 0, none⟩ := by
                  obtain ⟨_, h | ⟨g, cap, cur, he, _⟩⟩ := id HR.out
                  · have := h.2; omega
                  · injection he with he1; exact ⟨_, he1⟩
                subst hgr
                have hgl := (World.ownsRow.lt HR.out gr rfl).2
                have dd := fun d (hd : d < 6) => (HB6.out.cell (p := ⟨gr, n * 6 + d, none⟩) hgl).trans ((HR.out.cellAt (n * 6 + d) (by omega)).trans (rcC_get rs n hn d hd))
                rw [hnq] at dd
                have E := Go.Lib.hid (⟨hqrow, hqc, hql, hbq, hqr⟩ : q.row = i ∧ q.cell = c1 ∧ q.left = f1 ∧ q.bot = b1 ∧ q.right = t1)
                have v0 : w6.cell? ⟨gr, n * 6, none⟩ = some (.int .i64 (i : Nat)) := by have := dd 0 (by omega); simpa [rcV, E.out.1] using this
                have v1 : w6.cell? ⟨gr, n * 6 + 1, none⟩ = some (.int .i64 (c1 : Nat)) := by have := dd 1 (by omega); simpa [rcV, E.out.2.1] using this
                have v2 : w6.cell? ⟨gr, n * 6 + 2, none⟩ = some (.int .i64 (i : Nat)) := by have := dd 2 (by omega); simpa [rcV, E.out.1] using this
                have v3 : w6.cell? ⟨gr, n * 6 + 3, none⟩ = some (.int .i64 (f1 : Nat)) := by have := dd 3 (by omega); simpa [rcV, E.out.2.2.1] using this
                have v4 : w6.cell? ⟨gr, n * 6 + 4, none⟩ = some (.int .i64 (b1 : Nat)) := by have := dd 4 (by omega); simpa [rcV, E.out.2.2.2.1] using this
                have v5 : w6.cell? ⟨gr, n * 6 + 5, none⟩ = some (.int .i64 (t1 : Nat)) := by have := dd 5 (by omega); simpa [rcV, E.out.2.2.2.2] using this
                have hgl6 := Nat.lt_of_lt_of_le hgl HB6.out.size
                have n0 : (0 : Int) ≤ (n : Int) := by omega
                have n1 : (n : Int) < (ln : Int) := by omega
                have n2 : ¬ ln ≤ n := by omega
                have hx : ∀ (o : Obj) j, (w6.alloc o).cell? ⟨gr, j, none⟩ = w6.cell? ⟨gr, j, none⟩ := fun o j => World.cell?_alloc_old w6 o ⟨gr, j, none⟩ (by show gr ≠ w6.heap.size; omega)
                unfold rectV
                clear dd hqj hql hqr hqrow hqb hqa hqc hbq hn hnq hnext ha' hbt htop hft
                have bm : ((i : Int) != (i : Int)) = false := by simp
                go_wp2_with fail
                go_region
                all_goals
                  go_wp2
                  go_roundw
                  case rel => exact ⟨rfl, c1 + 1, n + 1, by omega, by go_num, by go_num, by omega, HNX, by first | exact (HB6.out.alloc HB6.out.size _).drew | exact HB6.out.drew.alloc HB6.out.size _ | exact HB6.out.alloc HB6.out.size _⟩
                  case measure => simp [RowKit.intOf]; omega
              · have HNX := Go.Lib.hid (HAk.out.skip HF.out (skip_empty HF.out HAT.out (.inr htop)))
                have htl := Gd.top_le (plT T) f1 t1 i
                clear ha' hbt
                generalize Gd.top (plT T) f1 t1 i = tp at *
                have bm : ((tp : Int) != (i : Int)) = true := by rw [bne_iff_ne]; omega
                have bm' : ((tp : Int) == (i : Int)) = false := beq_eq_false_iff_ne.2 (by omega)
                unfold rectV
                clear htop hft
                go_wp2
                go_roundw
                case rel => exact ⟨rfl, k + 1, n, by omega, by go_num, rfl, hnl, HNX, HB6.out.alloc HB6.out.size _⟩
                case measure => simp [RowKit.intOf]; omega
          · obtain rfl : k = rl := by omega
            have HNX := Go.Lib.hid (Ahead.rowEnd HF.out (plT_get hiT) (by rw [plR_len, HRL.out]; exact HAk.out))
            clear hb5
            go_wp2
            go_roundw
            case rel => exact ⟨rfl, i + 1, n, by omega, by go_num, rfl, hnl, HNX, HB5.out⟩
            case measure => simp [RowKit.intOf]; omega
      · obtain rfl : i = N := by omega
        have hfin : n = ln := by
          have h := HAh.out
          rw [show i = (plT T).length by rw [plT_len, HN.out]] at h
          rw [← HLN.out]; exact h.all HF.out
        subst hfin
        clear hbk
        go_wp2
        go_ret
        exact ⟨by simp, K3.out.trans (HBK.out.mono K3.out.size)⟩
end Go.Proofs.Ytkdhffidkopmcaa
