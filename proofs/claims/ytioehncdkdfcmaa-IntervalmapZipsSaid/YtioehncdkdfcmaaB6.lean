/- Layer 5: slices.Insert into nothing; slices.Replace whole. -/
import Derived.Test.YtioehncdkdfcmaaB5
namespace Go.Proofs.Ytioehncdkdfcmaa
open Go.RowKit Go.Lib

theorem own_block {w : World} {base n c G j : Nat} {A : Option Addr} {xs : List Value} (hs : w.ownsRow base 34 3 (.slice A n c) n xs) (hA : ∀ g, A = some ⟨g, 0, none⟩ → g = G) (e : Value.ownBlock (.slice A n c) = some j) : j = G := by
  rcases hs.2 with ⟨h, _⟩ | ⟨g, _, _, h, _⟩
  · injection h with h1 _ _
    subst h1
    simp [Value.ownBlock] at e
  · injection h with h1 _ _
    subst h1
    simp only [Value.ownBlock, Option.some.injEq] at e
    rw [← e]; exact hA g rfl
set_option maxRecDepth 100000 in
set_option maxHeartbeats 8000000 in
theorem ins_nil (base G cA m cB : Nat) (A B : Option Addr) (J : List Rn) (hJ : J.length = m) (hm : m ≤ 2000000) (w : World) (hbw : base ≤ w.heap.size) (hA : ∀ g, A = some ⟨g, 0, none⟩ → g = G) (hs : w.ownsRow base 34 3 (.slice A 0 cA) 0 []) (base2 : Nat) (hv : w.ownsRow base2 34 3 (.slice B m cB) m (rowR J)) :
    Calls Try.prog 54 #[.slice A 0 cA, .int .i64 0, .slice B m cB] w (OwnX base G J w) := by
  obtain ⟨i0, hi0, hz0, hz1, hz2⟩ := info_parts info34
  cases m with
  | zero =>
    obtain rfl : J = [] := List.eq_nil_of_length_eq_zero hJ
    have HS := Go.Lib.hid hs
    clear hs hv
    go_enter Try.func54, Try.ntmps54
    go_wp2
    go_ret
    exact ⟨⟨A, 0, cA, rfl, HS.out, rfl, Below.refl _ w⟩, Kp.refl G w, whr_own (fun j e => own_block HS.out hA e) (.inl rfl)⟩
  | succ k =>
    obtain ⟨vb, cb', hv1⟩ := ownsRow_succ hv
    injection hv1 with hB _ _
    subst hB
    have hcl := hv.cells (g := vb) rfl
    have HJL := Go.Lib.hid ((rowR_len J).trans (by rw [hJ]))
    have HJC := Go.Lib.hid hcl
    have HJ := Go.Lib.hid hJ
    have q2 : ¬ ((k : Int) + 1 = 0) := by omega
    clear hv hJ hcl
    go_enter Try.func54, Try.ntmps54
    go_wp2_with (at_builtin; refine wpList_append_own_at _ rfl _ _ 31 rfl base 34 i0 (.agg #[.int .i64 0, .int .i64 0, .int .i64 0]) 3 24 Try.underlying31 hi0 hz0 hz1 hz2 rfl (by decide) _ _ _ rfl hs ⟨vb, 0, none⟩ (k + 1) cB (rowR J) rfl HJL.out HJC.out (rowR_one J) (by unfold maxLen; omega) (by omega) hbw ?_; intro v1 w1 hown1 hgrow1 _ hat1; obtain ⟨B1, cb1, rfl⟩ := own_form hown1)
    go_ret
    refine ⟨⟨B1, k + 1, cb1, rfl, ?_, HJ.out, ((Below.refl _ w).mono hbw).grown hgrow1 hbw (fun j e => (hs.lt j e).1)⟩, kp_grown (Kp.refl G w) hgrow1 (fun j e => own_block hs hA e), whr_own (A := A) (n := 0) (c := cA) (fun j e => own_block hs hA e) (show (Value.slice B1 (k + 1) cb1).ownBlock = (Value.slice A 0 cA).ownBlock ∨ (Value.slice B1 (k + 1) cb1).ownBlock = some w.heap.size from by cases B1 <;> exact hat1)⟩
    simpa using hown1
set_option maxRecDepth 100000 in
set_option maxHeartbeats 8000000 in
theorem slreplace_any (base base2 G i j n m cA cB : Nat) (A B : Option Addr) (R J : List Rn) (hR : R.length = n) (hJ : J.length = m) (hn : n ≤ 2000000) (hm : m ≤ 2000000) (hij : i ≤ j) (hjn : j ≤ n) (hi0 : i = j → n = 0) (hm0 : m = 0 → j = n)
    (w : World) (hbw : base ≤ w.heap.size) (hA : ∀ g, A = some ⟨g, 0, none⟩ → g = G) (hs : w.ownsRow base 34 3 (.slice A n cA) n (rowR R)) (hv : w.ownsRow base2 34 3 (.slice B m cB) m (rowR J)) (hsep : ∀ g h, A = some ⟨g, 0, none⟩ → B = some ⟨h, 0, none⟩ → h ≠ g) :
    Calls Try.prog 52 #[.slice A n cA, .int .i64 i, .int .i64 j, .slice B m cB] w (OwnX base G (R.take i ++ J ++ R.drop j) w) := by
  by_cases hn0 : n = 0
  · subst hn0
    obtain rfl : R = [] := List.eq_nil_of_length_eq_zero hR
    obtain rfl : j = 0 := by omega
    obtain rfl : i = 0 := by omega
    have cI := ins_nil base G cA m cB A B J hJ hm w hbw hA hs base2 hv
    simp only [List.take_nil, List.drop_nil, List.nil_append, List.append_nil]
    have HS := Go.Lib.hid hs
    clear hs hv
    go_enter Try.func52, Try.ntmps52
    go_wp2_with (go_at_call 54; refine cI.mono ?_; rintro e w1 ⟨⟨B1, n1, c1, rfl, ho, hl, hb1⟩, hkp, hwr⟩)
    go_ret
    exact ⟨⟨B1, n1, c1, rfl, ho, hl, hb1⟩, hkp, hwr⟩
  · have hij' : i < j := by omega
    obtain ⟨k0, hk0⟩ : ∃ k0, n = k0 + 1 := ⟨n - 1, by omega⟩
    have hs' := hs
    rw [hk0] at hs'
    obtain ⟨g, cap, hA⟩ := ownsRow_succ hs'
    injection hA with hA _ hcap
    subst hA; subst hcap
    rcases hs.2 with ⟨h1, _⟩ | ⟨g', cap', cur, h1, hbg, hg, hnc, hcm, hsz, htk⟩
    · simp at h1
    simp only [Value.slice.injEq, Option.some.injEq, Addr.mk.injEq, and_true, true_and] at h1
    obtain ⟨rfl, rfl⟩ := h1
    obtain rfl := hA g rfl
    obtain ⟨cur, rfl⟩ : ∃ l : List Value, cur = l.toArray := ⟨cur.toList, by simp⟩
    simp only [List.size_toArray] at hsz
    have hJc : ∀ vb, B = some ⟨vb, 0, none⟩ → ∀ q u, (rowR J)[q]? = some u → w.cell? ⟨vb, q, none⟩ = some u := fun vb hB q u hq => by
      subst hB
      have := hv.cells (g := vb) rfl q u hq
      rw [Addr.add_lit, Nat.zero_add] at this
      exact this
    by_cases hjn' : j = n
    · subst hjn'
      have e : R.take i ++ J ++ R.drop j = R.take i ++ J := by rw [List.drop_eq_nil_of_le (by omega), List.append_nil]
      rw [e]
      rcases hv.2 with ⟨h2, h3⟩ | ⟨vb, cap2, _, h2, _, _, _, _, _, _⟩
      · injection h2 with h2a _ h2c
        subst h2a; subst h2c; subst h3
        obtain rfl : J = [] := List.eq_nil_of_length_eq_zero hJ
        rw [List.append_nil]
        exact rep_tail_none base g j cA i R cur hR hij' hn hnc hcm hbg hsz htk w hg
      · injection h2 with h2a _ h2c
        subst h2a; subst h2c
        by_cases hroom : i + m ≤ cA
        · exact rep_tail_room base g j cA i m vb cB R J cur hR hij' hn hJ hm hroom hnc hcm hbg hsz htk w hg (hJc vb rfl)
        · refine rep_tail_grow base g j cA i m vb cB R J hR hij' hn hJ hm (by omega) hnc hcm w hbw ?_ (hJc vb rfl)
          refine own_row3 (rest := cur.drop (i * 3)) (by rw [List.length_take]; omega) (by omega) hcm hbg (by rw [List.length_drop, hsz]; omega) ?_
          have htl : cur.take (i * 3) = rowR (R.take i) := by
            have := congrArg (List.take (i * 3)) htk
            rw [List.take_take, Nat.min_eq_left (by omega), rowR_take] at this
            exact this
          rw [← htl, List.take_append_drop]; exact hg
    · obtain ⟨k, rfl⟩ : ∃ k, n = j + k := ⟨n - j, by omega⟩
      have hk : 0 < k := by omega
      have hmp : 0 < m := by omega
      rcases hv.2 with ⟨_, h3⟩ | ⟨vb, cap2, cv, h2, _, hvg, hm2, _, hcv, _⟩
      · omega
      injection h2 with h2a _ h2c
      subst h2a; subst h2c
      have hvg0 : vb < w.heap.size := (Array.getElem?_eq_some_iff.1 hvg).1
      by_cases hroom : i + m + k ≤ cA
      · by_cases hfit : i + m ≤ j
        · exact rep_fit base g cA i j k m vb cB R J cur hR hij' hk hn hJ hmp hm hroom hfit hnc hcm hbg hsz htk w hg (hJc vb rfl)
        · exact rep_room base g cA i j k m vb cB R J cur hR hij' hk hn hJ hmp hm hroom (by omega) hnc hcm hbg hsz htk w hg cv 34 hvg (by omega) (hsep g vb rfl rfl) (hJc vb rfl)
      · exact rep_grow base g cA i j k m vb cB R J cur hR hij' hk hn hJ hmp hm (by omega) hnc htk w hbw hg hvg0 (hJc vb rfl)
end Go.Proofs.Ytioehncdkdfcmaa
