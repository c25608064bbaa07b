/- Layer 7: the reference's Merge; the law of Merge. -/
import Derived.Test.YtjdjfokfilnnoaaJC
import Derived.Deep.RegionHeld3
namespace Go.Proofs.Ytjdjfokfilnnoaa
open Go.RowKit Go.Lib

/-- What hands back a list. -/
def OutN (o : List Pr) (w : World) (e : Ending) (w' : World) : Prop := ∃ B n cb, e = .returned (.slice B n cb) ∧ o.length = n ∧ n ≤ cb ∧ cb ≤ maxLen ∧ PrAt w' B o ∧ Below w.heap.size w w'
theorem OwnRet.outN {o : List Pr} {w w' : World} {e : Ending} (h : OwnRet o o.length w e w') : OutN o w e w' := by
  obtain ⟨B, cb, rfl, hown, hb⟩ := h
  obtain ⟨A, c, hv, h1, h2, h3⟩ := PVal.own hown rfl
  injection hv with e1 _ e2
  subst e1 e2
  exact ⟨B, _, cb, rfl, rfl, h1, h2, h3, hb⟩
theorem PRet.outN {o : List Pr} {w w' : World} {e : Ending} (h : PRet o w e w') : OutN o w e w' := by
  obtain ⟨v, rfl, ⟨A, c, rfl, h1, h2, h3⟩, h4⟩ := h
  exact ⟨A, _, c, rfl, rfl, h1, h2, h3, h4⟩
theorem rset_out (A : Option Addr) (len c : Nat) (l : List Pr) (hl : l.length = len) (hc : len ≤ c ∧ c ≤ maxLen) (hs : len ≤ 900) (p v : Int) (w : World) (hA : PrAt w A l) :
    Calls Try.prog 36 #[.slice A len c, .int .i64 p, .int .i64 v] w (OutN (setP l p v) w) := (rset_any A len c l hl hc hs p v w hA).mono fun _ _ h => h.outN
theorem merge_out (A B : Option Addr) (n m c d : Nat) (l l' : List Pr) (hl : l.length = n) (hl' : l'.length = m) (hc : n ≤ c ∧ c ≤ maxLen) (hd : m ≤ d ∧ d ≤ maxLen) (hn : n ≤ 1000) (hm : m ≤ 1000) (w : World) (hA : PrAt w A l) (hB : PrAt w B l') :
    Calls Try.prog 40 #[.slice A n c, .slice B m d] w (OutN (mergeP l l') w) := by
  subst hl hl'
  refine (merge_any A B c d l l' hn hm hc hd w hA hB).mono fun e w' h => ?_
  obtain ⟨v, rfl, ho, hb⟩ := h
  have hp := PVal.own (l := mergeP l l') ho (by unfold mergeP; rw [List.length_map])
  exact PRet.outN ⟨v, rfl, hp, hb⟩
theorem rmerge_snoc (a b : List Pr) (k : Nat) (h : k < b.length) : rmergeP a (b.take (k + 1)) = setP (rmergeP a (b.take k)) b[k].1 b[k].2 := by
  unfold rmergeP
  rw [List.take_succ_eq_append_getElem h, List.foldl_append]; rfl
set_option maxRecDepth 100000 in
set_option maxHeartbeats 16000000 in
theorem rmerge_any (A B : Option Addr) (len m c d : Nat) (l h : List Pr) (hl : l.length = len) (hh : h.length = m) (hc : len ≤ c ∧ c ≤ maxLen) (hd : m ≤ d ∧ d ≤ maxLen) (hs : len ≤ 400) (hm : m ≤ 400) (w : World) (hA : PrAt w A l) (hB : PrAt w B h) :
    Calls Try.prog 41 #[.slice A len c, .slice B m d] w (OutN (rmergeP l h) w) := by
  obtain ⟨i0, hi, hz0, hz1, hz2⟩ := info_parts info57
  have HA := Go.Lib.hid hA
  have HL := Go.Lib.hid hl
  have HB := Go.Lib.hid hB
  have HM := Go.Lib.hid hh
  obtain ⟨hc1, hc2⟩ := hc
  obtain ⟨hd1, hd2⟩ := hd
  unfold maxLen at hc2 hd2
  clear hA hl hB hh
  go_enter Try.func41, Try.ntmps41
  go_wp2
  go_loopw [5, 6] (fun v i wr => ∃ (k : Nat) (C : Option Addr) (cc : Nat), k ≤ len ∧ i = .int .i64 k ∧ v = .slice C k cc ∧ wr.ownsRow w.heap.size 57 2 (.slice C k cc) k (rowP (l.take k)) ∧ Below w.heap.size w wr) (fun _ i _ => len - (intOf i).toNat)
  case atStart => exact ⟨0, none, 0, Nat.zero_le _, rfl, rfl, World.ownsRow_nil _ _ _ _, Below.refl _ _⟩
  case round =>
    obtain ⟨k, C, cc, hk, rfl, rfl, hown, hbw⟩ := hrel
    have hw0 := hbw.size
    by_cases hlt : k < len
    · have hkl : k < l.length := by rw [HL.out]; exact hlt
      rcases HA.out with hA0 | ⟨g, o', rfl, hg, hcl⟩
      · rw [hA0] at hkl; exact absurd hkl (Nat.not_lt_zero _)
      obtain ⟨h0, h1⟩ := hcl k hkl
      have c0 := (hbw.cell (p := ⟨g, o' + k * 2, none⟩) hg).trans h0
      have c1 := (hbw.cell (p := ⟨g, o' + k * 2 + 1, none⟩) hg).trans h1
      have HS := Go.Lib.hid (List.take_succ_eq_append_getElem hkl)
      clear h0 h1 hcl
      generalize l[k] = y at c0 c1 HS
      obtain ⟨ya, yb⟩ := y
      dsimp only at c0 c1
      go_wp2_with (at_builtin; refine wpList_append_own _ rfl _ _ 43 rfl w.heap.size 57 i0 (.agg #[.int .i64 0, .int .i64 0]) 2 16 Try.underlying43 hi hz0 hz1 hz2 rfl (by decide) _ _ _ rfl (hown.alloc _) ⟨wr.heap.size, 0, none⟩ 1 1 [.int .i64 ya, .int .i64 yb] rfl rfl (cell_new2 _ _ _ _) (by intro u hu; simp at hu; rcases hu with rfl | rfl <;> rfl) (by unfold maxLen; omega) (by omega) (by simp; omega) ?_; intro v1 w1 hown1 hgrow1 _; obtain ⟨g1, cap1, rfl⟩ := ownsRow_succ hown1)
      go_roundw
      case rel =>
        exact ⟨k + 1, some ⟨g1, 0, none⟩, cap1, by omega, by go_num, rfl, by rw [HS.out, rowP_snoc]; exact hown1, (hbw.alloc hw0 _).grown hgrow1 (by simp; omega) (fun j e => (hown.lt j e).1)⟩
      case measure => simp [intOf]; omega
    · obtain rfl : k = len := by omega
      have ht : l.take k = l := by rw [← HL.out, List.take_length]
      rw [ht] at hown
      obtain ⟨A', c', hv, q1, q2, hP0⟩ := PVal.own hown HL.out
      injection hv with e1 e3 e2
      clear e3
      subst e1 e2
      rw [HL.out] at q1
      have HP0 := Go.Lib.hid hP0
      have HBW := Go.Lib.hid hbw
      clear hown ht hP0 hbw
      go_wp2
      obtain ⟨w1, hw1⟩ : ∃ x, x = wr := ⟨_, rfl⟩
      have HW1 := Go.Lib.hid hw1
      clear hw1
      go_loopw [5, 7] (fun v i wr => ∃ (j n : Nat) (E : Option Addr) (ce : Nat) (o : List Pr), j ≤ m ∧ i = .int .i64 j ∧ v = .slice E n ce ∧ n ≤ ce ∧ ce ≤ maxLen ∧ n ≤ k + j ∧ Hid (PrAt wr E o) ∧ Hid (Below w.heap.size w wr) ∧ Hid (o.length = n) ∧ Hid (o = rmergeP l (h.take j))) (fun _ i _ => m - (intOf i).toNat)
      case atStart => exact ⟨0, k, _, _, l, Nat.zero_le _, rfl, rfl, q1, q2, by omega, HP0, HBW, HL, Go.Lib.hid rfl⟩
      case round =>
        obtain ⟨j, n, E, ce, o, hj, rfl, rfl, hn1, hn2, hnk, HE, HBj, HN, HO⟩ := hrel
        by_cases hlt2 : j < m
        · have hjh : j < h.length := by rw [HM.out]; exact hlt2
          rcases HB.out with hB0 | ⟨g, o', rfl, hg, hcl⟩
          · rw [hB0] at hjh; exact absurd hjh (Nat.not_lt_zero _)
          obtain ⟨h0, h1⟩ := hcl j hjh
          have c0 := (HBj.out.cell (p := ⟨g, o' + j * 2, none⟩) hg).trans h0
          have c1 := (HBj.out.cell (p := ⟨g, o' + j * 2 + 1, none⟩) hg).trans h1
          have HS := Go.Lib.hid (rmerge_snoc l h j hjh)
          clear h0 h1 hcl
          generalize h[j] = y at c0 c1 HS
          obtain ⟨ya, yb⟩ := y
          dsimp only at c0 c1 HS
          have cS := fun w' hE => rset_out E n ce o HN.out ⟨hn1, hn2⟩ (by omega) ya yb w' hE
          have hgj := Nat.lt_of_lt_of_le hg HBj.out.size
          have HEd := HE.out.below (bdrew1 (Below.refl _ wr)) (Nat.le_refl _)
          have Bd := (bdrew1 HBj.out)
          go_wp2_with fail
          go_region_held3 (fun w' => w'.cell? ⟨g, o' + j * 2, none⟩ = some (.int .i64 ya) ∧ w'.cell? ⟨g, o' + j * 2 + 1, none⟩ = some (.int .i64 yb))
            (first
              | go_keep
              | (go_split_ands
                 refine ⟨?_, ?_⟩
                 · (exact (hb5.cell (p := ⟨g, o' + j * 2, none⟩) hgj).trans c0)
                 · (exact (hb5.cell (p := ⟨g, o' + j * 2 + 1, none⟩) hgj).trans c1)))
            ((go_at_call 36; (with_reducible refine (cS _ HEd).mono ?_); rintro e w5 ⟨E5, n5, ce5, rfl, hn5, q3, q4, hE5, hb5⟩))
          have hle : n5 ≤ n + 1 := by rw [← hn5, ← HN.out]; exact set_len o ya yb
          have HN5 := Go.Lib.hid hn5
          have HE5 := Go.Lib.hid hE5
          have HB5 := Go.Lib.hid (Bd.trans (hb5.mono Bd.size))
          clear hn5 hE5 hb5 Bd HEd cS
          go_wp2
          go_roundw
          case rel => exact ⟨j + 1, n5, E5, ce5, _, by omega, by go_num, rfl, q3, q4, by omega, HE5, HB5, HN5, Go.Lib.hid (by rw [HS.out, HO.out])⟩
          case measure => simp [intOf]; omega
        · obtain rfl : j = m := by omega
          go_wp2
          go_ret
          have e : o = rmergeP l h := by rw [HO.out, ← HM.out, List.take_length]
          rw [← e]
          exact ⟨E, n, ce, rfl, HN.out, hn1, hn2, HE.out, HBj.out⟩
end Go.Proofs.Ytjdjfokfilnnoaa
