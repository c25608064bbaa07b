/- Layer 7: the reference's Clear and Set. -/
import Derived.Test.YtjdjfokfilnnoaaJA
import Derived.Test.YtjdjfokfilnnoaaQ1
import Derived.Laws.AppendOwnNone
namespace Go.Proofs.Ytjdjfokfilnnoaa
open Go.RowKit Go.Lib

theorem clear_snoc (l : List Pr) (p : Int) (k : Nat) (h : k < l.length) : clearP (l.take (k + 1)) p = clearP (l.take k) p ++ (if l[k].1 = p then [] else [l[k]]) := by
  unfold clearP
  rw [List.take_succ_eq_append_getElem h, List.filter_append]
  by_cases e : l[k].1 = p
  · rw [if_pos e, List.filter_cons_of_neg (by simp [e])]; rfl
  · rw [if_neg e, List.filter_cons_of_pos (by simpa using e)]; rfl
theorem clear_len (l : List Pr) (p : Int) : (clearP l p).length ≤ l.length := List.length_filter_le _ _
set_option maxRecDepth 100000 in
set_option maxHeartbeats 8000000 in
theorem rclear_any (A : Option Addr) (len c : Nat) (l : List Pr) (hl : l.length = len) (hc : len ≤ c ∧ c ≤ maxLen) (hs : len ≤ 1000) (p : Int) (w : World) (hA : PrAt w A l) :
    Calls Try.prog 37 #[.slice A len c, .int .i64 p] w (OwnRet (clearP l p) (clearP l p).length w) := by
  obtain ⟨i0, hi, hz0, hz1, hz2⟩ := info_parts info57
  have HA := Go.Lib.hid hA
  have HL := Go.Lib.hid hl
  obtain ⟨hc1, hc2⟩ := hc
  unfold maxLen at hc2
  clear hA hl
  go_enter Try.func37, Try.ntmps37
  go_wp2
  go_loopw [5, 6] (fun v i wr => ∃ (k n : Nat) (B : Option Addr) (cb : Nat) (o : List Pr), k ≤ len ∧ i = .int .i64 k ∧ v = .slice B n cb ∧ n ≤ k ∧ wr.ownsRow w.heap.size 57 2 (.slice B n cb) n (rowP o) ∧ Below w.heap.size w wr ∧ Hid (o.length = n) ∧ Hid (o = clearP (l.take k) p)) (fun _ i _ => len - (intOf i).toNat)
  case atStart => exact ⟨0, 0, none, 0, [], Nat.zero_le _, rfl, rfl, Nat.le_refl _, World.ownsRow_nil _ _ _ _, Below.refl _ _, Go.Lib.hid rfl, Go.Lib.hid rfl⟩
  case round =>
    obtain ⟨k, n, B, cb, o, hk, rfl, rfl, hn, hown, hbw, HN, HO⟩ := hrel
    have hw0 := hbw.size
    by_cases hlt : k < len
    · have hkl : k < l.length := by rw [HL.out]; exact hlt
      rcases HA.out with hA0 | ⟨g, o', rfl, hg, hcl⟩
      · rw [hA0] at hkl; exact absurd hkl (Nat.not_lt_zero _)
      obtain ⟨h0, h1⟩ := hcl k hkl
      have c0 := (hbw.cell (p := ⟨g, o' + k * 2, none⟩) hg).trans h0
      have c1 := (hbw.cell (p := ⟨g, o' + k * 2 + 1, none⟩) hg).trans h1
      have HS := Go.Lib.hid (clear_snoc l p k hkl)
      clear h0 h1 hcl
      generalize l[k] = y at c0 c1 HS
      obtain ⟨ya, yb⟩ := y
      dsimp only at c0 c1 HS
      by_cases hz : ya = p
      · have e1 : (ya != p) = false := by simpa using hz
        have HZ := Go.Lib.hid hz
        clear hz
        go_wp2
        go_roundw
        case rel =>
          exact ⟨k + 1, n, B, cb, o, by omega, by go_num, rfl, by omega, hown, hbw, HN, Go.Lib.hid (by rw [HS.out, if_pos HZ.out, List.append_nil, ← HO.out])⟩
        case measure => simp [intOf]; omega
      · have e1 : (ya != p) = true := by simpa using hz
        have HZ := Go.Lib.hid hz
        clear hz
        go_wp2_with (at_builtin; refine wpList_append_own _ rfl _ _ 43 rfl w.heap.size 57 i0 (.agg #[.int .i64 0, .int .i64 0]) 2 16 Try.underlying43 hi hz0 hz1 hz2 rfl (by decide) _ _ _ rfl (hown.alloc _) ⟨wr.heap.size, 0, none⟩ 1 1 [.int .i64 ya, .int .i64 yb] rfl rfl (cell_new2 _ _ _ _) (by intro u hu; simp at hu; rcases hu with rfl | rfl <;> rfl) (by unfold maxLen; omega) (by omega) (by simp; omega) ?_; intro v1 w1 hown1 hgrow1 _; obtain ⟨g1, cap1, rfl⟩ := ownsRow_succ hown1)
        go_roundw
        case rel =>
          exact ⟨k + 1, n + 1, some ⟨g1, 0, none⟩, cap1, o ++ [(ya, yb)], by omega, by go_num, rfl, by omega, by rw [rowP_snoc]; exact hown1, (hbw.alloc hw0 _).grown hgrow1 (by simp; omega) (fun j e => (hown.lt j e).1), Go.Lib.hid (by rw [List.length_append, HN.out]; rfl), Go.Lib.hid (by rw [HS.out, if_neg HZ.out, ← HO.out])⟩
        case measure => simp [intOf]; omega
    · obtain rfl : k = len := by omega
      go_wp2
      go_ret
      have e : o = clearP l p := by rw [HO.out, ← HL.out, List.take_length]
      rw [← e, HN.out]
      exact ⟨B, cb, rfl, hown, hbw⟩
theorem set_split {r : List Pr} {p : Int} {k : Nat} (hk : k ≤ r.length) (h1 : ∀ j (h : j < r.length), j < k → r[j].1 < p) (h2 : ∀ h : k < r.length, ¬ r[k].1 < p) :
    r.takeWhile (fun x : Pr => decide (x.1 < p)) = r.take k ∧ r.dropWhile (fun x : Pr => decide (x.1 < p)) = r.drop k := by
  induction r generalizing k with
  | nil => simp
  | cons x r ih =>
    cases k with
    | zero =>
      have h3 := h2 (by simp)
      simp only [List.getElem_cons_zero] at h3
      rw [List.takeWhile_cons_of_neg (by simpa using h3), List.dropWhile_cons_of_neg (by simpa using h3)]
      exact ⟨rfl, rfl⟩
    | succ k =>
      have h3 := h1 0 (by simp) (by omega)
      simp only [List.getElem_cons_zero] at h3
      rw [List.takeWhile_cons_of_pos (by simpa using h3), List.dropWhile_cons_of_pos (by simpa using h3)]
      obtain ⟨e1, e2⟩ := ih (k := k) (by simpa using hk) (fun j h hj => by have := h1 (j + 1) (by simpa using h) (by omega); simpa using this) (fun h => by have := h2 (by simpa using h); simpa using this)
      rw [e1, e2]; exact ⟨rfl, rfl⟩
theorem setP_split {l r : List Pr} {p : Int} (v : Int) {k : Nat} (hr : r = clearP l p) (hk : k ≤ r.length) (h1 : ∀ j (h : j < r.length), j < k → r[j].1 < p) (h2 : ∀ h : k < r.length, ¬ r[k].1 < p) : setP l p v = r.take k ++ (p, v) :: r.drop k := by
  obtain ⟨e1, e2⟩ := set_split hk h1 h2
  unfold setP
  rw [← hr, e1, e2]
theorem rowP_append (a b : List Pr) : rowP (a ++ b) = rowP a ++ rowP b := by unfold rowP; rw [List.flatMap_append]
theorem rowP_drop {w : World} {g o k : Nat} {r : List Pr} (h : PrAt w (some ⟨g, o, none⟩) r) : ∀ j u, (rowP (r.drop k))[j]? = some u → w.cell? ⟨g, o + k * 2 + j, none⟩ = some u := by
  intro j u hj
  by_cases hk : k ≤ r.length
  · have e : rowP r = rowP (r.take k) ++ rowP (r.drop k) := by rw [← rowP_append, List.take_append_drop]
    have hl : (rowP (r.take k)).length = k * 2 := by rw [rowP_len, List.length_take, Nat.min_eq_left hk]
    have := prat_row h (k * 2 + j) u (by rw [e, List.getElem?_append_right (by omega), hl, Nat.add_sub_cancel_left]; exact hj)
    rw [← Nat.add_assoc] at this; exact this
  · rw [List.drop_eq_nil_of_le (by omega)] at hj; simp [rowP] at hj
end Go.Proofs.Ytjdjfokfilnnoaa
