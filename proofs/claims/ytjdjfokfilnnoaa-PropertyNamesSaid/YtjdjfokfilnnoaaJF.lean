/- Layer 7: the keys of a group. -/
import Derived.Test.YtjdjfokfilnnoaaJE
import Derived.OwnWalk
import Derived.Maps.AppendAt
import Derived.Laws.OwnMore
namespace Go.Proofs.Ytjdjfokfilnnoaa
open Go.RowKit Go.Lib

theorem info3 : (Try.prog.info? 3).map (fun i => (i.zero, i.size, i.bytes)) = some (some (.int .i64 0), 1, 8) := by kernel_rfl
def intsV (l : List Int) : List Value := l.map (Value.int .i64)
theorem intsV_snoc (l : List Int) (x : Int) : intsV (l ++ [x]) = intsV l ++ [.int .i64 x] := by simp [intsV]
def keysOf (gr : Int) (l : List Row) : List Int := (l.filter (fun r => r.2.2.1 == gr)).map (·.1)
theorem keysOf_snoc (gr : Int) (k : Nat) (h : k < 45) : keysOf gr (tabP.take (k + 1)) = keysOf gr (tabP.take k) ++ (if (tabP[k]'h).2.2.1 = gr then [(tabP[k]'h).1] else []) := by
  unfold keysOf
  rw [List.take_succ_eq_append_getElem h, List.filter_append, List.map_append]
  by_cases e : (tabP[k]'h).2.2.1 = gr
  · rw [if_pos e, List.filter_cons_of_pos (by simpa using e)]; rfl
  · rw [if_neg e, List.filter_cons_of_neg (by simpa using e)]; rfl
/-- Integers in memory. -/
def IntsAt (w : World) (B : Option Addr) (l : List Int) : Prop := l = [] ∨ ∃ g, B = some ⟨g, 0, none⟩ ∧ g < w.heap.size ∧ ∀ j (h : j < l.length), w.cell? ⟨g, j, none⟩ = some (.int .i64 l[j])
theorem IntsAt.below {w w' : World} {B : Option Addr} {l : List Int} (h : IntsAt w B l) (hb : Below w.heap.size w w') : IntsAt w' B l := by
  rcases h with h | ⟨g, h1, h2, h3⟩
  · exact .inl h
  · exact .inr ⟨g, h1, Nat.lt_of_lt_of_le h2 hb.size, fun j hj => (hb.cell (p := ⟨g, j, none⟩) h2).trans (h3 j hj)⟩
theorem ints_at {w : World} {base n cb : Nat} {B : Option Addr} {l : List Int} (h : w.ownsRow base 3 1 (.slice B n cb) n (intsV l)) (hn : l.length = n) : IntsAt w B l := by
  have h2 := h
  rcases h.2 with ⟨hv, h0⟩ | ⟨g, cap, cur, hv, _⟩
  · exact .inl (List.eq_nil_of_length_eq_zero (by omega))
  · injection hv with e1 _ e2
    subst e1 e2
    refine .inr ⟨g, rfl, (h.lt g rfl).2, fun j hj => ?_⟩
    rw [h2.cellAt j (by omega)]
    simp [intsV, hj]
def KeysRet (gr : Int) (w : World) (e : Ending) (w' : World) : Prop := ∃ B n cb, e = .returned (.slice B n cb) ∧ (keysOf gr tabP).length = n ∧ IntsAt w' B (keysOf gr tabP) ∧ Below w.heap.size w w'
set_option maxRecDepth 100000 in
set_option maxHeartbeats 8000000 in
theorem keys_any (gr : Int) (w : World) : Calls Try.prog 21 #[.int .i64 gr] w (KeysRet gr w) := by
  obtain ⟨i0, hi, hz0, hz1, hz2⟩ := info_parts info3
  have cT := fun w' => table_any w'
  go_enter Try.func21, Try.ntmps21
  go_wp2_with fail
  refine (cT _).mono ?_
  rintro e w0 ⟨rfl, hb0⟩
  clear cT
  have hs0 := hb0.size
  go_wp2_with fail
  go_loopw [3, 7] (fun v i wr => ∃ (k n : Nat) (B : Option Addr) (cb : Nat) (o : List Int), k ≤ 45 ∧ i = .int .i64 k ∧ v = .slice B n cb ∧ n ≤ k ∧ wr.ownsRow w0.heap.size 3 1 (.slice B n cb) n (intsV o) ∧ Below w0.heap.size w0 wr ∧ Hid (o.length = n) ∧ Hid (o = keysOf gr (tabP.take k))) (fun _ i _ => 45 - (intOf i).toNat)
  case atStart => exact ⟨0, 0, none, 0, [], Nat.zero_le _, rfl, rfl, Nat.le_refl _, World.ownsRow_nil _ _ _ _, Below.refl _ _, Go.Lib.hid rfl, Go.Lib.hid rfl⟩
  case round =>
    obtain ⟨k, n, B, cb, o, hk, rfl, rfl, hn, hown, hbw, HN, HO⟩ := hrel
    have hw0 := hbw.size
    by_cases hlt : k < 45
    · have HS := Go.Lib.hid (keysOf_snoc gr k hlt)
      have hx := fun w' => idx_tab k hlt w'
      generalize tabP[k]'hlt = r at hx HS
      obtain ⟨ra, rb, rc, rd, re, rf⟩ := r
      have hx' : ∀ w' : World, (Instr.index 75 (.agg cellsT) (.int .i64 (k : Nat))).run Try.prog w' = .ok (.agg #[.int .i64 ra, .string rb, .int .i64 rc, .int .i64 rd, .int .i64 re, .int .i64 rf]) w' := hx
      clear hx
      dsimp only at HS
      by_cases hz : rc = gr
      · have e1 : (rc == gr) = true := by simpa using hz
        have HZ := Go.Lib.hid hz
        clear hz
        go_wp2_with (at_builtin; refine wpList_append_own _ rfl _ _ 36 rfl w0.heap.size 3 i0 (.int .i64 0) 1 8 Try.underlying36 hi hz0 hz1 hz2 rfl (by decide) _ _ _ rfl ((hown.alloc _).alloc _) ⟨wr.heap.size + 1, 0, none⟩ 1 1 [.int .i64 ra] rfl rfl (by intro j u hj; have := cell_one_new (wr.alloc (.cells #[.int .i64 ra, .string rb, .int .i64 rc, .int .i64 rd, .int .i64 re, .int .i64 rf] 70)) (.int .i64 ra) 3 j u hj; rw [World.size_alloc] at this; exact this) (by intro u hu; simp at hu; subst hu; rfl) (by unfold maxLen; omega) (by omega) (by simp; omega) ?_; intro v1 w1 hown1 hgrow1 _; obtain ⟨g1, cap1, rfl⟩ := ownsRow_succ hown1)
        go_roundw
        case rel =>
          exact ⟨k + 1, n + 1, some ⟨g1, 0, none⟩, cap1, o ++ [ra], by omega, by go_num, rfl, by omega, by rw [intsV_snoc]; exact hown1, ((hbw.alloc hw0 _).alloc (by simp; omega) _).grown hgrow1 (by simp; omega) (fun j e => (hown.lt j e).1), Go.Lib.hid (by rw [List.length_append, HN.out]; rfl), Go.Lib.hid (by rw [HS.out, if_pos HZ.out, ← HO.out])⟩
        case measure => simp [intOf]; omega
      · have e1 : (rc == gr) = false := by simpa using hz
        have HZ := Go.Lib.hid hz
        clear hz
        go_wp2
        go_roundw
        case rel =>
          exact ⟨k + 1, n, B, cb, o, by omega, by go_num, rfl, by omega, hown.alloc _, (hbw.alloc hw0 _), HN, Go.Lib.hid (by rw [HS.out, if_neg HZ.out, List.append_nil, ← HO.out])⟩
        case measure => simp [intOf]; omega
    · obtain rfl : k = 45 := by omega
      go_wp2
      go_ret
      have e : o = keysOf gr tabP := HO.out
      exact ⟨B, n, cb, rfl, by rw [← e]; exact HN.out, by rw [← e]; exact ints_at hown HN.out, hb0.trans (hbw.mono hs0)⟩
set_option maxRecDepth 100000 in
set_option maxHeartbeats 8000000 in
theorem rkeys_any (gr : Int) (w : World) : Calls Try.prog 22 #[.int .i64 gr] w (KeysRet gr w) := by
  obtain ⟨i0, hi, hz0, hz1, hz2⟩ := info_parts info3
  have cT := fun w' => refTable_gets w'
  go_enter Try.func22, Try.ntmps22
  go_wp2_with fail
  refine (cT _).mono ?_
  rintro e w0 ⟨g, rfl, hR, hb0⟩
  have HR := Go.Lib.hid hR
  have hg := hR.1
  clear cT hR
  have hs0 := hb0.size
  go_wp2_with fail
  go_loopw [3, 5] (fun v i wr => ∃ (k n : Nat) (B : Option Addr) (cb : Nat) (o : List Int), k ≤ 45 ∧ i = .int .i64 k ∧ v = .slice B n cb ∧ n ≤ k ∧ wr.ownsRow w0.heap.size 3 1 (.slice B n cb) n (intsV o) ∧ Below w0.heap.size w0 wr ∧ Hid (o.length = n) ∧ Hid (o = keysOf gr (tabP.take k))) (fun _ i _ => 45 - (intOf i).toNat)
  case atStart => exact ⟨0, 0, none, 0, [], Nat.zero_le _, rfl, rfl, Nat.le_refl _, World.ownsRow_nil _ _ _ _, Below.refl _ _, Go.Lib.hid rfl, Go.Lib.hid rfl⟩
  case round =>
    obtain ⟨k, n, B, cb, o, hk, rfl, rfl, hn, hown, hbw, HN, HO⟩ := hrel
    have hw0 := hbw.size
    by_cases hlt : k < 45
    · have HS := Go.Lib.hid (keysOf_snoc gr k hlt)
      obtain ⟨a0, a1, _, _, _, _⟩ := HR.out.2 k hlt
      have c0 := (hbw.cell (p := ⟨g, k * 6, none⟩) hg).trans a0
      have c1 := (hbw.cell (p := ⟨g, k * 6 + 1, none⟩) hg).trans a1
      clear a0 a1
      generalize tabP[k]'hlt = r at c0 c1 HS
      obtain ⟨ra, rb, rc, rd, re, rf⟩ := r
      dsimp only at c0 c1 HS
      by_cases hz : rc = gr
      · have e1 : (rc == gr) = true := by simpa using hz
        have HZ := Go.Lib.hid hz
        clear hz
        go_wp2_with (at_builtin; refine wpList_append_own _ rfl _ _ 36 rfl w0.heap.size 3 i0 (.int .i64 0) 1 8 Try.underlying36 hi hz0 hz1 hz2 rfl (by decide) _ _ _ rfl (hown.alloc _) ⟨wr.heap.size, 0, none⟩ 1 1 [.int .i64 ra] rfl rfl (cell_one_new _ _ _) (by intro u hu; simp at hu; subst hu; rfl) (by unfold maxLen; omega) (by omega) (by simp; omega) ?_; intro v1 w1 hown1 hgrow1 _; obtain ⟨g1, cap1, rfl⟩ := ownsRow_succ hown1)
        go_roundw
        case rel =>
          exact ⟨k + 1, n + 1, some ⟨g1, 0, none⟩, cap1, o ++ [ra], by omega, by go_num, rfl, by omega, by rw [intsV_snoc]; exact hown1, (hbw.alloc hw0 _).grown hgrow1 (by simp; omega) (fun j e => (hown.lt j e).1), Go.Lib.hid (by rw [List.length_append, HN.out]; rfl), Go.Lib.hid (by rw [HS.out, if_pos HZ.out, ← HO.out])⟩
        case measure => simp [intOf]; omega
      · have e1 : (rc == gr) = false := by simpa using hz
        have HZ := Go.Lib.hid hz
        clear hz
        go_wp2
        go_roundw
        case rel =>
          exact ⟨k + 1, n, B, cb, o, by omega, by go_num, rfl, by omega, hown, hbw, HN, Go.Lib.hid (by rw [HS.out, if_neg HZ.out, List.append_nil, ← HO.out])⟩
        case measure => simp [intOf]; omega
    · obtain rfl : k = 45 := by omega
      go_wp2
      go_ret
      have e : o = keysOf gr tabP := HO.out
      exact ⟨B, n, cb, rfl, by rw [← e]; exact HN.out, by rw [← e]; exact ints_at hown HN.out, hb0.trans (hbw.mono hs0)⟩
end Go.Proofs.Ytjdjfokfilnnoaa
