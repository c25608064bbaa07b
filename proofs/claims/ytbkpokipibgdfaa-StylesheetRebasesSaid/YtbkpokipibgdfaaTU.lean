/- Layer 8: the reference's Group (58). -/
import Derived.Test.YtbkpokipibgdfaaTT
namespace Go.Proofs.Ytbkpokipibgdfaa
open Go.RowKit Go.Lib
set_option linter.unusedVariables false

theorem rowZ_row {r : Row} (h : r ∈ tabP) : rowZ r.1 = r := by unfold rowZ; rw [rowOf_mem h]; rfl
set_option maxRecDepth 100000 in
set_option maxHeartbeats 8000000 in
theorem rgroup_any (gr : Int) (l : List Pr) (hI : InT l) (A : Option Addr) (n c : Nat) (hn : l.length = n) (hc : n ≤ c ∧ c ≤ maxLen) (w : World) (hA : PrAt w A l) :
    Calls Try.prog 58 #[.slice A n c, .int .i64 gr] w (PrsR (keepP gr l) w) := by
  obtain ⟨i0, hi9, hz0, hz1, hz2⟩ := info_parts info57
  have HA := Go.Lib.hid hA
  have HN := Go.Lib.hid hn
  have HI := Go.Lib.hid hI
  have h45 : n ≤ 45 := by rw [← hn]; exact hI.len
  have hc1 := hc.1
  have hc2 := hc.2
  unfold maxLen at hc2
  have bb := Below.refl w.heap.size w
  clear hA hn hI hc
  go_enter Try.func58, Try.ntmps58
  go_wp2_with fail
  go_loopw [5, 6, 7] (fun s5 s6 _ wr => ∃ (k : Nat) (B : Option Addr) (m cb : Nat), k ≤ n ∧ s6 = .int .i64 (k : Nat) ∧ s5 = .slice B m cb ∧ m ≤ k ∧ Hid (wr.ownsRow w.heap.size 55 2 (.slice B m cb) m (rowP (keepP gr (l.take k)))) ∧ Hid ((keepP gr (l.take k)).length = m) ∧ Hid (Below w.heap.size w wr)) (fun _ s6 _ _ => n - (intOf s6).toNat)
  case atStart => exact ⟨0, none, 0, 0, Nat.zero_le _, rfl, rfl, Nat.le_refl _, Go.Lib.hid (World.ownsRow_nil _ _ _ _), Go.Lib.hid rfl, Go.Lib.hid bb⟩
  case round =>
    clear bb
    obtain ⟨k, B, m, cb, hk, rfl, rfl, hm, HOW, HLE, HBW⟩ := hrel
    have hws := HBW.out.size
    by_cases hlt : k < n
    · have hkl : k < l.length := by rw [HN.out]; exact hlt
      obtain ⟨g, o, rfl, hg, hcl⟩ : ∃ g o, A = some ⟨g, o, none⟩ ∧ g < w.heap.size ∧ ∀ k (h : k < l.length), w.cell? ⟨g, o + k * 2, none⟩ = some (.int .i64 l[k].1) ∧ w.cell? ⟨g, o + k * 2 + 1, none⟩ = some (.int .i64 l[k].2) := by
        rcases HA.out with h | h
        · rw [h] at hkl; exact absurd hkl (Nat.not_lt_zero _)
        · exact h
      obtain ⟨c0, c1⟩ := hcl k hkl
      have z0 := (HBW.out.cell (p := ⟨g, o + k * 2, none⟩) hg).trans c0
      have C0 := Go.Lib.hid c0
      have C1 := Go.Lib.hid c1
      have HK := Go.Lib.hid (keepP_snoc gr l k hkl)
      obtain ⟨r, hr, hrk⟩ := HI.out.2 _ (List.getElem_mem hkl)
      have cO := of_any l[k].1 wr
      unfold OfPost at cO
      have HO := Go.Lib.hid (show ∀ r' ∈ tabP, r'.1 = l[k].1 → r' = r from fun r' hr' e => tab_uniq hr' hr (e.trans hrk.symm))
      have HNO := Go.Lib.hid (show ¬ ∀ r' ∈ tabP, r'.1 ≠ l[k].1 from fun h => h r hr hrk)
      have HG := Go.Lib.hid (show isOt gr l[k] = (r.2.2.1 != gr) by unfold isOt; rw [← hrk, rowZ_row hr])
      have f0 : (0 : Int) ≤ (k : Int) := by omega
      have f1 : (k : Int) < (n : Int) := by omega
      clear hcl c0 c1 hr hrk
      generalize l[k] = y at z0 C0 C1 HK cO HO HNO HG
      obtain ⟨y1, y2⟩ := y
      dsimp only at z0 C0 C1 HK cO HO HNO
      clear hkl
      go_wp2_with fail
      (with_reducible refine cO.mono ?_)
      rintro e w4 ⟨⟨r', hr', hrk', rfl⟩ | ⟨hno, _⟩, k4⟩
      case inr => exact absurd hno HNO.out
      obtain rfl := HO.out r' hr' hrk'
      unfold rowRet
      have K4 := Go.Lib.hid (HBW.out.trans (k4.mono hws))
      have HOW4 := Go.Lib.hid (row_below HOW.out k4)
      have s4 := K4.out.size
      have z0 := (K4.out.cell (p := ⟨g, o + k * 2, none⟩) hg).trans C0.out
      have z1 := (K4.out.cell (p := ⟨g, o + k * 2 + 1, none⟩) hg).trans C1.out
      clear cO k4 hr' hrk'
      obtain ⟨r1, r2, r3, r4, r5, r6⟩ := r'
      dsimp only at HG ⊢
      have KA := Go.Lib.hid (K4.out.alloc s4 (.cells #[.int .i64 r1, .int .i64 r3, .int .i64 r4, .int .i64 r5, .int .i64 r6, .string r2] 57))
      have z0a := cell_al z0 (.cells #[.int .i64 r1, .int .i64 r3, .int .i64 r4, .int .i64 r5, .int .i64 r6, .string r2] 57)
      have z1a := cell_al z1 (.cells #[.int .i64 r1, .int .i64 r3, .int .i64 r4, .int .i64 r5, .int .i64 r6, .string r2] 57)
      by_cases he : (r3 == gr) = true
      · have HT := Go.Lib.hid (show keepP gr (l.take (k + 1)) = keepP gr (l.take k) ++ [(y1, y2)] by rw [HK.out, HG.out, bne, he]; rfl)
        go_wp2_with (at_builtin; refine wpList_append_own _ rfl _ _ 26 rfl w.heap.size 55 i0 (.agg #[.int .i64 0, .int .i64 0]) 2 16 Try.underlying26 hi9 hz0 hz1 hz2 rfl (by decide) _ _ _ rfl ((HOW4.out.alloc _).alloc _) ⟨w4.heap.size + 1, 0, none⟩ 1 1 [.int .i64 y1, .int .i64 y2] rfl rfl (by intro j u hj; have := cell_new2 (w4.alloc (.cells #[.int .i64 r1, .int .i64 r3, .int .i64 r4, .int .i64 r5, .int .i64 r6, .string r2] 57)) (.int .i64 y1) (.int .i64 y2) 55 j u hj; rw [World.size_alloc] at this; exact this) (by intro u hu; simp at hu; rcases hu with rfl | rfl <;> rfl) (by unfold maxLen; omega) (by omega) (by simp; omega) ?_; intro v1 w5 hown1 hgrow1 _; obtain ⟨g1, cap1, rfl⟩ := ownsRow_succ hown1)
        go_roundw
        case rel => exact ⟨k + 1, some ⟨g1, 0, none⟩, m + 1, cap1, by omega, by go_num, rfl, by omega, Go.Lib.hid (by rw [HT.out, rowP_snoc]; exact hown1), Go.Lib.hid (by rw [HT.out, List.length_append, HLE.out]; rfl), Go.Lib.hid ((KA.out.alloc (by simp; omega) _).grown hgrow1 (by simp; omega) (fun j e => (HOW4.out.lt j e).1))⟩
        case measure => simp [intOf]; omega
      · have he' : (r3 == gr) = false := by simpa using he
        have HT := Go.Lib.hid (show keepP gr (l.take (k + 1)) = keepP gr (l.take k) by rw [HK.out, HG.out, bne, he']; exact List.append_nil _)
        clear he
        go_wp2_with fail
        go_roundw
        case rel => exact ⟨k + 1, B, m, cb, by omega, by go_num, rfl, by omega, Go.Lib.hid (by rw [HT.out]; exact HOW4.out.alloc _), Go.Lib.hid (by rw [HT.out]; exact HLE.out), KA⟩
        case measure => simp [intOf]; omega
    · obtain rfl : k = n := by omega
      have e : l.take k = l := List.take_of_length_le (by rw [HN.out]; exact Nat.le_refl _)
      have HO := HOW.out
      have HL := HLE.out
      rw [e] at HO HL
      clear hlt e
      go_wp2
      go_ret
      exact ⟨B, m, cb, HL, rfl, HO, HBW.out⟩
end Go.Proofs.Ytbkpokipibgdfaa
