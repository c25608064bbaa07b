/- Layer 7: the law of names. -/
import Derived.Test.YtjdjfokfilnnoaaJG
import Derived.Deep.QuietTactic
import Derived.BigQuiet
namespace Go.Proofs.Ytjdjfokfilnnoaa
open Go.RowKit Go.Lib

set_option maxRecDepth 100000 in
set_option maxHeartbeats 16000000 in
theorem names_no (gr : Int) (s : ByteArray) (hz : namedK s = 0) (w : World) : Calls Try.prog 4 #[.int .i64 gr, .string s] w fun e w' => e = .returned (.bool true) ∧ Below w.heap.size w w' := by
  have cK := fun w' => known_any w'
  have c1 := fun w' => keys_any gr w'
  have c2 := fun w' => rkeys_any gr w'
  have c3 := fun w' => find_name s w'
  have c4 := fun w' => named_any s w'
  unfold KeysRet at c1 c2
  unfold FindRet at c3
  unfold NamedRet at c4
  rw [hz] at c3 c4
  simp only [if_true] at c3
  clear hz
  have hL : (keysOf gr tabP).length ≤ 45 := by unfold keysOf; rw [List.length_map]; exact List.length_filter_le _ _
  generalize keysOf gr tabP = o at c1 c2 hL
  go_enter Try.func4, Try.ntmps4
  go_wp2_with fail
  refine (c1 _).mono ?_
  rintro e w1 ⟨B, n1, cb, rfl, hn, hP, hb1⟩
  go_wp2_with fail
  refine (c2 _).mono ?_
  rintro e w2 ⟨B', n2, cb', rfl, hn2, hQ, hb2⟩
  obtain rfl : n2 = n1 := by omega
  have h45 : n2 ≤ 45 := by omega
  have HN := Go.Lib.hid hn
  have hP2 := hP.below hb2
  clear hn hn2 hP
  go_wp2_with fail
  refine (c3 _).mono ?_
  rintro e w2' ⟨rfl, hb2'⟩
  have hP3 := hP2.below hb2'
  have hQ3 := hQ.below hb2'
  go_wp2_with fail
  refine (cK _).mono ?_
  rintro e w3 ⟨rfl, hb3'⟩
  have HP := Go.Lib.hid (hP3.below hb3')
  have HQ := Go.Lib.hid (hQ3.below hb3')
  have hB3 := ((hb1.trans (hb2.mono hb1.size)).trans (hb2'.mono (Nat.le_trans hb1.size hb2.size))).trans (hb3'.mono (Nat.le_trans (Nat.le_trans hb1.size hb2.size) hb2'.size))
  have HB3 := Go.Lib.hid hB3
  clear hP2 hP3 hQ hQ3 hb1 hb2 hb2' hb3' hB3 c1 c2 c3 cK
  go_wp2_with fail
  go_loopw [9] (fun i wr => ∃ k : Nat, k ≤ n2 ∧ i = .int .i64 k ∧ Hid (Below w3.heap.size w3 wr)) (fun i _ => n2 - (intOf i).toNat)
  case atStart => exact ⟨0, Nat.zero_le _, rfl, Go.Lib.hid (Below.refl _ _)⟩
  case round =>
    obtain ⟨k, hk, rfl, HW⟩ := hrel
    by_cases hlt : k < n2
    · have hko : k < o.length := by rw [HN.out]; exact hlt
      rcases HP.out with h0 | ⟨g, rfl, hg, hc⟩
      · rw [h0] at hko; exact absurd hko (Nat.not_lt_zero _)
      rcases HQ.out with h0 | ⟨g', rfl, hg', hc'⟩
      · rw [h0] at hko; exact absurd hko (Nat.not_lt_zero _)
      have c0 := (HW.out.cell (p := ⟨g, k, none⟩) hg).trans (hc k hko)
      have c1 := (HW.out.cell (p := ⟨g', k, none⟩) hg').trans (hc' k hko)
      clear hc hc'
      generalize o[k] = z at c0 c1
      go_wp2
      go_quiet (fail)
      go_wp2
      go_roundw
      case rel => exact ⟨k + 1, by omega, by go_num, Go.Lib.hid (bdrew HW.out _)⟩
      case measure => simp [intOf]; omega
    · obtain rfl : k = n2 := by omega
      have hb3 := HW.out
      go_wp2_with (go_at_call 24; (with_reducible refine (c4 _).mono ?_); rintro e w5 ⟨rfl, hb5⟩)
      go_ret
      exact ⟨ret_bool' (by simp), (HB3.out.trans (hb3.mono HB3.out.size)).trans (hb5.mono (Nat.le_trans HB3.out.size hb3.size))⟩
set_option maxRecDepth 100000 in
set_option maxHeartbeats 16000000 in
theorem names_yes (gr : Int) (s : ByteArray) (hz : ¬ namedK s = 0) (w : World) : Calls Try.prog 4 #[.int .i64 gr, .string s] w fun e w' => e = .returned (.bool true) ∧ Below w.heap.size w w' := by
  have cK := fun w' => known_any w'
  have c1 := fun w' => keys_any gr w'
  have c2 := fun w' => rkeys_any gr w'
  have c3 := fun w' => find_name s w'
  have c4 := fun w' => named_any s w'
  unfold KeysRet at c1 c2
  unfold FindRet at c3
  unfold NamedRet at c4
  rw [if_neg hz] at c3
  have hk0 : (namedK s == 0) = false := by simpa using hz
  clear hz
  generalize namedK s = nk at c3 c4 hk0
  have hL : (keysOf gr tabP).length ≤ 45 := by unfold keysOf; rw [List.length_map]; exact List.length_filter_le _ _
  generalize keysOf gr tabP = o at c1 c2 hL
  go_enter Try.func4, Try.ntmps4
  go_wp2_with fail
  refine (c1 _).mono ?_
  rintro e w1 ⟨B, n1, cb, rfl, hn, hP, hb1⟩
  go_wp2_with fail
  refine (c2 _).mono ?_
  rintro e w2 ⟨B', n2, cb', rfl, hn2, hQ, hb2⟩
  obtain rfl : n2 = n1 := by omega
  have h45 : n2 ≤ 45 := by omega
  have HN := Go.Lib.hid hn
  have hP2 := hP.below hb2
  clear hn hn2 hP
  go_wp2_with fail
  refine (c3 _).mono ?_
  rintro e w2' ⟨rfl, hb2'⟩
  have hP3 := hP2.below hb2'
  have hQ3 := hQ.below hb2'
  go_wp2_with fail
  refine (cK _).mono ?_
  rintro e w3 ⟨rfl, hb3'⟩
  have HP := Go.Lib.hid (hP3.below hb3')
  have HQ := Go.Lib.hid (hQ3.below hb3')
  have hB3 := ((hb1.trans (hb2.mono hb1.size)).trans (hb2'.mono (Nat.le_trans hb1.size hb2.size))).trans (hb3'.mono (Nat.le_trans (Nat.le_trans hb1.size hb2.size) hb2'.size))
  have HB3 := Go.Lib.hid hB3
  clear hP2 hP3 hQ hQ3 hb1 hb2 hb2' hb3' hB3 c1 c2 c3 cK
  go_wp2_with fail
  go_loopw [9] (fun i wr => ∃ k : Nat, k ≤ n2 ∧ i = .int .i64 k ∧ Hid (Below w3.heap.size w3 wr)) (fun i _ => n2 - (intOf i).toNat)
  case atStart => exact ⟨0, Nat.zero_le _, rfl, Go.Lib.hid (Below.refl _ _)⟩
  case round =>
    obtain ⟨k, hk, rfl, HW⟩ := hrel
    by_cases hlt : k < n2
    · have hko : k < o.length := by rw [HN.out]; exact hlt
      rcases HP.out with h0 | ⟨g, rfl, hg, hc⟩
      · rw [h0] at hko; exact absurd hko (Nat.not_lt_zero _)
      rcases HQ.out with h0 | ⟨g', rfl, hg', hc'⟩
      · rw [h0] at hko; exact absurd hko (Nat.not_lt_zero _)
      have c0 := (HW.out.cell (p := ⟨g, k, none⟩) hg).trans (hc k hko)
      have c1 := (HW.out.cell (p := ⟨g', k, none⟩) hg').trans (hc' k hko)
      clear hc hc'
      generalize o[k] = z at c0 c1
      go_wp2
      go_quiet (fail)
      go_wp2
      go_roundw
      case rel => exact ⟨k + 1, by omega, by go_num, Go.Lib.hid (bdrew HW.out _)⟩
      case measure => simp [intOf]; omega
    · obtain rfl : k = n2 := by omega
      have hb3 := HW.out
      go_wp2_with fail
      refine (c4 _).mono ?_
      rintro e w5 ⟨rfl, hb5⟩
      go_wp2_with fail
      refine (c4 _).mono ?_
      rintro e w6 ⟨rfl, hb6⟩
      go_wp2
      go_ret
      exact ⟨ret_bool' (by simp), ((HB3.out.trans (hb3.mono HB3.out.size)).trans (hb5.mono (Nat.le_trans HB3.out.size hb3.size))).trans (hb6.mono (Nat.le_trans (Nat.le_trans HB3.out.size hb3.size) hb5.size))⟩
theorem law_names (gr : Int) (s : ByteArray) (w : World) (_ : s.size ≤ maxLen) : Calls Try.prog 4 #[.int .i64 gr, .string s] w fun e w' => e = .returned (.bool true) ∧ Below w.heap.size w w' := by
  by_cases hz : namedK s = 0
  · exact names_no gr s hz w
  · exact names_yes gr s hz w
end Go.Proofs.Ytjdjfokfilnnoaa
