/- Layer 9: the reference's Roman numerals. -/
import Derived.Test.YteahingapnijcaaDoorA4
import Derived.Test.YteahingapnijcaaDoorN2
namespace Go.Proofs.YteahingapnijcaaDoor
open Go.RowKit Go.Lib Go.Shelf Nu9

theorem bs_len {N : Nat} (hN : N < 4000) {acc t : List UInt8} (h : rmn N = acc ++ t) : (bs acc).size ≤ 15 := by
  rw [bs_size]
  have := rmn_len N hN
  rw [h, List.length_append] at this
  omega
set_option maxRecDepth 100000 in
set_option maxHeartbeats 8000000 in
theorem rroman_any (N : Nat) (hN : N < 4000) (w : World) : Calls Tryd.prog 28 #[.int .i64 (N : Int)] w (StrB (rmn N) w) := by
  obtain ⟨W0, hW0⟩ : ∃ W0, W0 = (w.alloc (.cells rvals 3)).alloc (.cells rstrs 9) := ⟨_, rfl⟩
  have HB : Below w.heap.size w W0 := by rw [hW0]; exact ((Below.refl _ w).alloc (Nat.le_refl _) _).alloc (by simp) _
  have HV : Hid (∀ j (h : j < 13), W0.cell? ⟨w.heap.size, j, none⟩ = some (.int .i64 ((rtab[j]'(by rw [rtab_len]; exact h)).2 : Int))) := Lib.hid fun j h => by
    rw [← rval_at j h, hW0]
    have h1 := World.cell?_alloc_mark w rvals 3 (0, 0) j
    rw [← h1]
    exact (Below.refl _ (w.alloc (.cells rvals 3))).alloc (Nat.le_refl _) (.cells rstrs 9) |>.cell (p := ⟨w.heap.size, j, none⟩) (by simp)
  have HT : Hid (∀ j (h : j < 13), W0.cell? ⟨w.heap.size + 1, j, none⟩ = some (.string (bs (rtab[j]'(by rw [rtab_len]; exact h)).1))) := Lib.hid fun j h => by
    rw [← rstr_at j h, hW0]
    have h1 := World.cell?_alloc_mark (w.alloc (.cells rvals 3)) rstrs 9 (0, 0) j
    rw [World.size_alloc] at h1
    exact h1
  unfold rvals rstrs at hW0
  have H0 := Lib.hid hW0
  clear hW0
  go_enter Tryd.func28, Tryd.ntmps28
  go_wp2
  rw [← H0.out]
  clear H0
  go_loopw [0, 3, 6] (fun n v i wr => ∃ (m j : Nat) (acc : List UInt8), n = .int .i64 (m : Nat) ∧ v = .string (bs acc) ∧ i = .int .i64 (j : Nat) ∧ j ≤ 13 ∧ m < 4000 ∧ Hid (rmn N = acc ++ rom (rtab.drop j) m) ∧ ∃ q, wr = W0.drewN q) (fun _ _ i _ => (13 - intOf i).toNat)
  case atStart => exact ⟨N, 0, [], rfl, rfl, rfl, by omega, hN, Lib.hid rfl, 0, rfl⟩
  case round =>
    obtain ⟨m, j, acc, rfl, rfl, rfl, hj, hm, HD, q, rfl⟩ := hrel
    by_cases hlt : j < 13
    · obtain ⟨sv, hsv⟩ : ∃ sv, rtab[j]'(by rw [rtab_len]; exact hlt) = sv := ⟨_, rfl⟩
      have c0 := HV.out j hlt
      have c1 := HT.out j hlt
      have hbd := rtab_bd j hlt
      rw [hsv] at c0 c1 hbd
      obtain ⟨s, v⟩ := sv
      dsimp only at c0 c1 hbd
      have z2 : (bs s).size ≤ 2 := by rw [bs_size]; exact hbd.2.2
      have v1 := hbd.1
      have v2 := hbd.2.1
      have HSV := Lib.hid hsv
      clear hsv hbd
      go_wp2
      go_loopw [0, 3] (fun n u wr => ∃ (m : Nat) (acc : List UInt8), n = .int .i64 (m : Nat) ∧ u = .string (bs acc) ∧ m < 4000 ∧ Hid (rmn N = acc ++ rom (rtab.drop j) m) ∧ ∃ q, wr = W0.drewN q) (fun n _ _ => (intOf n).toNat)
      case atStart => exact ⟨m, acc, rfl, rfl, hm, HD, q, rfl⟩
      case round =>
        clear HD hm
        obtain ⟨m, acc, rfl, rfl, hm, HD, q, rfl⟩ := hrel
        by_cases hge : v ≤ m
        · have HN := Lib.hid (show rmn N = (acc ++ s) ++ rom (rtab.drop j) (m - v) by rw [HD.out, rom_sub hlt HSV.out hge, List.append_assoc])
          have z1 := bs_len hN HD.out
          clear HD
          go_wp2
          go_quiet (fail)
          all_goals
            go_wp2
            go_roundw
            case rel => exact ⟨m - v, acc ++ s, by rw [show ((m - v : Nat) : Int) = (m : Int) - (v : Int) by omega], by rw [bs_append], by omega, HN, _, by first | rfl | exact World.drewN_drewN _ _ _⟩
            case measure => simp [intOf]; omega
        · have HN := Lib.hid (show rmn N = acc ++ rom (rtab.drop (j + 1)) m by rw [HD.out, rom_skip hlt HSV.out (by omega)])
          clear HD
          go_wp2
          go_roundw
          case rel => exact ⟨m, j + 1, acc, rfl, rfl, by go_num, by omega, hm, HN, q, rfl⟩
          case measure => simp [intOf]; omega
    · obtain rfl : j = 13 := by omega
      have HE := Lib.hid (show rmn N = acc by rw [HD.out, rom_end, List.append_nil])
      clear HD
      go_wp2
      go_ret
      rw [HE.out]
      exact ⟨rfl, HB.trans ⟨rfl, rfl, rfl, Nat.le_refl _, fun _ _ => rfl⟩⟩
end Go.Proofs.YteahingapnijcaaDoor
