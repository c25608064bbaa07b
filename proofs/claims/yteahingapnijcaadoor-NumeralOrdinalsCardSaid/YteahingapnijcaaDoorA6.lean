/- Layer 9: the program's symbols; roman. -/
import Derived.Test.YteahingapnijcaaDoorA5
import Derived.Test.YteahingapnijcaaDoorB2
import Derived.Laws.Rows
import Derived.Lib.OthersKept
namespace Go.Proofs.YteahingapnijcaaDoor
open Go.RowKit Go.Lib Go.Shelf Nu9

def symC : Array Value := #[.string ⟨#[109]⟩, .int .i64 1000, .string ⟨#[99, 109]⟩, .int .i64 900, .string ⟨#[100]⟩, .int .i64 500, .string ⟨#[99, 100]⟩, .int .i64 400, .string ⟨#[99]⟩, .int .i64 100, .string ⟨#[120, 99]⟩, .int .i64 90, .string ⟨#[108]⟩, .int .i64 50, .string ⟨#[120, 108]⟩, .int .i64 40, .string ⟨#[120]⟩, .int .i64 10, .string ⟨#[105, 120]⟩, .int .i64 9, .string ⟨#[118]⟩, .int .i64 5, .string ⟨#[105, 118]⟩, .int .i64 4, .string ⟨#[105]⟩, .int .i64 1]
theorem symC_size : symC.size = 26 := rfl
theorem sym_piece (j : Nat) (h : j < 13) : symC.extract (j * 2) (j * 2 + 2) = #[.string (bs (rtab[j]'(by rw [rtab_len]; exact h)).1), .int .i64 ((rtab[j]'(by rw [rtab_len]; exact h)).2 : Int)] := by
  match j, h with
  | 0, _ => rfl
  | 1, _ => rfl
  | 2, _ => rfl
  | 3, _ => rfl
  | 4, _ => rfl
  | 5, _ => rfl
  | 6, _ => rfl
  | 7, _ => rfl
  | 8, _ => rfl
  | 9, _ => rfl
  | 10, _ => rfl
  | 11, _ => rfl
  | 12, _ => rfl
  | n + 13, h => omega
theorem idx_sym (j : Nat) (h : j < 13) (w : World) : (Instr.index 70 (.agg symC) (.int .i64 (j : Nat))).run Tryd.prog w = .ok (.agg #[.string (bs (rtab[j]'(by rw [rtab_len]; exact h)).1), .int .i64 ((rtab[j]'(by rw [rtab_len]; exact h)).2 : Int)]) w := by
  have e := sym_piece j h
  have hu := run_underlying Tryd.underlying70 (w := w)
  have hz := Tryd.sizeOf69 w
  have h0 : (0 : Int) ≤ (j : Int) ∧ (j : Int) < 13 := by omega
  simp [Instr.index, hu, asIntOf, hz, h0, part, go_sem]
  rw [if_pos h, e]
/-- The program's symbols as they are laid. -/
def SymsAt (w : World) : Prop := ∃ t fr, w.heap[0]? = some (.cells symC t fr)
theorem SymsAt.lt {w : World} (h : SymsAt w) : 0 < w.heap.size := by
  obtain ⟨t, fr, h⟩ := h
  exact (Array.getElem?_eq_some_iff.1 h).1
theorem SymsAt.below {w w' : World} (h : SymsAt w) (hb : Below w.heap.size w w') : SymsAt w' := by
  have hl := h.lt
  obtain ⟨t, fr, h⟩ := h
  exact ⟨t, fr, (hb.block 0 hl).trans h⟩
theorem strCells_bs (l : List UInt8) : Lib.strCells (bs l) = Lib.byteCells l := by simp [Lib.strCells, Lib.byteCells, bs]
theorem isB_lt {B b : Nat} {bs : List Value} {w : World} (h : Lib.IsBuilderF 59 5 B b bs w) : b < w.heap.size := by
  rcases h with h | h
  · exact h.lt
  · exact h.lt
set_option maxRecDepth 100000 in
set_option maxHeartbeats 8000000 in
theorem roman_any (N : Nat) (hN : N < 4000) (w : World) (hS : SymsAt w) : Calls Tryd.prog 39 #[.int .i64 (N : Int)] w (StrB (rmn N) w) := by
  have h0 := hS.lt
  have hS1 := hS.below ((Below.refl _ w).alloc (Nat.le_refl _) (.cells #[.pointer none, .slice none 0 0] 59))
  obtain ⟨t0, fr0, hg0⟩ := hS1
  have HG := Lib.hid hg0
  clear hg0
  go_enter Tryd.func39, Tryd.ntmps39
  go_upto_region 2 with (fail)
  refine wp_region_list ?_
  refine wpList_load_row rfl 70 (.global 0) rfl 0 rfl t0 symC fr0 _ HG.out Tryd.underlying70 rfl (by kernel_rfl) ?_
  clear HG
  go_wp2
  go_loopw [0, 5, 7] (fun n _ i wr => ∃ (m j : Nat) (acc : List UInt8), n = .int .i64 (m : Nat) ∧ i = .int .i64 (j : Nat) ∧ j ≤ 13 ∧ m < 4000 ∧ Hid (rmn N = acc ++ rom (rtab.drop j) m) ∧ Lib.IsBuilderF 59 5 w.heap.size w.heap.size (Lib.byteCells acc) wr ∧ Below w.heap.size w wr) (fun _ _ i _ => (13 - intOf i).toNat)
  case atStart => exact ⟨N, 0, [], rfl, rfl, by omega, hN, Lib.hid rfl, Lib.IsBuilderF.of (Lib.fresh_isBuilder 59 5 w), (Below.refl _ w).alloc (Nat.le_refl _) _⟩
  case round =>
    obtain ⟨m, j, acc, rfl, rfl, hj, hm, HD, hI, hbw⟩ := hrel
    have hsz := hbw.size
    by_cases hlt : j < 13
    · obtain ⟨sv, hsv⟩ : ∃ sv, rtab[j]'(by rw [rtab_len]; exact hlt) = sv := ⟨_, rfl⟩
      have hidx := fun W => idx_sym j hlt W
      have hbd := rtab_bd j hlt
      rw [hsv] at hidx hbd
      obtain ⟨s, v⟩ := sv
      dsimp only at hidx hbd
      have z2 : (bs s).size ≤ 2 := by rw [bs_size]; exact hbd.2.2
      have v1 := hbd.1
      have v2 := hbd.2.1
      have HSV := Lib.hid hsv
      clear hsv hbd
      have hIa := hI.alloc (.cells #[.string (bs s), .int .i64 v] 69)
      have hba := hbw.alloc hsz (.cells #[.string (bs s), .int .i64 v] 69)
      have hca := heap_alloc_new wr (.cells #[.string (bs s), .int .i64 v] 69)
      have hpe : wr.heap.size ≠ w.heap.size := by have := isB_lt hI; omega
      obtain ⟨p, hp⟩ : ∃ p, wr.heap.size = p := ⟨_, rfl⟩
      have HP := Lib.hid hp
      rw [hp] at hca hpe
      clear hp hI hbw
      have hjb : decide ((j : Int) < 13) = true := decide_eq_true (by omega)
      go_wp2
      go_loopw [0] (fun n wr' => ∃ (m : Nat) (acc : List UInt8), n = .int .i64 (m : Nat) ∧ m < 4000 ∧ Hid (rmn N = acc ++ rom (rtab.drop j) m) ∧ Lib.IsBuilderF 59 5 w.heap.size w.heap.size (Lib.byteCells acc) wr' ∧ Below w.heap.size w wr' ∧ wr'.heap[p]? = some (.cells #[.string (bs s), .int .i64 v] 69)) (fun n _ => (intOf n).toNat)
      case atStart => exact ⟨m, acc, rfl, hm, HD, hIa, hba, hca⟩
      case round =>
        clear HD hm hIa hba hca hsz
        obtain ⟨m, acc, rfl, hm, HD, hI, hbw, hc⟩ := hrel
        have hsz := hbw.size
        have k0 : wr.cell? ⟨p, 0, none⟩ = some (.string (bs s)) := by rw [cell_of_row wr p 0 _ _ _ hc]; rfl
        have k1 : wr.cell? ⟨p, 1, none⟩ = some (.int .i64 v) := by rw [cell_of_row wr p 1 _ _ _ hc]; rfl
        rw [← HP.out] at k0 k1
        by_cases hge : v ≤ m
        · have HN := Lib.hid (show rmn N = (acc ++ s) ++ rom (rtab.drop j) (m - v) by rw [HD.out, rom_sub hlt HSV.out hge, List.append_assoc])
          have HZ := Lib.hid (show (Lib.byteCells acc).length + (bs s).size ≤ 100000000 by rw [Lib.byteCells_length, ← bs_size]; have := bs_len hN HD.out; omega)
          have HC := Lib.hid hc
          clear HD hc
          go_wp2_with fail
          refine (write_k w.heap.size w.heap.size (Lib.byteCells acc) (bs s) _ hI HZ.out hsz).mono ?_
          rintro e w1 ⟨rfl, hI1, hb1, hk1⟩
          have HK := Lib.hid (hk1 p _ _ _ (by decide) hpe HC.out)
          have k2 : w1.cell? ⟨p, 1, none⟩ = some (.int .i64 v) := by rw [cell_of_row w1 p 1 _ _ _ HK.out]; rfl
          rw [← HP.out] at k2
          clear hk1 k0 k1
          go_wp2
          go_roundw
          case rel => exact ⟨m - v, acc ++ s, by rw [show ((m - v : Nat) : Int) = (m : Int) - (v : Int) by omega], by omega, HN, by rw [Lib.byteCells_append, ← strCells_bs s]; exact Or.inr hI1, hbw.trans hb1, HK.out⟩
          case measure => simp [intOf]; omega
        · have HN := Lib.hid (show rmn N = acc ++ rom (rtab.drop (j + 1)) m by rw [HD.out, rom_skip hlt HSV.out (by omega)])
          clear HD
          go_wp2
          go_roundw
          case rel => exact ⟨m, j + 1, acc, rfl, by go_num, by omega, hm, HN, hI, hbw⟩
          case measure => simp [intOf]; omega
    · obtain rfl : j = 13 := by omega
      have HE := Lib.hid (show rmn N = acc by rw [HD.out, rom_end, List.append_nil])
      clear HD
      go_wp2_with (go_at_call 56; (with_reducible refine (string_any w.heap.size w.heap.size acc _ hI hsz).mono ?_); rintro e w1 ⟨rfl, _, hb1⟩)
      go_ret
      rw [HE.out]
      exact ⟨rfl, hbw.trans hb1⟩
end Go.Proofs.YteahingapnijcaaDoor
