/- Layer 9: fromRoman. -/
import Derived.Test.YteahingapnijcaaDoorA7
namespace Go.Proofs.YteahingapnijcaaDoor
open Go.RowKit Go.Lib Go.Shelf Nu9

theorem frL_fuel : ∀ (F G : Nat) (t : List (List UInt8 × Nat)) (l : List UInt8) (n : Nat), (∀ x ∈ t, 0 < x.1.length) → l.length + t.length < F → l.length + t.length < G → frL t F l n = frL t G l n := by
  intro F
  induction F with
  | zero => intro G t l n _ h _; omega
  | succ F ih =>
    intro G t l n ht h1 h2
    cases G with
    | zero => omega
    | succ G =>
      cases t with
      | nil => rfl
      | cons x t =>
        obtain ⟨s, v⟩ := x
        have hs : 0 < s.length := ht (s, v) (by simp)
        simp only [frL]
        simp only [List.length_cons] at h1 h2
        split
        · rename_i hp
          have hle : s.length ≤ l.length := List.IsPrefix.length_le (List.isPrefixOf_iff_prefix.1 hp)
          exact ih G ((s, v) :: t) (l.drop s.length) (n + v) ht (by simp only [List.length_drop, List.length_cons]; omega) (by simp only [List.length_drop, List.length_cons]; omega)
        · exact ih G t l n (fun x hx => ht x (List.mem_cons_of_mem _ hx)) (by omega) (by omega)
theorem rtab_ne : ∀ x ∈ rtab, 0 < x.1.length := by decide
theorem frL_drop {j : Nat} (h : j < 13) {s : List UInt8} {v : Nat} (hv : (rtab[j]'(by rw [rtab_len]; exact h)) = (s, v)) (F : Nat) (l : List UInt8) (n : Nat) : frL (rtab.drop j) (F + 1) l n = if s.isPrefixOf l then frL (rtab.drop j) F (l.drop s.length) (n + v) else frL (rtab.drop (j + 1)) F l n := by
  rw [List.drop_eq_getElem_cons (i := j) (by rw [rtab_len]; exact h), hv]
  rfl
theorem frL_end (F : Nat) (l : List UInt8) (n : Nat) : frL (rtab.drop 13) F l n = n := by
  rw [show rtab.drop 13 = [] from rfl]
  cases F <;> rfl
theorem drop_ext (s : ByteArray) (k : Nat) : (s.extract k s.size).data.toList = s.data.toList.drop k := by
  rw [Go.Lib.extract_data]
  rw [List.take_of_length_le (by simp)]
theorem pre_len {s l : List UInt8} (h : s.isPrefixOf l = true) : s.length ≤ l.length := List.IsPrefix.length_le (List.isPrefixOf_iff_prefix.1 h)
def strSize : Value → Nat
  | .string s => s.size
  | _ => 0
def RomR (l : List UInt8) (w : World) (e : Ending) (w' : World) : Prop := e = .returned (.int .i64 (frL rtab 1000 l 0 : Nat)) ∧ Below w.heap.size w w'
set_option maxRecDepth 100000 in
set_option maxHeartbeats 8000000 in
theorem fromroman_any (s0 : ByteArray) (hs : s0.size ≤ 900) (w : World) (hS : SymsAt w) : Calls Tryd.prog 48 #[.string s0] w (RomR s0.data.toList w) := by
  have h0 := hS.lt
  obtain ⟨t0, fr0, hg0⟩ := hS
  have HG := Lib.hid hg0
  clear hg0
  go_enter Tryd.func48, Tryd.ntmps48
  go_upto_region 2 with (fail)
  refine wp_region_list ?_
  refine wpList_load_row rfl 70 (.global 0) rfl 0 rfl t0 symC fr0 _ HG.out Tryd.underlying70 rfl (by kernel_rfl) ?_
  clear HG
  go_wp2
  go_loopw [0, 3, 5, 7] (fun u n _ i wr => ∃ (m j F : Nat) (s : ByteArray), u = .string s ∧ n = .int .i64 (m : Nat) ∧ i = .int .i64 (j : Nat) ∧ j ≤ 13 ∧ m + 1000 * s.size ≤ 900000 ∧ s.size + (13 - j) < F ∧ Hid (frL rtab 1000 s0.data.toList 0 = frL (rtab.drop j) F s.data.toList m) ∧ Below w.heap.size w wr) (fun _ _ _ i _ => (13 - intOf i).toNat)
  case atStart => exact ⟨0, 0, 1000, s0, rfl, rfl, rfl, by omega, by omega, by omega, Lib.hid rfl, Below.refl _ _⟩
  case round =>
    obtain ⟨m, j, F, s1, rfl, rfl, rfl, hj, hm, hF, HD, hbw⟩ := hrel
    have hsz := hbw.size
    by_cases hlt : j < 13
    · obtain ⟨sv, hsv⟩ : ∃ sv, rtab[j]'(by rw [rtab_len]; exact hlt) = sv := ⟨_, rfl⟩
      have hidx := fun W => idx_sym j hlt W
      have hbd := rtab_bd j hlt
      rw [hsv] at hidx hbd
      obtain ⟨s, v⟩ := sv
      dsimp only at hidx hbd
      have HSZ := Lib.hid (show (bs s).size = s.length from bs_size s)
      have z2 : (bs s).size ≤ 2 := by rw [bs_size]; exact hbd.2.2
      have HSP := Lib.hid (show 0 < s.length from rtab_ne (s, v) (by rw [← hsv]; exact List.getElem_mem _))
      have v1 := hbd.1
      have v2 := hbd.2.1
      have HSV := Lib.hid hsv
      clear hsv hbd
      have hba := hbw.alloc hsz (.cells #[.string (bs s), .int .i64 v] 69)
      have hca := heap_alloc_new wr (.cells #[.string (bs s), .int .i64 v] 69)
      obtain ⟨p, hp⟩ : ∃ p, wr.heap.size = p := ⟨_, rfl⟩
      have HP := Lib.hid hp
      rw [hp] at hca
      clear hp hbw
      have hjb : decide ((j : Int) < 13) = true := decide_eq_true (by omega)
      go_wp2
      go_loopw [0, 3] (fun u n wr' => ∃ (m F : Nat) (s1 : ByteArray), u = .string s1 ∧ n = .int .i64 (m : Nat) ∧ m + 1000 * s1.size ≤ 900000 ∧ s1.size + (13 - j) < F ∧ Hid (frL rtab 1000 s0.data.toList 0 = frL (rtab.drop j) F s1.data.toList m) ∧ Below w.heap.size w wr' ∧ wr'.heap[p]? = some (.cells #[.string (bs s), .int .i64 v] 69)) (fun u _ _ => strSize u)
      case atStart => exact ⟨m, F, s1, rfl, rfl, hm, hF, HD, hba, hca⟩
      case round =>
        clear HD hm hba hca hsz hF
        obtain ⟨m, F, s1, rfl, rfl, hm, hF, HD, hbw, hc⟩ := hrel
        have hsz := hbw.size
        have k0 : wr.cell? ⟨p, 0, none⟩ = some (.string (bs s)) := by rw [cell_of_row wr p 0 _ _ _ hc]; rfl
        have k1 : wr.cell? ⟨p, 1, none⟩ = some (.int .i64 v) := by rw [cell_of_row wr p 1 _ _ _ hc]; rfl
        rw [← HP.out] at k0 k1
        have HC := Lib.hid hc
        clear hc
        obtain ⟨F', rfl⟩ : ∃ F', F = F' + 1 := ⟨F - 1, by omega⟩
        have HX := Lib.hid (HD.out.trans (frL_drop hlt HSV.out F' s1.data.toList m))
        clear HD
        by_cases hge : Lib.hasPrefix s1.data.toList (bs s).data.toList = true
        · have hpre : s.isPrefixOf s1.data.toList = true := by rw [bs_list] at hge; exact hge
          have HN := Lib.hid (HX.out.trans (if_pos hpre))
          have hle : (bs s).size ≤ s1.size := by rw [bs_size]; have := pre_len hpre; simpa using this
          have hxs : (s1.extract (bs s).size s1.size).size = s1.size - (bs s).size := by rw [ByteArray.size_extract]; omega
          have HXS := Lib.hid hxs
          have HDE := Lib.hid (show (s1.extract (bs s).size s1.size).data.toList = s1.data.toList.drop s.length by rw [drop_ext, bs_size])
          have cP := fun W => Tryd.strings_HasPrefix s1 (bs s) W
          have HQ := Lib.hid hge
          have hpos : 1 ≤ (bs s).size := by rw [HSZ.out]; exact HSP.out
          rw [hge] at cP
          clear hge hpre HX hxs
          go_wp2_with (go_at_call 60; (with_reducible refine (cP _).mono ?_); rintro e w1 ⟨rfl, rfl⟩)
          go_roundw
          case rel => exact ⟨m + v, F', _, rfl, by go_num, by rw [HXS.out]; omega, by rw [HXS.out]; omega, by rw [HDE.out]; exact HN, hbw, HC.out⟩
          case measure => simp only [strSize]; rw [HXS.out]; omega
        · have hpre : ¬ (s.isPrefixOf s1.data.toList = true) := by rw [bs_list] at hge; exact hge
          have HN := Lib.hid (HX.out.trans (if_neg hpre))
          have hgf : Lib.hasPrefix s1.data.toList (bs s).data.toList = false := by simpa using hge
          have cP := fun W => Tryd.strings_HasPrefix s1 (bs s) W
          rw [hgf] at cP
          clear hgf hge hpre HX
          go_wp2_with (go_at_call 60; (with_reducible refine (cP _).mono ?_); rintro e w1 ⟨rfl, rfl⟩)
          go_roundw
          case rel => exact ⟨m, j + 1, F', s1, rfl, rfl, by go_num, by omega, hm, by omega, HN, hbw⟩
          case measure => simp [intOf]; omega
    · obtain rfl : j = 13 := by omega
      have HE := Lib.hid (show frL rtab 1000 s0.data.toList 0 = m by rw [HD.out, frL_end])
      clear HD
      go_wp2
      go_ret
      unfold RomR
      rw [HE.out]
      exact ⟨rfl, hbw⟩
end Go.Proofs.YteahingapnijcaaDoor
