/- Layer 6: the law of long strings (13). -/
import Derived.Test.YtknbglcmjggkjaaK3
import Derived.OwnWalk
import Derived.Laws.OwnMore
namespace Go.Proofs.Ytknbglcmjggkjaa
open Go.RowKit Go.Shelf Go.Lib Co

/-- The zeros. -/
def zer : List UInt8 := List.replicate 4096 0
theorem zer_len : zer.length = 4096 := List.length_replicate
theorem bytes_zeros (n : Nat) : U.bytes (List.replicate n 0) = List.replicate n 0 := by
  induction n with
  | zero => rfl
  | succ n ih => rw [List.replicate_succ, List.replicate_succ]; exact congrArg (0 :: ·) ih
theorem str_zeros : Cp.Str (bs zer) (List.replicate 4096 0) [] :=
  ⟨by rw [bs_data, List.append_nil, bytes_zeros]; rfl, fun p hp => by rw [(List.mem_replicate.1 hp).2]; decide, rfl, by rw [bs_size, zer_len]; decide⟩
theorem elems_zeros (n : Nat) : elems false 3 false (List.replicate n 0) = [] := by
  rw [elems_false]
  induction n with
  | zero => rfl
  | succ n ih => rw [List.replicate_succ, List.flatMap_cons, ih]; rfl
theorem bv_zeros : (madeCells #[Value.int .u8 0] 4096).toList = bv zer := by
  rw [toList_madeCells_one]
  unfold bv zer
  rw [List.map_replicate]
  rfl
theorem long_key : keyB (1 : Int).toNat (bs zer).data.toList (elems false (upN false) false (List.replicate 4096 0)) = [0, 0, 0] := by
  rw [show upN false = 3 from rfl, elems_zeros]; rfl
theorem long_cmp : compareBytes (keyS 1 false false false sE [97]) (keyS 1 false false false (bs zer) (List.replicate 4096 0)) = 1 := by
  rw [ex_keys _ _ _ _ _ _ (by decide)]
  unfold keyS
  rw [long_key]
  rfl
theorem zer_ne : zer ≠ [] := by unfold zer; rw [List.replicate_succ]; exact List.cons_ne_nil _ _
theorem zer_own {B : Nat} {w : World} {v : Value} (h : w.ownsRow B 5 1 v 4096 (madeCells (Value.int .u8 0).cells (4096 * 1)).toList) : Byt B w v zer := by
  have e : (madeCells (Value.int .u8 0).cells (4096 * 1)).toList = bv zer := bv_zeros
  show w.ownsRow B 5 1 v zer.length (bv zer)
  rw [zer_len, ← e]
  exact h
set_option maxRecDepth 100000 in
set_option maxHeartbeats 8000000 in
theorem long_ok (c : Nat) (w : World) : Calls Try.prog 13 #[.bool false, .int .u8 (c : Nat)] w (TrueW w) := by
  obtain ⟨i0, hi, hz0, hz1, hz2⟩ := info_parts byInfo
  have cK := fun w' => key_any str_zeros 1 false false false w'
  have cC := fun w' => compare_any strE str_zeros 1 false false false w'
  unfold KeyAns at cK
  unfold CmpAns at cC
  rw [long_key, show errS 1 (bs zer) [] = 0 by unfold errS; rw [if_neg (by decide), if_neg (by rw [bs_size, zer_len]; decide), if_neg (by simp)]] at cK
  rw [long_cmp, show errC 1 sE [] (bs zer) [] = 0 by
    unfold errC
    rw [show errS 1 sE [] = 0 by decide, show errS 1 (bs zer) [] = 0 by unfold errS; rw [if_neg (by decide), if_neg (by rw [bs_size, zer_len]; decide), if_neg (by simp)]]; simp] at cC
  simp only [if_true] at cK cC
  have hs : (bs [0, 0, 0]) = { data := #[0, 0, 0] } := rfl
  rw [hs] at cK
  unfold opV at cK cC
  unfold sE at cC
  have CK := Go.Lib.hid cK
  have CC := Go.Lib.hid cC
  clear cK cC hs
  go_enter Try.func13, Try.ntmps13
  go_wp2_with (at_make; refine wpList_make_full _ rfl _ _ 65 rfl w.heap.size 5 i0 _ 1 Try.underlying65 hi hz0 hz1 _ _ _ _ 4096 rfl rfl rfl rfl (by rw [hz2]; decide) (by unfold maxLen; omega) (Nat.le_refl _) ?_; intro w1 hown1 hgrow1; have hb1 := zer_own hown1; clear hown1; have cv1 := hb1.conv zer_ne)
  have hB1 : Below w.heap.size w w1 := (Below.refl w.heap.size w).grown hgrow1 (Nat.le_refl _) (fun k h => by cases h)
  clear hgrow1 cv1
  refine (CK.out _).mono ?_
  rintro e w2 ⟨rfl, k2⟩
  have hb2 := hb1.below k2
  have hB2 := hB1.trans (k2.mono hB1.size)
  have cv2 := hb2.conv zer_ne
  clear hb1 hB1 k2
  go_wp2_with fail
  refine (CC.out _).mono ?_
  rintro e w3 ⟨rfl, k3⟩
  have hB3 := hB2.trans (k3.mono hB2.size)
  clear hb2 hB2 k3 cv2
  go_wp2_with fail
  refine (known_any _).mono ?_
  rintro e w4 ⟨rfl, k4⟩
  have HB := Go.Lib.hid (hB3.trans (k4.mono hB3.size))
  go_wp2
  go_ret
  exact ⟨rfl, HB.out⟩
theorem zer_row {B : Nat} {w : World} {v : Value} (h : Byt B w v zer) : w.ownsRow B 5 1 v 4096 (bv zer) := by rw [← zer_len]; exact h
theorem errS_long (s : ByteArray) (bad : List UInt8) (h : 4096 < s.size) : errS 1 s bad = 10 := by
  unfold errS
  rw [if_neg (by decide), if_pos h]
set_option maxRecDepth 100000 in
set_option maxHeartbeats 8000000 in
theorem long_more (c : Nat) (hc : c < 256) (w : World) : Calls Try.prog 13 #[.bool true, .int .u8 (c : Nat)] w (TrueW w) := by
  obtain ⟨i0, hi, hz0, hz1, hz2⟩ := info_parts byInfo
  have hsz : (bs (zer ++ [UInt8.ofNat c])).size = 4097 := by rw [bs_size, List.length_append, zer_len]; rfl
  obtain ⟨P, bad, hs⟩ := Cp.Str.ex (bs (zer ++ [UInt8.ofNat c])) (by omega)
  have cK := fun w' => key_any hs 1 false false false w'
  have cC := fun w' => compare_any strE hs 1 false false false w'
  unfold KeyAns at cK
  unfold CmpAns at cC
  rw [errS_long _ _ (by omega)] at cK
  rw [show errC 1 sE [] (bs (zer ++ [UInt8.ofNat c])) bad = 10 by
    unfold errC
    rw [show errS 1 sE [] = 0 by decide, errS_long _ _ (by omega)]; simp] at cC
  have hbs : (bs (if (10 : Int) = 0 then keyB (1 : Int).toNat (bs (zer ++ [UInt8.ofNat c])).data.toList (elems false (upN false) false P) else [])) = { data := #[] } := rfl
  rw [hbs] at cK
  rw [if_neg (by decide)] at cC
  unfold opV at cK cC
  unfold sE at cC
  have CK := Go.Lib.hid cK
  have CC := Go.Lib.hid cC
  have HC := Go.Lib.hid (show (c : Int) = ((UInt8.ofNat c).toNat : Nat) by rw [UInt8.toNat_ofNat', Nat.mod_eq_of_lt (by omega)])
  have hne : zer ++ [UInt8.ofNat c] ≠ [] := by simp
  have HN := Go.Lib.hid hne
  clear cK cC hbs hsz hne
  go_enter Try.func13, Try.ntmps13
  go_wp2_with (first
    | (at_make; refine wpList_make_full _ rfl _ _ 65 rfl w.heap.size 5 i0 _ 1 Try.underlying65 hi hz0 hz1 _ _ _ _ 4096 rfl rfl rfl rfl (by rw [hz2]; decide) (by unfold maxLen; omega) (Nat.le_refl _) ?_; intro w1 hown1 hgrow1; have hb1 := zer_own hown1; clear hown1; have hs1 := hgrow1.size)
    | (at_builtin; go_loud (refine wpList_append_own _ rfl _ _ 65 rfl w.heap.size 5 i0 (.int .u8 0) 1 1 Try.underlying65 hi hz0 hz1 hz2 rfl (by decide) _ 4096 (bv zer) rfl (World.ownsRow.alloc (zer_row hb1) _) ⟨w1.heap.size, 0, none⟩ 1 1 [.int .u8 ((c : Nat) : Int)] rfl rfl (cell_one_new _ _ _) (by intro u hu; simp at hu; subst hu; rfl) (by unfold maxLen; omega) (by omega) (by simp; omega) ?_; intro v2 w2 hown2 hgrow2 _; have hb2 := Byt.snoc (l := zer) (by rw [zer_len]; exact hown2) HC.out; have cv2 := hb2.conv HN.out; clear hown2)))
  have hB1 : Below w.heap.size w w1 := (Below.refl w.heap.size w).grown hgrow1 (Nat.le_refl _) (fun k h => by cases h)
  have hB2 : Below w.heap.size w w2 := (hB1.alloc hs1 _).grown hgrow2 (by simp; omega) (fun j e => (World.ownsRow.lt (show World.ownsRow _ _ _ _ _ _ _ from zer_row hb1) j e).1)
  clear hgrow1 hgrow2 hB1 hb1 hs1 cv2
  refine (CK.out _).mono ?_
  rintro e w3 ⟨rfl, k3⟩
  have hb3 := hb2.below k3
  have hB3 := hB2.trans (k3.mono hB2.size)
  have cv3 := hb3.conv HN.out
  clear hb2 hB2 k3
  go_wp2_with fail
  refine (CC.out _).mono ?_
  rintro e w4 ⟨rfl, k4⟩
  have hB4 := hB3.trans (k4.mono hB3.size)
  clear hb3 hB3 k4 cv3
  go_wp2_with fail
  refine (known_any _).mono ?_
  rintro e w5 ⟨rfl, k5⟩
  have HB := Go.Lib.hid (hB4.trans (k5.mono hB4.size))
  go_wp2
  go_ret
  exact ⟨rfl, HB.out⟩
theorem wf_u8 {z : Int} (h : (Lit.int .u8 z).wf = true) : ∃ n : Nat, z = (n : Int) ∧ n < 256 := by
  have : 0 ≤ z ∧ z < 256 := by
    simp [Lit.wf, IntKind.bits, IntKind.signed, IntKind.min, IntKind.max] at h
    omega
  exact ⟨z.toNat, by omega, by omega⟩
theorem law_long {w : World} (m : Bool) (c : Int) (hc : (Lit.int .u8 c).wf = true) : Calls Try.prog 13 #[.bool m, .int .u8 c] w (TrueW w) := by
  obtain ⟨n, rfl, hn⟩ := wf_u8 hc
  cases m
  · exact long_ok n w
  · exact long_more n hn w
end Go.Proofs.Ytknbglcmjggkjaa
