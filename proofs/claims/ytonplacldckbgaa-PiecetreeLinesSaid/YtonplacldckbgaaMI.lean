/- Layer 4: near (16), cut (15), the reference's Replace (31). -/
import Derived.Test.YtonplacldckbgaaMC
namespace Go.Proofs.Ytonplacldckbgaa
open Go.RowKit Go.Shelf Go.Lib Pt

/-- An offset near a string of a length. -/
def nearI (n : Int) (len : Nat) : Int := if -2 ≤ n ∧ n ≤ (len : Int) + 2 then n else if n < 0 then (-(n + 1)) % ((len : Int) + 1) else n % ((len : Int) + 1)
theorem nearI_lo (n : Int) (len : Nat) : -2 ≤ nearI n len := by
  unfold nearI
  split
  · omega
  · split
    · have := Int.emod_nonneg (-(n + 1)) (b := (len : Int) + 1) (by omega); omega
    · have := Int.emod_nonneg n (b := (len : Int) + 1) (by omega); omega
theorem nearI_hi (n : Int) (len : Nat) : nearI n len ≤ (len : Int) + 2 := by
  unfold nearI
  split
  · omega
  · split
    · have := Int.emod_lt_of_pos (-(n + 1)) (b := (len : Int) + 1) (by omega); omega
    · have := Int.emod_lt_of_pos n (b := (len : Int) + 1) (by omega); omega
/-- An int of the language. -/
def I64 (n : Int) : Prop := -9223372036854775808 ≤ n ∧ n ≤ 9223372036854775807
set_option maxRecDepth 100000 in
set_option maxHeartbeats 4000000 in
theorem near_any (n : Int) (len : Nat) (w : World) (hn : I64 n) (hl : len ≤ 200000) : Calls Try.prog 16 #[.int .i64 n, .int .i64 (len : Nat)] w fun e w' => e = .returned (.int .i64 (nearI n len)) ∧ w' = w := by
  obtain ⟨n1, n2⟩ := hn
  by_cases h1 : -2 ≤ n
  · by_cases h2 : n ≤ (len : Int) + 2
    · have hN := Go.Lib.hid (show nearI n len = n from if_pos ⟨h1, h2⟩)
      go_enter Try.func16, Try.ntmps16
      go_wp2
      go_ret
      exact ⟨by rw [hN.out]; rfl, rfl⟩
    · have hN := Go.Lib.hid (show nearI n len = n % ((len : Int) + 1) by unfold nearI; rw [if_neg (by omega), if_neg (by omega)])
      have hT : Int.tmod n ((len : Int) + 1) = n % ((len : Int) + 1) := Int.tmod_eq_emod_of_nonneg (by omega)
      have b0 := Int.emod_nonneg n (b := (len : Int) + 1) (by omega)
      have b1 := Int.emod_lt_of_pos n (b := (len : Int) + 1) (by omega)
      have h3 : ¬ n < 0 := by omega
      go_enter Try.func16, Try.ntmps16
      go_wp2
      go_ret
      exact ⟨by rw [hN.out]; rfl, rfl⟩
  · have hN := Go.Lib.hid (show nearI n len = (-(n + 1)) % ((len : Int) + 1) by unfold nearI; rw [if_neg (by omega), if_pos (by omega)])
    have hT : Int.tmod (-(n + 1)) ((len : Int) + 1) = (-(n + 1)) % ((len : Int) + 1) := Int.tmod_eq_emod_of_nonneg (by omega)
    have b0 := Int.emod_nonneg (-(n + 1)) (b := (len : Int) + 1) (by omega)
    have b1 := Int.emod_lt_of_pos (-(n + 1)) (b := (len : Int) + 1) (by omega)
    have h3 : n < 0 := by omega
    have h4 : ¬ n < 0 → False := fun h => h (by omega)
    go_enter Try.func16, Try.ntmps16
    go_wp2
    go_ret
    exact ⟨by rw [hN.out]; rfl, rfl⟩
theorem bs_of (s : ByteArray) : s = bs s.data.toList := by
  apply ByteArray.ext
  simp [bs]
set_option maxRecDepth 100000 in
set_option maxHeartbeats 4000000 in
theorem cutS_any (l : List UInt8) (w : World) (hl : l.length ≤ 9223372036854775807) : Calls Try.prog 15 #[.string (bs l)] w fun e w' => e = .returned (.string (bs (l.take 300))) ∧ w' = w := by
  have hz := bs_size l
  have hF : Ending.returned (.string ((bs l).extract 0 (min (l.length : Int) 300).toNat)) = Ending.returned (.string (bs (l.take 300))) := by
    rw [show (min (l.length : Int) 300).toNat = min 300 l.length by omega, ext_take, ← List.take_take, List.take_length]
  by_cases hc : l.length ≤ 300
  · go_enter Try.func15, Try.ntmps15
    go_wp2
    go_ret
    exact ⟨hF, rfl⟩
  · go_enter Try.func15, Try.ntmps15
    go_wp2
    go_ret
    exact ⟨hF, rfl⟩
/-- The reference's string behind a replacement. -/
def edB (a : List UInt8) (x y : Int) (s : List UInt8) : List UInt8 := if codR x y a.length s.length = 0 then a.take x.toNat ++ s ++ a.drop y.toNat else a
theorem edT_B (t : Tr) (x y : Int) (s : List UInt8) : (edT t x y s).bytes = edB t.bytes x y s := by
  unfold edB
  split
  · rename_i h; exact edT_bytes t x y s h
  · rename_i h; unfold edT; rw [if_pos (.inl h)]
theorem edB_len (a : List UInt8) (x y : Int) (s : List UInt8) : (edB a x y s).length ≤ a.length + s.length := by
  unfold edB
  split
  · rename_i h
    unfold codR at h
    split at h
    · cases h
    · rw [List.length_append, List.length_append, List.length_take, List.length_drop]
      omega
  · omega
theorem bs_append (a b : List UInt8) : bs a ++ bs b = bs (a ++ b) := by
  apply ByteArray.ext
  simp [bs]
set_option maxRecDepth 100000 in
set_option maxHeartbeats 4000000 in
theorem ref_any (a : List UInt8) (x y : Int) (s : List UInt8) (w : World) (ha : a.length ≤ 65536) (hs : s.length ≤ 65536) (hx : I64 x) (hy : I64 y) : Calls Try.prog 31 #[.string (bs a), .int .i64 x, .int .i64 y, .string (bs s)] w fun e w' => e = .returned (.tuple #[.string (bs (edB a x y s)), .int .i64 (codR x y a.length s.length)]) ∧ Below w.heap.size w w' := by
  obtain ⟨x1, x2⟩ := hx
  obtain ⟨y1, y2⟩ := hy
  have hz := bs_size a
  have hz2 := bs_size s
  by_cases h1 : x < 0
  · have hC := Go.Lib.hid (show codR x y a.length s.length = 2 by unfold codR; rw [if_pos (by omega)])
    have hE := Go.Lib.hid (show edB a x y s = a by unfold edB; rw [hC.out]; rfl)
    go_enter Try.func31, Try.ntmps31
    go_wp2
    refine bodyPost_ret (results_tmp2 rfl _ _ _) rfl ?_
    exact ⟨by rw [hC.out, hE.out]; rfl, Below.refl _ _⟩
  · by_cases h2 : y < x
    · have hC := Go.Lib.hid (show codR x y a.length s.length = 2 by unfold codR; rw [if_pos (by omega)])
      have hE := Go.Lib.hid (show edB a x y s = a by unfold edB; rw [hC.out]; rfl)
      go_enter Try.func31, Try.ntmps31
      go_wp2
      refine bodyPost_ret (results_tmp2 rfl _ _ _) rfl ?_
      exact ⟨by rw [hC.out, hE.out]; rfl, Below.refl _ _⟩
    · by_cases h3 : (a.length : Int) < y
      · have hC := Go.Lib.hid (show codR x y a.length s.length = 2 by unfold codR; rw [if_pos (by omega)])
        have hE := Go.Lib.hid (show edB a x y s = a by unfold edB; rw [hC.out]; rfl)
        go_enter Try.func31, Try.ntmps31
        go_wp2
        refine bodyPost_ret (results_tmp2 rfl _ _ _) rfl ?_
        exact ⟨by rw [hC.out, hE.out]; rfl, Below.refl _ _⟩
      · obtain ⟨f, rfl⟩ : ∃ f : Nat, x = (f : Int) := ⟨x.toNat, by omega⟩
        obtain ⟨g, rfl⟩ : ∃ g : Nat, y = (g : Int) := ⟨y.toNat, by omega⟩
        by_cases h4 : (65536 : Int) < (a.length : Int) - ((g : Int) - (f : Int)) + (s.length : Int)
        · have hC := Go.Lib.hid (show codR (f : Int) (g : Int) a.length s.length = 10 by unfold codR; rw [if_neg (by omega), if_pos h4])
          have hE := Go.Lib.hid (show edB a (f : Int) (g : Int) s = a by unfold edB; rw [hC.out]; rfl)
          go_enter Try.func31, Try.ntmps31
          go_wp2
          refine bodyPost_ret (results_tmp2 rfl _ _ _) rfl ?_
          exact ⟨by rw [hC.out, hE.out]; rfl, Below.refl _ _⟩
        · have hC := Go.Lib.hid (show codR (f : Int) (g : Int) a.length s.length = 0 by unfold codR; rw [if_neg (by omega), if_neg h4])
          have hE := Go.Lib.hid (show edB a (f : Int) (g : Int) s = a.take f ++ s ++ a.drop g by unfold edB; rw [hC.out]; rfl)
          have g1 : f ≤ a.length := by omega
          have g2 : g ≤ a.length := by omega
          have g3 : f ≤ g := by omega
          have m1 := bs_size (a.take f)
          have m2 := bs_size (a.drop g)
          have m3 := bs_size (a.take f ++ s)
          have m4 : (a.take f).length ≤ 65536 := by rw [List.length_take]; omega
          have m5 : (a.drop g).length ≤ 65536 := by rw [List.length_drop]; omega
          have m6 : (a.take f ++ s).length ≤ 131072 := by rw [List.length_append]; omega
          have e1 := ext_take a f
          have e2 := ext_drop a g
          have e3 : bs (a.take f) ++ bs s = bs (a.take f ++ s) := bs_append _ _
          have e4 : bs (a.take f ++ s) ++ bs (a.drop g) = bs (a.take f ++ s ++ a.drop g) := bs_append _ _
          go_enter Try.func31, Try.ntmps31
          go_wp2_with fail
          go_region
          all_goals
            go_wp2
            refine bodyPost_ret (results_tmp2 rfl _ _ _) rfl ?_
            exact ⟨by rw [hC.out, hE.out, List.append_assoc]; rfl, Below.drew (Below.refl _ _)⟩
end Go.Proofs.Ytonplacldckbgaa
