import Derived.Test.YtblabbeaaajlkaaI1
namespace Go.Proofs.Ytblabbeaaajlkaa
open Go.RowKit
open U

theorem ref_bad (z : Int) (h : ptB z = false) (w : World) : Calls Try.prog 15 #[.int .i64 z] w fun e w' => e = .returned (.bool false) ∧ w = w' := by
  have := refIsPoint_any z w
  rw [h] at this; exact this
set_option maxRecDepth 100000 in
set_option maxHeartbeats 4000000 in
theorem makes_le (g o len cap : Nat) (Z : List Int) (P : List Nat) (R : List Int) (hN : Nums Z P R) (hZ0 : Z.length = len) (hlc : len ≤ cap) (hcap : cap ≤ 9223372036854775807) (hlen : len ≤ 100) (w : World) (hg : g < w.heap.size) (hc : ∀ j (h : j < Z.length), w.cell? ⟨g, o + j, none⟩ = some (.int .i64 Z[j])) :
    Calls Try.prog 5 #[.slice (some ⟨g, o, none⟩) len cap] w (TrueRet w) := by
  have hN1 := hN.length
  have hZl : Z.length ≤ 200000 := by omega
  have HC := Lib.hid hc
  have hSA : SliceAt w (.slice (some ⟨g, o, none⟩) len cap) Z := .inr ⟨g, o, cap, by rw [hZ0], hg, hc⟩
  have HS := Lib.hid hSA
  have HL := Lib.hid hN1
  have hPm : P.length ≤ len := by omega
  have hz1 : Z.length ≤ len := by omega
  have hz2 : len ≤ Z.length := by omega
  clear hc hSA hN1 hZ0
  by_cases hR : R = []
  · subst hR
    have hPZ : Z = asInts P := by rw [hN.eq, List.append_nil]
    have hPl : P.length = len := by have := HL.out; rw [List.length_nil] at this; omega
    have hSP := HS.out
    rw [hPZ] at hSP
    have HSP := Lib.hid hSP
    have HPL := Lib.hid hPl
    have hstr : Str ⟨(U.bytes P).toArray⟩ P [] := ⟨by simp, hN.pts, rfl, by
      have := (bytes_len P).2
      show (U.bytes P).toArray.size ≤ _
      simp; omega⟩
    clear hPZ hSP hPl
    have e1 : min ((len : Nat) : Int) 100 = ((len : Nat) : Int) := by omega
    go_enter Try.func5, Try.ntmps5
    go_wp2_with fail
    refine (make_ok _ P hN.pts (by omega) _ HSP.out).mono ?_
    rintro e w1 ⟨rfl, hb1⟩
    go_wp2_with fail
    refine (known_any _).mono ?_
    rintro e w2 ⟨rfl, hb2⟩
    have hb12 := chain hb1 hb2
    clear hb1 hb2
    generalize hX : (⟨(U.bytes P).toArray⟩ : ByteArray) = X at *
    have HX := Lib.hid hX
    clear hX
    go_wp2_with fail
    go_loopw [5] (fun i wr => ∃ k : Nat, k ≤ P.length ∧ i = .int .i64 (k : Nat) ∧ Below w.heap.size w wr) (fun i _ => len - (intOf i).toNat)
    case atStart => exact ⟨0, Nat.zero_le _, rfl, hb12⟩
    case round =>
      obtain ⟨k, hk, rfl, hbw⟩ := hrel
      have hw0 := hbw.size
      by_cases hlt : k < P.length
      · have hkz : k < Z.length := by have := HL.out; omega
        have c1 : wr.cell? ⟨g, o + k, none⟩ = some (.int .i64 ((P[k] : Nat) : Int)) := by
          rw [← hN.get k hlt hkz]; exact (hbw.cell (p := ⟨g, o + k, none⟩) hg).trans (HC.out k hkz)
        have hpt := hN.pts.get k hlt
        go_wp2_with (go_at_call 15; refine (ref_pt _ hpt _).mono ?_; rintro e w' ⟨rfl, rfl⟩)
        go_roundw
        case rel => exact ⟨k + 1, by omega, by go_num, hbw⟩
        case measure => simp [intOf]; omega
      · have hkl : ¬ ((k : Int) < ((len : Nat) : Int)) := by have := HPL.out; omega
        go_wp2_with fail
        refine (points_ok hstr _).mono ?_
        rintro e w3 ⟨v3, rfl, hI3, hb3⟩
        have hS3 := ((HSP.out.below hbw).below hb3)
        go_wp2_with fail
        refine (refMake_ok _ P hN.pts (by omega) _ hS3).mono ?_
        rintro e w4 ⟨rfl, hb4⟩
        rw [HX.out]
        go_wp2_with fail
        refine (same_all _ _ (asInts P) (by rw [asInts_length]; omega) _ (hI3.below hb4).slice (hS3.below hb4)).mono ?_
        rintro e w5 ⟨rfl, hb5⟩
        go_wp2
        go_ret
        exact ⟨ret_bool (by first | rfl | simp), chain (chain (chain hbw hb3) hb4) hb5⟩
  · have hRp : 0 < R.length := List.length_pos_iff.2 hR
    have hPk : P.length < len := by have := HL.out; omega
    have HR := Lib.hid hR
    clear hR
    have e1 : min ((len : Nat) : Int) 100 = ((len : Nat) : Int) := by omega
    go_enter Try.func5, Try.ntmps5
    go_wp2_with fail
    refine (make_bad _ Z P R hN HR.out hZl _ HS.out).mono ?_
    rintro e w1 ⟨rfl, hb1⟩
    go_wp2_with fail
    refine (known_any _).mono ?_
    rintro e w2 ⟨rfl, hb2⟩
    have hb12 := chain hb1 hb2
    clear hb1 hb2
    go_wp2_with fail
    go_loopw [2, 5] (fun _ i wr => ∃ k : Nat, k ≤ P.length ∧ i = .int .i64 (k : Nat) ∧ Below w.heap.size w wr) (fun _ i _ => len - (intOf i).toNat)
    case atStart => exact ⟨0, Nat.zero_le _, rfl, hb12⟩
    case round =>
      obtain ⟨k, hk, rfl, hbw⟩ := hrel
      have hw0 := hbw.size
      by_cases hlt : k < P.length
      · have hkz : k < Z.length := by have := HL.out; omega
        have c1 : wr.cell? ⟨g, o + k, none⟩ = some (.int .i64 ((P[k] : Nat) : Int)) := by
          rw [← hN.get k hlt hkz]; exact (hbw.cell (p := ⟨g, o + k, none⟩) hg).trans (HC.out k hkz)
        have hpt := hN.pts.get k hlt
        go_wp2_with (go_at_call 15; refine (ref_pt _ hpt _).mono ?_; rintro e w' ⟨rfl, rfl⟩)
        go_roundw
        case rel => exact ⟨k + 1, by omega, by go_num, hbw⟩
        case measure => simp [intOf]; omega
      · obtain rfl : k = P.length := by omega
        have hkz : P.length < Z.length := by have := HL.out; omega
        have c1 : wr.cell? ⟨g, o + P.length, none⟩ = some (.int .i64 Z[P.length]) := (hbw.cell (p := ⟨g, o + P.length, none⟩) hg).trans (HC.out _ hkz)
        have hbad := Lib.hid (hN.bad hkz)
        go_wp2_with (go_at_call 15; refine (ref_bad _ hbad.out _).mono ?_; rintro e w' ⟨rfl, rfl⟩)
        go_ret
        exact ⟨ret_bool (by first | rfl | simp), hbw⟩

set_option maxRecDepth 100000 in
set_option maxHeartbeats 4000000 in
theorem makes_gt (g o len cap : Nat) (Z : List Int) (P : List Nat) (R : List Int) (hN : Nums Z P R) (hZ0 : Z.length = 100) (hll : 100 < len) (hlc : len ≤ cap) (hcap : cap ≤ 9223372036854775807) (w : World) (hg : g < w.heap.size) (hc : ∀ j (h : j < Z.length), w.cell? ⟨g, o + j, none⟩ = some (.int .i64 Z[j])) :
    Calls Try.prog 5 #[.slice (some ⟨g, o, none⟩) len cap] w (TrueRet w) := by
  have hN1 := hN.length
  have hZl : Z.length ≤ 200000 := by omega
  have HC := Lib.hid hc
  have hSA : SliceAt w (.slice (some ⟨g, o, none⟩) 100 cap) Z := .inr ⟨g, o, cap, by rw [hZ0], hg, hc⟩
  have HS := Lib.hid hSA
  have HL := Lib.hid hN1
  have hPm : P.length ≤ 100 := by omega
  have hz1 : Z.length ≤ 100 := by omega
  have hz2 : 100 ≤ Z.length := by omega
  clear hc hSA hN1 hZ0
  by_cases hR : R = []
  · subst hR
    have hPZ : Z = asInts P := by rw [hN.eq, List.append_nil]
    have hPl : P.length = 100 := by have := HL.out; rw [List.length_nil] at this; omega
    have hSP := HS.out
    rw [hPZ] at hSP
    have HSP := Lib.hid hSP
    have HPL := Lib.hid hPl
    have hstr : Str ⟨(U.bytes P).toArray⟩ P [] := ⟨by simp, hN.pts, rfl, by
      have := (bytes_len P).2
      show (U.bytes P).toArray.size ≤ _
      simp; omega⟩
    clear hPZ hSP hPl
    have e1 : min ((len : Nat) : Int) 100 = 100 := by omega
    go_enter Try.func5, Try.ntmps5
    go_wp2_with fail
    refine (make_ok _ P hN.pts (by omega) _ HSP.out).mono ?_
    rintro e w1 ⟨rfl, hb1⟩
    go_wp2_with fail
    refine (known_any _).mono ?_
    rintro e w2 ⟨rfl, hb2⟩
    have hb12 := chain hb1 hb2
    clear hb1 hb2
    generalize hX : (⟨(U.bytes P).toArray⟩ : ByteArray) = X at *
    have HX := Lib.hid hX
    clear hX
    go_wp2_with fail
    go_loopw [5] (fun i wr => ∃ k : Nat, k ≤ P.length ∧ i = .int .i64 (k : Nat) ∧ Below w.heap.size w wr) (fun i _ => 100 - (intOf i).toNat)
    case atStart => exact ⟨0, Nat.zero_le _, rfl, hb12⟩
    case round =>
      obtain ⟨k, hk, rfl, hbw⟩ := hrel
      have hw0 := hbw.size
      by_cases hlt : k < P.length
      · have hkz : k < Z.length := by have := HL.out; omega
        have c1 : wr.cell? ⟨g, o + k, none⟩ = some (.int .i64 ((P[k] : Nat) : Int)) := by
          rw [← hN.get k hlt hkz]; exact (hbw.cell (p := ⟨g, o + k, none⟩) hg).trans (HC.out k hkz)
        have hpt := hN.pts.get k hlt
        go_wp2_with (go_at_call 15; refine (ref_pt _ hpt _).mono ?_; rintro e w' ⟨rfl, rfl⟩)
        go_roundw
        case rel => exact ⟨k + 1, by omega, by go_num, hbw⟩
        case measure => simp [intOf]; omega
      · have hkl : ¬ ((k : Int) < ((100 : Nat) : Int)) := by have := HPL.out; omega
        go_wp2_with fail
        refine (points_ok hstr _).mono ?_
        rintro e w3 ⟨v3, rfl, hI3, hb3⟩
        have hS3 := ((HSP.out.below hbw).below hb3)
        go_wp2_with fail
        refine (refMake_ok _ P hN.pts (by omega) _ hS3).mono ?_
        rintro e w4 ⟨rfl, hb4⟩
        rw [HX.out]
        go_wp2_with fail
        refine (same_all _ _ (asInts P) (by rw [asInts_length]; omega) _ (hI3.below hb4).slice (hS3.below hb4)).mono ?_
        rintro e w5 ⟨rfl, hb5⟩
        go_wp2
        go_ret
        exact ⟨ret_bool (by first | rfl | simp), chain (chain (chain hbw hb3) hb4) hb5⟩
  · have hRp : 0 < R.length := List.length_pos_iff.2 hR
    have hPk : P.length < 100 := by have := HL.out; omega
    have HR := Lib.hid hR
    clear hR
    have e1 : min ((len : Nat) : Int) 100 = 100 := by omega
    go_enter Try.func5, Try.ntmps5
    go_wp2_with fail
    refine (make_bad _ Z P R hN HR.out hZl _ HS.out).mono ?_
    rintro e w1 ⟨rfl, hb1⟩
    go_wp2_with fail
    refine (known_any _).mono ?_
    rintro e w2 ⟨rfl, hb2⟩
    have hb12 := chain hb1 hb2
    clear hb1 hb2
    go_wp2_with fail
    go_loopw [2, 5] (fun _ i wr => ∃ k : Nat, k ≤ P.length ∧ i = .int .i64 (k : Nat) ∧ Below w.heap.size w wr) (fun _ i _ => 100 - (intOf i).toNat)
    case atStart => exact ⟨0, Nat.zero_le _, rfl, hb12⟩
    case round =>
      obtain ⟨k, hk, rfl, hbw⟩ := hrel
      have hw0 := hbw.size
      by_cases hlt : k < P.length
      · have hkz : k < Z.length := by have := HL.out; omega
        have c1 : wr.cell? ⟨g, o + k, none⟩ = some (.int .i64 ((P[k] : Nat) : Int)) := by
          rw [← hN.get k hlt hkz]; exact (hbw.cell (p := ⟨g, o + k, none⟩) hg).trans (HC.out k hkz)
        have hpt := hN.pts.get k hlt
        go_wp2_with (go_at_call 15; refine (ref_pt _ hpt _).mono ?_; rintro e w' ⟨rfl, rfl⟩)
        go_roundw
        case rel => exact ⟨k + 1, by omega, by go_num, hbw⟩
        case measure => simp [intOf]; omega
      · obtain rfl : k = P.length := by omega
        have hkz : P.length < Z.length := by have := HL.out; omega
        have c1 : wr.cell? ⟨g, o + P.length, none⟩ = some (.int .i64 Z[P.length]) := (hbw.cell (p := ⟨g, o + P.length, none⟩) hg).trans (HC.out _ hkz)
        have hbad := Lib.hid (hN.bad hkz)
        go_wp2_with (go_at_call 15; refine (ref_bad _ hbad.out _).mono ?_; rintro e w' ⟨rfl, rfl⟩)
        go_ret
        exact ⟨ret_bool (by first | rfl | simp), hbw⟩

set_option maxRecDepth 100000 in
set_option maxHeartbeats 4000000 in
theorem makes_none (a : Option Addr) (cap : Nat) (hcap : cap ≤ 9223372036854775807) (w : World) :
    Calls Try.prog 5 #[.slice a 0 cap] w (TrueRet w) := by
  have e1 : (min (0 : Int) 100).toNat = 0 := by decide
  have hstr : Str ⟨(U.bytes []).toArray⟩ [] [] := ⟨rfl, (fun _ h => by cases h), rfl, by decide⟩
  go_enter Try.func5, Try.ntmps5
  go_wp2_with fail
  refine (make_none _ _ _).mono ?_
  rintro e w1 ⟨rfl, hb1⟩
  go_wp2_with fail
  refine (known_any _).mono ?_
  rintro e w2 ⟨rfl, hb2⟩
  go_wp2_with fail
  refine wp_loop_rounds 1 ?_
  rw [rounds_succ]
  go_wp2_with fail
  refine (points_ok hstr _).mono ?_
  rintro e w3 ⟨v3, rfl, hI3, hb3⟩
  go_wp2_with fail
  refine (refMake_none _ _ _).mono ?_
  rintro e w4 ⟨rfl, hb4⟩
  go_wp2_with fail
  refine (same_all _ _ [] (by decide) _ (hI3.below hb4).slice (.inl ⟨rfl, _, _, rfl⟩)).mono ?_
  rintro e w5 ⟨rfl, hb5⟩
  go_wp2
  go_ret
  exact ⟨ret_bool (by first | rfl | simp), chain (chain (chain (chain hb1 hb2) hb3) hb4) hb5⟩

theorem law_makes (a0 : Option Addr) (len0 cap0 : Nat) (z0 : List Int) (w : World) (w0 : (a0 = none ∧ len0 = 0 ∧ cap0 = 0 ∧ z0 = []) ∨ ∃ x, a0 = some x ∧ len0 ≤ cap0 ∧ cap0 ≤ maxLen ∧ z0.length = cap0 ∧ (∀ i, i < z0.length → w.cell? (x.add i) = some (.int .i64 (z0.getD i 0))) ∧ ∀ n ∈ z0, (Lit.int .i64 n).wf = true) :
    Calls Try.prog 5 #[.slice a0 len0 cap0] w (TrueRet w) := by
  rcases w0 with ⟨rfl, rfl, rfl, rfl⟩ | ⟨x, rfl, hl, hm, hz, hcell, _⟩
  · exact makes_none none 0 (by decide) w
  unfold maxLen at hm
  by_cases h0 : len0 = 0
  · subst h0
    exact makes_none _ cap0 (by omega) w
  obtain ⟨b, off, spot⟩ := x
  have hc := hcell 0 (by omega)
  have hspot : spot = none := by simpa [Addr.add] using World.cell?_spot hc
  subst hspot
  have hadd : ∀ i, ((⟨b, off, none⟩ : Addr).add i) = ⟨b, off + i, none⟩ := by intro i; unfold Addr.add; split <;> simp_all
  have hg : b < w.heap.size := World.block_lt_of_cell? w ⟨b, off + 0, none⟩ (by rw [hadd] at hc; exact hc)
  obtain ⟨P, R, hN⟩ := Nums.ex (z0.take (min len0 100))
  have hcells : ∀ j (h : j < (z0.take (min len0 100)).length), w.cell? ⟨b, off + j, none⟩ = some (.int .i64 (z0.take (min len0 100))[j]) := by
    intro j h
    have hj : j < z0.length := by rw [List.length_take] at h; omega
    have := hcell j hj
    rw [hadd] at this
    rw [this, List.getElem_take]
    simp [List.getD, hj]
  by_cases h1 : len0 ≤ 100
  · have e : min len0 100 = len0 := by omega
    rw [e] at hN hcells
    exact makes_le b off len0 cap0 _ P R hN (by rw [List.length_take]; omega) hl (by omega) h1 w hg hcells
  · have e : min len0 100 = 100 := by omega
    rw [e] at hN hcells
    exact makes_gt b off len0 cap0 _ P R hN (by rw [List.length_take]; omega) (by omega) hl (by omega) w hg hcells
end Go.Proofs.Ytblabbeaaajlkaa
