import Derived.Test.YtigbmhddkcgjfaaDoorPu
namespace Go.Proofs.YtigbmhddkcgjfaaDoor
open Go.RowKit Go.Shelf
open Gc

/-- At most 300 bytes of a string. -/
def cutS (s : ByteArray) : ByteArray := s.extract 0 (min s.size 300)
theorem cutS_size (s : ByteArray) : (cutS s).size ≤ 300 := by unfold cutS; rw [ByteArray.size_extract]; omega
set_option maxRecDepth 100000 in
set_option maxHeartbeats 1000000 in
theorem cut_any (s : ByteArray) (hs : s.size ≤ maxLen) (w : World) :
    Calls Tryd.prog 15 #[.string s] w fun e w' => e = .returned (.string (cutS s)) ∧ w = w' := by
  unfold maxLen at hs
  go_enter Tryd.func15, Tryd.ntmps15
  go_wp2
  go_ret
  refine ⟨?_, rfl⟩
  have : (min (s.size : Int) 300).toNat = min s.size 300 := by omega
  show Ending.returned (.string (s.extract 0 (min (s.size : Int) 300).toNat)) = _
  rw [this]; rfl

set_option maxRecDepth 100000 in
set_option maxHeartbeats 2000000 in
theorem same_any (l : List Int) (n g1 c1 g2 c2 : Nat) (hn : l.length = n) (hl : n ≤ 1000000) (w : World) (h1 : Cs w g1 l) (h2 : Cs w g2 l) :
    Calls Tryd.prog 18 #[.slice (some ⟨g1, 0, none⟩) n c1, .slice (some ⟨g2, 0, none⟩) n c2] w (BoolPost true w) := by
  have N := Go.Lib.hid hn
  have H1 := Go.Lib.hid h1
  have H2 := Go.Lib.hid h2
  clear hn h1 h2
  go_enter Tryd.func18, Tryd.ntmps18
  go_wp2
  go_loopw [5] (fun i wr => ∃ k : Nat, k ≤ n ∧ i = .int .i64 (k : Nat) ∧ Hid (Below w.heap.size w wr)) (fun i _ => n - (intOf i).toNat)
  case atStart => exact ⟨0, Nat.zero_le _, rfl, Go.Lib.hid (Below.refl _ _)⟩
  case round =>
    obtain ⟨k, hk, rfl, HB⟩ := hrel
    by_cases hlt : k < n
    · have hkl : k < l.length := by have := N.out; omega
      have e1 := (H1.out.below HB.out H1.out.1).2 k hkl
      have e2 := (H2.out.below HB.out H2.out.1).2 k hkl
      generalize l[k] = x at e1 e2
      go_wp2
      go_quiet (fail)
      go_wp2
      go_roundw
      case rel => exact ⟨k + 1, by omega, by go_num, Go.Lib.hid (HB.out.trans (below_drews _ _ _))⟩
      case measure => simp [intOf]; omega
    · go_wp2
      go_ret
      exact ⟨rfl, HB.out⟩

def SameInt (v : Int) (w : World) (e : Ending) (w' : World) : Prop := e = .returned (.int .i64 v) ∧ w = w'

set_option maxRecDepth 100000 in
set_option maxHeartbeats 2000000 in
theorem bytesOf_any {s : ByteArray} {P : List Nat} (h : Str s P []) (base : Nat) (v : Value) (w : World) (hv : Ints w base v (offs P)) (k : Nat) (hk : k ≤ P.length) :
    Calls Tryd.prog 22 #[.string s, v, .int .i64 (k : Nat)] w (SameInt (U.off P k : Nat) w) := by
  have hl := h.len
  have hss := h.size
  have hend : U.off P P.length = s.size := by
    rw [U.off_end, ← h.whole]; simp
  have HE := Go.Lib.hid hend
  clear hend h
  by_cases hlt : k < P.length
  · rcases ints_cases hv with ⟨h0, _⟩ | ⟨g, cap, _, rfl, hC⟩
    · have := congrArg List.length h0
      rw [offs_len, List.length_nil] at this
      omega
    · have hc := hC.2 k (by rw [offs_len]; exact hlt)
      have e : (offs P)[k]'(by rw [offs_len]; exact hlt) = (U.off P k : Int) := by simp [offs]
      rw [e] at hc
      rw [offs_len]
      clear hv hC e
      generalize U.off P k = o at hc ⊢
      generalize P.length = n at hlt hl hk ⊢
      go_enter Tryd.func22, Tryd.ntmps22
      go_wp2
      go_ret
      exact ⟨rfl, rfl⟩
  · obtain rfl : k = P.length := by omega
    have E : SameInt (U.off P P.length : Nat) w = SameInt (s.size : Nat) w := by rw [HE.out]
    rw [E]
    rcases ints_cases hv with ⟨h0, rfl⟩ | ⟨g, cap, _, rfl, hC⟩
    · have := congrArg List.length h0
      rw [offs_len] at this
      simp at this
      subst this
      go_enter Tryd.func22, Tryd.ntmps22
      go_wp2
      go_ret
      exact ⟨rfl, rfl⟩
    · rw [offs_len]
      generalize P.length = n at hl
      clear hv hC E hk hlt
      go_enter Tryd.func22, Tryd.ntmps22
      go_wp2
      go_ret
      exact ⟨rfl, rfl⟩

def floorR (l : List Int) (at' : Int) : Int := l.foldl (fun o x => if x ≤ at' then x else o) 0
theorem floorR_snoc (l : List Int) (x at' : Int) : floorR (l ++ [x]) at' = if x ≤ at' then x else floorR l at' := by
  unfold floorR; rw [List.foldl_append]; rfl

set_option maxRecDepth 100000 in
set_option maxHeartbeats 2000000 in
theorem refFloor_any (l : List Int) (n g cap : Nat) (hn : l.length = n) (hl : n ≤ 1000000) (at' : Int) (w : World) (hC : Cs w g l) :
    Calls Tryd.prog 27 #[.slice (some ⟨g, 0, none⟩) n cap, .int .i64 at'] w (SameInt (floorR l at') w) := by
  have N := Go.Lib.hid hn
  have HC := Go.Lib.hid hC
  clear hn hC
  generalize hF : floorR l at' = F
  have HF := Go.Lib.hid hF
  clear hF
  go_enter Tryd.func27, Tryd.ntmps27
  go_wp2
  go_loop [5, 6] (fun o i => ∃ (k : Nat) (x : Int), k ≤ n ∧ i = .int .i64 (k : Nat) ∧ o = .int .i64 x ∧ Hid (x = floorR (l.take k) at')) (fun _ i => n - (intOf i).toNat)
  case atStart => exact ⟨0, 0, Nat.zero_le _, rfl, rfl, Go.Lib.hid rfl⟩
  case round =>
    obtain ⟨k, x, hk, rfl, rfl, HX⟩ := hrel
    by_cases hlt : k < n
    · have hkl : k < l.length := by have := N.out; omega
      have hc := HC.out.2 k hkl
      have hs : floorR (l.take (k + 1)) at' = if l[k] ≤ at' then l[k] else floorR (l.take k) at' := by
        rw [List.take_succ_eq_append_getElem hkl, floorR_snoc]
      generalize l[k] = y at hc hs
      have HS := Go.Lib.hid hs
      clear hs
      by_cases hy : y ≤ at'
      · go_wp2
        go_round
        case rel => exact ⟨k + 1, y, by omega, by go_num, rfl, Go.Lib.hid (by rw [HS.out, if_pos hy])⟩
        case measure => simp [intOf]; omega
      · have hy' : ¬ y ≤ at' := hy
        go_wp2
        go_round
        case rel => exact ⟨k + 1, x, by omega, by go_num, rfl, Go.Lib.hid (by rw [HS.out, if_neg (by omega)]; exact HX.out)⟩
        case measure => simp [intOf]; omega
    · have hx : x = F := by
        rw [HX.out, List.take_of_length_le (by have := N.out; omega), HF.out]
      subst hx
      go_wp2
      go_ret
      exact ⟨rfl, rfl⟩

def nextR (l : List Int) (at' : Int) : Int := match l.find? (fun x => decide (at' < x)) with
  | some x => x
  | none => l.getLastD 0

set_option maxRecDepth 100000 in
set_option maxHeartbeats 2000000 in
theorem refNext_any (l : List Int) (n g cap : Nat) (hn : l.length = n) (h0 : 0 < n) (hl : n ≤ 1000000) (at' : Int) (w : World) (hC : Cs w g l) :
    Calls Tryd.prog 28 #[.slice (some ⟨g, 0, none⟩) n cap, .int .i64 at'] w (SameInt (nextR l at') w) := by
  have N := Go.Lib.hid hn
  have hlast := hC.2 (n - 1) (by omega)
  have hld : l.getLastD 0 = l[n - 1]'(by omega) := by
    subst hn
    rw [List.getLastD_eq_getLast?, List.getLast?_eq_getElem?, List.getElem?_eq_getElem (by omega)]; rfl
  generalize hz : l[n - 1]'(by omega) = z at hlast hld
  clear hz
  have HLD := Go.Lib.hid hld
  have HC := Go.Lib.hid hC
  clear hn hC hld
  obtain ⟨m, rfl⟩ : ∃ m, n = m + 1 := ⟨n - 1, by omega⟩
  rw [Nat.add_sub_cancel] at hlast
  generalize hF : nextR l at' = F
  have HF := Go.Lib.hid hF
  clear hF
  go_enter Tryd.func28, Tryd.ntmps28
  go_wp2
  go_loop [5] (fun i => ∃ (k : Nat), k ≤ m + 1 ∧ i = .int .i64 (k : Nat) ∧ Hid (∀ j (h : j < l.length), j < k → l[j] ≤ at')) (fun i => m + 1 - (intOf i).toNat)
  case atStart => exact ⟨0, Nat.zero_le _, rfl, Go.Lib.hid (fun j _ h => absurd h (Nat.not_lt_zero _))⟩
  case round =>
    obtain ⟨k, hk, rfl, HX⟩ := hrel
    by_cases hlt : k < m + 1
    · have hkl : k < l.length := by have := N.out; omega
      have hc := HC.out.2 k hkl
      have hfind : at' < l[k] → F = l[k] := by
        intro h
        rw [← HF.out]
        unfold nextR
        have : l.find? (fun x => decide (at' < x)) = some l[k] := by
          rw [List.find?_eq_some_iff_getElem]
          refine ⟨by simpa using h, k, hkl, rfl, fun j hj => ?_⟩
          have := HX.out j (by omega) hj
          simp; omega
        rw [this]
      have hstep : ¬ at' < l[k] → ∀ j (h : j < l.length), j < k + 1 → l[j] ≤ at' := by
        intro h j hj hjk
        by_cases e : j = k
        · subst e; omega
        · exact HX.out j hj (by omega)
      have HFI := Go.Lib.hid hfind
      have HST := Go.Lib.hid hstep
      clear hfind hstep
      generalize l[k] = y at hc HFI HST
      by_cases hy : at' < y
      · have := HFI.out hy
        subst this
        clear HFI
        go_wp2
        go_ret
        exact ⟨rfl, rfl⟩
      · go_wp2
        go_round
        case rel => exact ⟨k + 1, by omega, by go_num, Go.Lib.hid (HST.out hy)⟩
        case measure => simp [intOf]; omega
    · have hx : z = F := by
        rw [← HF.out, ← HLD.out]
        unfold nextR
        rw [List.find?_eq_none.2]
        intro x hx
        obtain ⟨j, hj, rfl⟩ := List.getElem_of_mem hx
        have := HX.out j hj (by have := N.out; omega)
        simp; omega
      subst hx
      go_wp2
      go_ret
      exact ⟨rfl, rfl⟩
end Go.Proofs.YtigbmhddkcgjfaaDoor
