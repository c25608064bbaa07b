/- Layer 9: the writers; the closure that Longest hands on. -/
import Derived.Test.YteahingapnijcaaDoorD7
import Derived.Deep.RegionHeld3
import Derived.Deep.DeepCutAuto
import Derived.IntWalk
namespace Go.Proofs.YteahingapnijcaaDoor
open Go.RowKit Go.Lib Go.Shelf Nu9

theorem lg_yes {f : Int} {a k : Nat} (h : (lg f a k).length < (num f (a + k)).length) : lg f a (k + 1) = num f (a + k) := by
  conv => lhs; unfold lg
  rw [if_pos h]
theorem lg_no {f : Int} {a k : Nat} (h : ¬ (lg f a k).length < (num f (a + k)).length) : lg f a (k + 1) = lg f a k := by
  conv => lhs; unfold lg
  rw [if_neg h]
/-- A function that writes the numerals of a format. -/
def WrR (g : Nat) (f : Int) : Prop := ∀ (N : Nat) (w : World), least f ≤ (N : Int) → (N : Int) ≤ most f → LaidW w → Calls Tryd.prog g #[.int .i64 (N : Int)] w (StrB (num f N) w)
theorem wr1 : WrR 35 1 := fun N w _ h _ => w1_any N (by rw [show most 1 = 999999 from rfl] at h; omega) w
theorem wr2 : WrR 36 2 := fun N w _ h _ => w2_any N (by rw [show most 2 = 999999 from rfl] at h; omega) w
theorem wr3 : WrR 37 3 := fun N w _ h hW => w3_any N (by rw [show most 3 = 999999 from rfl] at h; omega) w hW
theorem wr4 : WrR 39 4 := fun N w _ h hW => w4_any N (by rw [show most 4 = 3999 from rfl] at h; omega) w hW
theorem wr5 : WrR 40 5 := fun N w _ h hW => w5_any N (by rw [show most 5 = 3999 from rfl] at h; omega) w hW
theorem wr6 : WrR 41 6 := fun N w _ h _ => w6_any N (by rw [show most 6 = 999999 from rfl] at h; omega) w
theorem wr7 : WrR 43 7 := fun N w _ _ _ => w7_any N w
set_option maxRecDepth 100000 in
set_option maxHeartbeats 4000000 in
theorem closure_any (g : Nat) (f : Int) (hg : WrR g f) (eg : ∀ args w, (callFunc g args).run Tryd.prog w = .ok (.enter g args) w) (bw bl bt a i : Nat) (S : List UInt8) (W : World) (hW : LaidW W)
    (c1 : W.cell? ⟨bw, 0, none⟩ = some (.func (.func g) #[] #[])) (c2 : W.cell? ⟨bl, 0, none⟩ = some (.int .i64 (a : Nat))) (c3 : W.cell? ⟨bt, 0, none⟩ = some (.string (bs S))) (h1 : least f ≤ ((a + i : Nat) : Int)) (h2 : ((a + i : Nat) : Int) ≤ most f) (h3 : a + i ≤ 1000000) :
    Calls Tryd.prog 34 (#[.int .i64 (i : Nat)] ++ #[.pointer (some ⟨bw, 0, none⟩), .pointer (some ⟨bl, 0, none⟩), .pointer (some ⟨bt, 0, none⟩)]) W fun e w' => e = .returned (.bool (decide ((num f (a + i)).length = S.length))) ∧ Below W.heap.size W w' := by
  have cW := fun (w' : World) (h : LaidW w') => hg (a + i) w' h1 h2 h
  rw [show ((a + i : Nat) : Int) = (a : Int) + (i : Int) by omega] at cW
  have HX := Lib.hid (show decide ((num f (a + i)).length = S.length) = (((bs (num f (a + i))).size : Int) == ((bs S).size : Int)) by rw [bs_size, bs_size]; show _ = decide _; rw [decide_eq_decide]; omega)
  have hbt : bt < W.heap.size := World.block_lt_of_cell? W ⟨bt, 0, none⟩ c3
  have hbw : bw < W.heap.size := World.block_lt_of_cell? W ⟨bw, 0, none⟩ c1
  have hbl : bl < W.heap.size := World.block_lt_of_cell? W ⟨bl, 0, none⟩ c2
  have k1 : (a : Int) + (i : Int) ≤ 1000000 := by omega
  unfold StrB at cW
  clear h1 h2 hg
  generalize hn : bs (num f (a + i)) = X at cW HX
  clear hn
  have i1 : IntKind.i64.wrap ((a : Int) + (i : Int)) = (a : Int) + (i : Int) := IntWalk.i64_in _ (by omega)
  go_enter Tryd.func34, Tryd.ntmps34
  go_wp2
  go_region_held3 (fun w' => w'.cell? ⟨bw, 0, none⟩ = some (.func (.func g) #[] #[]) ∧ w'.cell? ⟨bl, 0, none⟩ = some (.int .i64 (a : Nat)) ∧ w'.cell? ⟨bt, 0, none⟩ = some (.string (bs S)))
    (first
      | go_keep
      | (go_split_ands
         refine ⟨?_, ?_, ?_⟩
         · (exact (hb.cell (p := ⟨bw, 0, none⟩) hbw).trans c1)
         · (exact (hb.cell (p := ⟨bl, 0, none⟩) hbl).trans c2)
         · (exact (hb.cell (p := ⟨bt, 0, none⟩) hbt).trans c3)
        ))
    (first | (go_at_fn g; refine (cW W.drew hW).mono ?_; rintro e w' ⟨rfl, hb⟩))
  all_goals
    go_wp2
    go_ret
    rw [HX.out]
    exact ⟨rfl, (Below.refl W.heap.size W).drew.trans hb⟩
theorem num_le (f : Int) (N : Nat) (hk : Nu9.kindOk f) (h1 : least f ≤ (N : Int)) (h2 : (N : Int) ≤ most f) : (num f N).length ≤ 40 := by
  by_cases h7 : f = 7
  · subst h7; show 3 ≤ 40; omega
  · have hE : fmtE f N = 0 := by unfold fmtE; rw [if_pos hk, if_pos ⟨h1, h2⟩]
    have := (fmt_len f N h7 hE).2.1
    unfold fmtS at this
    rw [if_pos ⟨hk, h1, h2⟩] at this
    exact this
set_option maxRecDepth 100000 in
set_option maxHeartbeats 4000000 in
theorem longestOf_any (g : Nat) (f : Int) (hg : WrR g f) (eg : ∀ args w, (callFunc g args).run Tryd.prog w = .ok (.enter g args) w) (hk : Nu9.kindOk f) (a m : Nat) (h1 : least f ≤ (a : Int)) (h2 : (m : Int) ≤ most f) (hm : m ≤ 2000) (ham : a ≤ m) (w : World) (hW : LaidW w) :
    Calls Tryd.prog 32 #[.func (.func g) #[] #[], .int .i64 (a : Nat), .int .i64 (m : Nat)] w (StrB (lg f a (m + 1 - a)) w) := by
  have HB := Lib.hid (show ∀ k, a + k ≤ m → (num f (a + k)).length ≤ 40 from fun k hk' => num_le f (a + k) hk (by omega) (by omega))
  have HG := Lib.hid (show ∀ k, k ≤ m + 1 - a → (lg f a k).length ≤ 40 from fun k hk' => lg_len f a k 40 fun j hj => num_le f (a + j) hk (by omega) (by omega))
  have HC := Lib.hid (show ∀ k (w' : World), a + k ≤ m → LaidW w' → Calls Tryd.prog g #[.int .i64 ((a : Int) + (k : Int))] w' (StrB (num f (a + k)) w') from fun k w' hk' h => by
    have := hg (a + k) w' (by omega) (by omega) h
    rwa [show ((a + k : Nat) : Int) = (a : Int) + (k : Int) by omega] at this)
  clear h1 h2 hk hg
  go_enter Tryd.func32, Tryd.ntmps32
  go_wp2
  go_loopw [7, 8, 9] (fun s n _ wr => ∃ k : Nat, n = .int .i64 ((a : Int) + (k : Int)) ∧ k ≤ m + 1 - a ∧ s = .string (bs (lg f a k)) ∧ Below w.heap.size w wr) (fun _ n _ _ => (m + 1 - intOf n).toNat)
  case atStart => exact ⟨0, by simp, Nat.zero_le _, rfl, Below.refl _ _⟩
  case round =>
    obtain ⟨k, rfl, hkm, rfl, hbw⟩ := hrel
    have hsz := hbw.size
    have hWr := hW.below hbw
    by_cases hlt : a + k ≤ m
    · have z1 := HB.out k hlt
      have z2 := HG.out k hkm
      have cW := HC.out k wr hlt hWr
      have hle : (a : Int) + (k : Int) ≤ (m : Int) := by omega
      unfold StrB at cW
      by_cases hl : (lg f a k).length < (num f (a + k)).length
      · have HX := Lib.hid (show lg f a (k + 1) = num f (a + k) by exact lg_yes hl)
        rw [← bs_size] at z1 z2
        rw [← bs_size, ← bs_size] at hl
        generalize num f (a + k) = T at z1 cW hl HX
        generalize lg f a k = S at z2 hl
        go_wp2_with (go_at_fn g; refine cW.mono ?_; rintro e w2 ⟨rfl, hb2⟩)
        have HBB := Lib.hid (hbw.trans (hb2.mono hsz))
        go_roundw
        case rel => exact ⟨k + 1, by go_num, by omega, by rw [HX.out], HBB.out⟩
        case measure => simp [intOf]; omega
      · have HX := Lib.hid (show lg f a (k + 1) = lg f a k by exact lg_no hl)
        rw [← bs_size] at z1 z2
        rw [← bs_size, ← bs_size] at hl
        have hl' : decide ((bs (lg f a k)).size < (bs (num f (a + k))).size) = false := decide_eq_false hl
        generalize num f (a + k) = T at z1 cW hl hl'
        generalize lg f a k = S at z2 hl hl' HX
        go_wp2_with (go_at_fn g; refine cW.mono ?_; rintro e w2 ⟨rfl, hb2⟩)
        have HBB := Lib.hid (hbw.trans (hb2.mono hsz))
        go_roundw
        case rel => exact ⟨k + 1, by go_num, by omega, by rw [HX.out], HBB.out⟩
        case measure => simp [intOf]; omega
    · obtain rfl : k = m + 1 - a := by omega
      have hle : (m : Int) < (a : Int) + ((m + 1 - a : Nat) : Int) := by omega
      go_wp2
      go_ret
      exact ⟨rfl, hbw⟩
end Go.Proofs.YteahingapnijcaaDoor
