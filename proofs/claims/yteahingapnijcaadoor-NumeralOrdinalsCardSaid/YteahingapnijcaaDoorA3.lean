/- Layer 9: upper; the reference's Roman numerals. -/
import Derived.Test.YteahingapnijcaaDoorA2
import Derived.Deep.QuietTactic
import Derived.BigQuiet
namespace Go.Proofs.YteahingapnijcaaDoor
open Go.RowKit Go.Lib Go.Shelf Nu9

/-- A row of bytes of a string in memory, of which the first k have been made capitals. -/
def upAt (l : List UInt8) (k j : Nat) : UInt8 := if j < k then up (l.getD j 0) else l.getD j 0
structure URow (l : List UInt8) (B k : Nat) (w : World) : Prop where
  cell : ∀ j, j < l.length → w.cell? ⟨B, j, none⟩ = some (.int .u8 ((upAt l k j).toNat : Int))
  froz : ∀ j, j < l.length → w.frozen? ⟨B, j, none⟩ = false
theorem URow.at {l B k w} (h : URow l B k w) (hk : k < l.length) : w.cell? ⟨B, k, none⟩ = some (.int .u8 ((l[k]).toNat : Int)) := by
  have := h.cell k hk
  unfold upAt at this
  rw [if_neg (by omega)] at this
  rw [this]; simp [hk]
theorem URow.keep {l B k w} (h : URow l B k w) (hk : k < l.length) (hf : up l[k] = l[k]) : URow l B (k + 1) w := by
  refine ⟨fun j hj => ?_, h.froz⟩
  rw [h.cell j hj]
  unfold upAt
  by_cases h1 : j < k
  · rw [if_pos h1, if_pos (by omega)]
  · by_cases h2 : j = k
    · subst h2
      rw [if_neg (by omega), if_pos (by omega)]
      simp [hj, hf]
    · rw [if_neg h1, if_neg (by omega)]
theorem URow.put {l B k w} (h : URow l B k w) (hk : k < l.length) (v : Int) (hv : v = (up l[k]).toNat) : URow l B (k + 1) (w.setCell ⟨B, k, none⟩ (.int .u8 v)) := by
  refine ⟨fun j hj => ?_, fun j hj => by rw [World.frozen?_setCell]; exact h.froz j hj⟩
  by_cases h2 : j = k
  · subst h2
    rw [World.cell?_setCell_same' _ _ _ (by rw [h.at hk]; rfl)]
    unfold upAt
    rw [if_pos (by omega), hv]
    simp [hj]
  · rw [World.cell?_setCell_other _ _ _ _ (by intro e; injection e with _ e; omega), h.cell j hj]
    unfold upAt
    by_cases h1 : j < k
    · rw [if_pos h1, if_pos (by omega)]
    · rw [if_neg h1, if_neg (by omega)]
theorem URow.back {l B k w} (h : URow l B k w) (hk : l.length ≤ k) (cap : Nat) :
    (convert 53 9 (.slice (some ⟨B, 0, none⟩) l.length cap)).run Tryd.prog w = .ok (.string (bs (l.map up))) w := by
  refine conv_back w _ _ _ _ (by simp) ?_
  intro j hj
  have hjl : j < l.length := by simpa using hj
  have := h.cell j hjl
  unfold upAt at this
  rw [if_pos (by omega)] at this
  rw [add0, this]
  simp [hjl]
theorem URow.start (l : List UInt8) (w : World) : ∃ cap C, (convert 9 53 (.string (bs l))).run Tryd.prog w = .ok (.slice (some ⟨w.heap.size, 0, none⟩) l.length cap) (w.drew.alloc (.cells C 5 (C.size, C.size + 1))) ∧ URow l w.heap.size 0 (w.drew.alloc (.cells C 5 (C.size, C.size + 1))) := by
  have hrun := run_bytes_of_string w 9 53 5 (bs l) Tryd.underlying9 Tryd.underlying53 Tryd.underlying5
  rw [bs_size] at hrun
  refine ⟨_, _, hrun, ⟨fun j hj => ?_, fun j hj => ?_⟩⟩
  · have h1 := World.cell?_alloc_mark w.drew (bytesRow (bs l) (grownCap w l.length 0 5)) 5 ((bytesRow (bs l) (grownCap w l.length 0 5)).size, (bytesRow (bs l) (grownCap w l.length 0 5)).size + 1) j
    refine h1.trans ?_
    rw [bytesRow_at (bs l) _ j (by simpa [bs] using hj)]
    simp [upAt, hj, bs]
  · have h1 := World.frozen?_alloc_mark w.drew (bytesRow (bs l) (grownCap w l.length 0 5)) 5 (bytesRow (bs l) (grownCap w l.length 0 5)).size ((bytesRow (bs l) (grownCap w l.length 0 5)).size + 1) j
    refine h1.trans ?_
    have : l.length ≤ (bytesRow (bs l) (grownCap w l.length 0 5)).size := by unfold bytesRow; simp [bs_size]
    rw [decide_eq_false (by omega)]; rfl
theorem up_yes {c : UInt8} (h0 : 97 ≤ c.toNat) (h1 : c.toNat ≤ 122) : ((up c).toNat : Int) = (c.toNat : Int) - 32 := by
  unfold up
  rw [if_pos ⟨h0, h1⟩, UInt8.toNat_sub_of_le _ _ (by rw [UInt8.le_iff_toNat_le]; show 32 ≤ _; omega)]
  show ((c.toNat - 32 : Nat) : Int) = _
  omega
theorem up_no {c : UInt8} (h : ¬ (97 ≤ c.toNat ∧ c.toNat ≤ 122)) : up c = c := by unfold up; rw [if_neg h]
set_option maxRecDepth 100000 in
set_option maxHeartbeats 2000000 in
theorem rupper_any (l : List UInt8) (hs : l.length ≤ 1000000) (w : World) :
    Calls Tryd.prog 27 #[.string (bs l)] w (StrB (l.map up) w) := by
  obtain ⟨cap, C, hconv, hrow⟩ := URow.start l w
  have HR := Lib.hid hrow
  clear hrow
  obtain ⟨n, hn⟩ : ∃ n, l.length = n := ⟨_, rfl⟩
  have HN := Lib.hid hn
  rw [hn] at hs hconv
  clear hn
  go_enter Tryd.func27, Tryd.ntmps27
  go_wp2
  go_loopw [4] (fun i wr => ∃ k : Nat, k ≤ n ∧ i = .int .i64 (k : Nat) ∧ Below w.heap.size w wr ∧ URow l w.heap.size k wr) (fun i _ => n - (intOf i).toNat)
  case atStart => exact ⟨0, Nat.zero_le _, rfl, (Below.refl _ w).drew.alloc (Nat.le_refl _) _, HR.out⟩
  case round =>
    obtain ⟨k, hk, rfl, hbw, hrow⟩ := hrel
    have hsz := hbw.size
    by_cases hlt : k < n
    · have hkl : k < l.length := by rw [HN.out]; exact hlt
      have hc8 := l[k].toNat_lt
      have hcell := hrow.at hkl
      have hfz := hrow.froz k hkl
      obtain ⟨c, hc⟩ : ∃ c, l[k] = c := ⟨_, rfl⟩
      by_cases h1 : 97 ≤ l[k].toNat ∧ l[k].toNat ≤ 122
      · obtain ⟨h1, h2⟩ := h1
        have hput := Lib.hid (hrow.put hkl ((l[k].toNat : Int) - 32) (up_yes h1 h2).symm)
        rw [hc] at hput hcell h1 h2 hc8
        clear hrow hkl hc
        go_wp2
        go_roundw
        case rel => exact ⟨k + 1, by omega, by go_num, hbw.setCell (p := ⟨w.heap.size, k, none⟩) (Nat.le_refl _) _, hput.out⟩
        case measure => simp [intOf]; omega
      · have hkeep := Lib.hid (hrow.keep hkl (up_no h1))
        rw [hc] at hcell h1 hc8
        clear hrow hkl hc
        by_cases h2 : c.toNat < 97
        · go_wp2
          go_roundw
          case rel => exact ⟨k + 1, by omega, by go_num, hbw, hkeep.out⟩
          case measure => simp [intOf]; omega
        · have h3 : 122 < c.toNat := by omega
          clear h1
          go_wp2
          go_roundw
          case rel => exact ⟨k + 1, by omega, by go_num, hbw, hkeep.out⟩
          case measure => simp [intOf]; omega
    · have hback := hrow.back (by rw [HN.out]; omega) cap
      rw [HN.out] at hback
      clear hrow
      go_wp2
      go_ret
      exact ⟨rfl, hbw⟩
end Go.Proofs.YteahingapnijcaaDoor
