import Derived.Test.YtblabbeaaajlkaaA5
namespace Go.Proofs.Ytblabbeaaajlkaa
open Go.RowKit
open U

def foldN (c : Nat) : Nat := if 65 ≤ c ∧ c ≤ 90 then c + 32 else c
theorem foldN_lt {c : Nat} (h : c < 256) : foldN c < 256 := by unfold foldN; split <;> omega
def foldL (l : List UInt8) : List UInt8 := l.map fun c => Nat.toUInt8 (foldN c.toNat)
def mix (k j c : Nat) : Nat := if j < k then foldN c else c
structure Row (s : ByteArray) (B k : Nat) (w : World) : Prop where
  cell : ∀ j (h : j < s.size), w.cell? ⟨B, j, none⟩ = some (.int .u8 ((mix k j s[j].toNat : Nat) : Int))
  froz : ∀ j, j < s.size → w.frozen? ⟨B, j, none⟩ = false
theorem Row.at {s B k w} (h : Row s B k w) (hk : k < s.size) : w.cell? ⟨B, k, none⟩ = some (.int .u8 ((s[k].toNat : Nat) : Int)) := by
  have := h.cell k hk
  unfold mix at this
  rw [if_neg (by omega)] at this; exact this
theorem Row.keep {s B k w} (h : Row s B k w) (hk : k < s.size) (hf : foldN s[k].toNat = s[k].toNat) : Row s B (k + 1) w := by
  refine ⟨fun j hj => ?_, h.froz⟩
  rw [h.cell j hj]
  unfold mix
  by_cases h1 : j < k
  · rw [if_pos h1, if_pos (by omega)]
  · by_cases h2 : j = k
    · subst h2; rw [if_neg (by omega), if_pos (by omega), hf]
    · rw [if_neg h1, if_neg (by omega)]
theorem Row.put {s B k w} (h : Row s B k w) (hk : k < s.size) (v : Int) (hv : v = (foldN s[k].toNat : Nat)) : Row s B (k + 1) (w.setCell ⟨B, k, none⟩ (.int .u8 v)) := by
  refine ⟨fun j hj => ?_, fun j hj => by rw [World.frozen?_setCell]; exact h.froz j hj⟩
  by_cases h2 : j = k
  · subst h2
    rw [World.cell?_setCell_same' _ _ _ (by rw [h.at hk]; rfl)]
    unfold mix
    rw [if_pos (by omega), hv]
  · rw [World.cell?_setCell_other _ _ _ _ (by intro e; injection e with _ e; omega), h.cell j hj]
    unfold mix
    by_cases h1 : j < k
    · rw [if_pos h1, if_pos (by omega)]
    · rw [if_neg h1, if_neg (by omega)]
theorem Row.back {s B k w} (h : Row s B k w) (hk : s.size ≤ k) (cap : Nat) :
    (convert 55 9 (.slice (some ⟨B, 0, none⟩) s.size cap)).run Try.prog w = .ok (.string ⟨(foldL s.data.toList).toArray⟩) w := by
  refine conv_back w _ _ _ _ (by unfold foldL; simp) ?_
  intro j hj
  have hjs : j < s.size := by unfold foldL at hj; simpa using hj
  have := h.cell j hjs
  unfold mix at this
  rw [if_pos (by omega)] at this
  have e : ((⟨B, 0, none⟩ : Addr).add j) = ⟨B, j, none⟩ := by unfold Addr.add; simp only []; split <;> simp_all
  rw [e, this]
  have e2 : (foldL s.data.toList)[j].toNat = foldN s[j].toNat := by
    simp only [foldL, List.getElem_map, u8_toNat _ (foldN_lt (UInt8.toNat_lt _))]; rfl
  rw [e2]
theorem Row.start (s : ByteArray) (w : World) : ∃ cap C, (convert 9 55 (.string s)).run Try.prog w = .ok (.slice (some ⟨w.heap.size, 0, none⟩) s.size cap) (w.drew.alloc (.cells C 5 (C.size, C.size + 1))) ∧ Row s w.heap.size 0 (w.drew.alloc (.cells C 5 (C.size, C.size + 1))) := by
  refine ⟨_, _, run_bytes_of_string w 9 55 5 s Try.underlying9 Try.underlying55 Try.underlying5, ⟨fun j hj => ?_, fun j hj => ?_⟩⟩
  · have h1 := World.cell?_alloc_mark w.drew (bytesRow s (grownCap w s.size 0 5)) 5 ((bytesRow s (grownCap w s.size 0 5)).size, (bytesRow s (grownCap w s.size 0 5)).size + 1) j
    refine h1.trans ?_
    rw [bytesRow_at s _ j hj]; rfl
  · have h1 := World.frozen?_alloc_mark w.drew (bytesRow s (grownCap w s.size 0 5)) 5 (bytesRow s (grownCap w s.size 0 5)).size ((bytesRow s (grownCap w s.size 0 5)).size + 1) j
    refine h1.trans ?_
    have : s.size ≤ (bytesRow s (grownCap w s.size 0 5)).size := by unfold bytesRow; simp
    rw [decide_eq_false (by omega)]; rfl

set_option maxRecDepth 100000 in
set_option maxHeartbeats 2000000 in
theorem fold_any (s : ByteArray) (hs : s.size ≤ 1000000) (w : World) :
    Calls Try.prog 33 #[.string s] w (StrRet (foldL s.data.toList) w) := by
  obtain ⟨cap, C, hconv, hrow⟩ := Row.start s w
  have HR := Lib.hid hrow
  clear hrow
  go_enter Try.func33, Try.ntmps33
  go_wp2
  go_loopw [10] (fun i wr => ∃ k : Nat, k ≤ s.size ∧ i = .int .i64 (k : Nat) ∧ Below w.heap.size w wr ∧ Row s w.heap.size k wr) (fun i _ => s.size - (intOf i).toNat)
  case atStart => exact ⟨0, Nat.zero_le _, rfl, (Below.refl _ w).drew.alloc (Nat.le_refl _) _, HR.out⟩
  case round =>
    obtain ⟨k, hk, rfl, hbw, hrow⟩ := hrel
    have hsz := hbw.size
    by_cases hlt : k < s.size
    · have hc8 := s[k].toNat_lt
      have hcell := hrow.at hlt
      have hfz := hrow.froz k hlt
      by_cases h1 : 65 ≤ s[k].toNat ∧ s[k].toNat ≤ 90
      · obtain ⟨h1, h2⟩ := h1
        have hput := Lib.hid (hrow.put hlt ((s[k].toNat : Int) + 32) (by unfold foldN; rw [if_pos ⟨h1, h2⟩]; omega))
        clear hrow
        go_wp2
        go_roundw
        case rel => exact ⟨k + 1, by omega, by go_num, hbw.setCell (p := ⟨w.heap.size, k, none⟩) (Nat.le_refl _) _, hput.out⟩
        case measure => simp [intOf]; omega
      · have hkeep := Lib.hid (hrow.keep hlt (by unfold foldN; rw [if_neg h1]))
        clear hrow
        by_cases h2 : s[k].toNat < 65
        · go_wp2
          go_roundw
          case rel => exact ⟨k + 1, by omega, by go_num, hbw, hkeep.out⟩
          case measure => simp [intOf]; omega
        · have h3 : 90 < s[k].toNat := by omega
          clear h1
          go_wp2
          go_roundw
          case rel => exact ⟨k + 1, by omega, by go_num, hbw, hkeep.out⟩
          case measure => simp [intOf]; omega
    · have hback := hrow.back (by omega) cap
      clear hrow
      go_wp2
      go_ret
      exact ⟨rfl, hbw⟩

set_option maxRecDepth 100000 in
set_option maxHeartbeats 2000000 in
theorem refFold_any (s : ByteArray) (hs : s.size ≤ 1000000) (w : World) :
    Calls Try.prog 34 #[.string s] w (StrRet (foldL s.data.toList) w) := by
  obtain ⟨cap, C, hconv, hrow⟩ := Row.start s w
  have HR := Lib.hid hrow
  clear hrow
  go_enter Try.func34, Try.ntmps34
  go_wp2
  go_loopw [4] (fun i wr => ∃ k : Nat, k ≤ s.size ∧ i = .int .i64 (k : Nat) ∧ Below w.heap.size w wr ∧ Row s w.heap.size k wr) (fun i _ => s.size - (intOf i).toNat)
  case atStart => exact ⟨0, Nat.zero_le _, rfl, (Below.refl _ w).drew.alloc (Nat.le_refl _) _, HR.out⟩
  case round =>
    obtain ⟨k, hk, rfl, hbw, hrow⟩ := hrel
    have hsz := hbw.size
    by_cases hlt : k < s.size
    · have hc8 := s[k].toNat_lt
      have hcell := hrow.at hlt
      have hfz := hrow.froz k hlt
      by_cases h1 : 65 ≤ s[k].toNat ∧ s[k].toNat ≤ 90
      · obtain ⟨h1, h2⟩ := h1
        have hput := Lib.hid (hrow.put hlt ((s[k].toNat : Int) + 32) (by unfold foldN; rw [if_pos ⟨h1, h2⟩]; omega))
        clear hrow
        go_wp2
        go_roundw
        case rel => exact ⟨k + 1, by omega, by go_num, hbw.setCell (p := ⟨w.heap.size, k, none⟩) (Nat.le_refl _) _, hput.out⟩
        case measure => simp [intOf]; omega
      · have hkeep := Lib.hid (hrow.keep hlt (by unfold foldN; rw [if_neg h1]))
        clear hrow
        by_cases h2 : s[k].toNat < 65
        · go_wp2
          go_roundw
          case rel => exact ⟨k + 1, by omega, by go_num, hbw, hkeep.out⟩
          case measure => simp [intOf]; omega
        · have h3 : 90 < s[k].toNat := by omega
          clear h1
          go_wp2
          go_roundw
          case rel => exact ⟨k + 1, by omega, by go_num, hbw, hkeep.out⟩
          case measure => simp [intOf]; omega
    · have hback := hrow.back (by omega) cap
      clear hrow
      go_wp2
      go_ret
      exact ⟨rfl, hbw⟩
end Go.Proofs.Ytblabbeaaajlkaa
