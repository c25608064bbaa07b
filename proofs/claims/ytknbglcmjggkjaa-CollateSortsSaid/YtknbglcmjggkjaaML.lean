import Derived.Test.YtknbglcmjggkjaaKA6
import Derived.Laws.OwnMore
import Derived.OwnWalk
import Derived.Maps.AppendAt
import Derived.Deep.QuietTactic
import Derived.BigQuiet

namespace Go.Proofs.Ytknbglcmjggkjaa.Cp
open Go.RowKit
open U

end Go.Proofs.Ytknbglcmjggkjaa.Cp

namespace Go.Proofs.Ytknbglcmjggkjaa.Cp
open Go.RowKit
open U

/-- At most 300 bytes of a string. -/
def cutS (s : ByteArray) : ByteArray := s.extract 0 (min s.size 300)
theorem cutS_size (s : ByteArray) : (cutS s).size ≤ 300 := by unfold cutS; rw [ByteArray.size_extract]; omega
theorem cutS_small (s : ByteArray) : (cutS s).size ≤ 1000000 := by have := cutS_size s; omega
theorem chain {w a b : World} (h1 : Below w.heap.size w a) (h2 : Below a.heap.size a b) : Below w.heap.size w b := h1.trans (h2.mono h1.size)
theorem vld_eq (P : List Nat) (bad : List UInt8) : decide (fstI P bad < 0) = vldB bad := by
  unfold fstI vldB
  by_cases hb : bad = []
  · rw [if_pos hb, decide_eq_true hb]; rfl
  · rw [if_neg hb, decide_eq_false hb]; exact decide_eq_false (by omega)

def TrueRet (w : World) (e : Ending) (w' : World) : Prop := e = .returned (.bool true) ∧ Below w.heap.size w w'
end Go.Proofs.Ytknbglcmjggkjaa.Cp

namespace Go.Proofs.Ytknbglcmjggkjaa.Cp
open Go.RowKit
open U

def ints (P : List Nat) : List Value := P.map fun (p : Nat) => Value.int .i64 ((p : Nat) : Int)
theorem ints_snoc (P : List Nat) (p : Nat) : ints (P ++ [p]) = ints P ++ [Value.int .i64 ((p : Nat) : Int)] := by simp [ints]
theorem intInfo : (Try.prog.info? 3).map (fun i => (i.zero, i.size, i.bytes)) = some (some (.int .i64 0), 1, 8) := by kernel_rfl

/-- A slice of numbers in memory. -/
def IntsAt (w : World) (v : Value) (P : List Nat) : Prop :=
  (P = [] ∧ v = .slice none 0 0) ∨ ∃ g cap, v = .slice (some ⟨g, 0, none⟩) P.length cap ∧ g < w.heap.size ∧ (P.length ≤ cap ∧ cap ≤ maxLen) ∧ ∀ j (h : j < P.length), w.cell? ⟨g, j, none⟩ = some (.int .i64 ((P[j] : Nat) : Int))
theorem IntsAt.of {w : World} {base : Nat} {v : Value} {P : List Nat} (h : w.ownsRow base 3 1 v P.length (ints P)) : IntsAt w v P := by
  have h2 := h
  rcases h.2 with ⟨hv, h0⟩ | ⟨g, cap, cur, hv, _, _, hca, hcb, _⟩
  · exact .inl ⟨List.eq_nil_of_length_eq_zero h0, hv⟩
  · refine .inr ⟨g, cap, hv, ?_, ⟨hca, hcb⟩, fun j hj => ?_⟩
    · subst hv; exact (h.lt g rfl).2
    · subst hv
      rw [h2.cellAt j (by omega)]
      simp [ints, hj]
theorem IntsAt.below {w w' : World} {v : Value} {P : List Nat} (h : IntsAt w v P) (hb : Below w.heap.size w w') : IntsAt w' v P := by
  rcases h with h | ⟨g, cap, hv, hg, hcc, hc⟩
  · exact .inl h
  · exact .inr ⟨g, cap, hv, Nat.lt_of_lt_of_le hg hb.size, hcc, fun j hj => (hb.cell (p := ⟨g, j, none⟩) hg).trans (hc j hj)⟩

theorem ownsRow_below {w w' : World} {base n size : Nat} {e : TypeId} {v : Value} {xs : List Value} (h : w.ownsRow base e size v n xs) (hb : Below w.heap.size w w') : w'.ownsRow base e size v n xs := by
  obtain ⟨h1, h2⟩ := h
  refine ⟨h1, ?_⟩
  rcases h2 with h2 | ⟨g, cap, cur, a1, a2, a3, a4⟩
  · exact .inl h2
  · exact .inr ⟨g, cap, cur, a1, a2, (hb.block g (Array.getElem?_eq_some_iff.1 a3).1).trans a3, a4⟩
/-- What Points hands back. -/
def PtsRet (P : List Nat) (w : World) (e : Ending) (w' : World) : Prop := ∃ v, e = .returned (.tuple #[v, .int .i64 0]) ∧ IntsAt w' v P ∧ Below w.heap.size w w'
set_option maxRecDepth 100000 in
set_option maxHeartbeats 4000000 in
theorem points_no {s P bad} (h : Str s P bad) (hb : bad ≠ []) (w : World) :
    Calls Try.prog 49 #[.string s] w fun e w' => e = .returned (.tuple #[.slice none 0 0, .int .i64 12]) ∧ w = w' := by
  go_enter Try.func49, Try.ntmps49
  go_wp2_with (go_at_call 71; refine (count_no h hb _).mono ?_; rintro e w' ⟨rfl, rfl⟩)
  go_ret2
  exact ⟨rfl, rfl⟩
set_option maxRecDepth 100000 in
set_option maxHeartbeats 4000000 in
theorem points_ok {s P} (h : Str s P []) (w : World) :
    Calls Try.prog 49 #[.string s] w (PtsRet P w) := by
  obtain ⟨i0, hi, hz0, hz1, hz2⟩ := info_parts intInfo
  have hsz := h.small
  have hsize := h.size
  have hend := off_end P
  have hll := (bytes_len P).1
  rw [List.length_nil] at hsize
  rw [← hend] at hsize hll
  have hP : P.length ≤ 1000000 := by omega
  clear hend hll
  have HZ := Lib.hid hsize
  clear hsize
  go_enter Try.func49, Try.ntmps49
  go_wp2_with (first | (go_at_call 71; refine (count_ok h _).mono ?_; rintro e w' ⟨rfl, rfl⟩) | (at_make; refine wpList_make_own _ rfl _ _ 51 rfl w.heap.size 3 i0 (.int .i64 0) 1 Try.underlying51 hi hz0 hz1 _ _ _ P.length rfl rfl rfl ?b2 ?b3 (Nat.le_refl _) ?_))
  case b2 => rw [hz2]; omega
  case b3 => unfold maxLen; omega
  intro w0 hown0 hgrow0
  go_wp2
  go_loopw [6, 7] (fun v i wr => ∃ k : Nat, k ≤ P.length ∧ i = .int .i64 (off P k : Nat) ∧ wr.ownsRow w.heap.size 3 1 v k (ints (P.take k)) ∧ Below w.heap.size w wr) (fun _ i _ => s.size - (intOf i).toNat)
  case atStart => exact ⟨0, Nat.zero_le _, rfl, hown0, (Below.refl _ _).grown hgrow0 (Nat.le_refl _) (fun k h => by cases h)⟩
  case round =>
    obtain ⟨k, hk, rfl, hown, hbw⟩ := hrel
    have hw0 := hbw.size
    by_cases hlt : k < P.length
    · have h1 := h.lt k hlt
      have h2 := enc_pos P[k]
      have HS := Lib.hid (off_succ P k hlt)
      have HT := Lib.hid (show P.take (k + 1) = P.take k ++ [P[k]] from List.take_succ_eq_append_getElem hlt)
      go_wp2_with (first | (go_at_call 72; refine (scan_ok h k hlt _).mono ?_; rintro e w' ⟨rfl, rfl⟩) | (at_builtin; refine wpList_append_own _ rfl _ _ 51 rfl w.heap.size 3 i0 (.int .i64 0) 1 8 Try.underlying51 hi hz0 hz1 hz2 rfl (by decide) _ _ _ rfl (hown.alloc _) ⟨wr.heap.size, 0, none⟩ 1 1 [.int .i64 ((P[k] : Nat) : Int)] rfl rfl (cell_one_new _ _ _) (by intro u hu; simp at hu; subst hu; rfl) (by unfold maxLen; omega) (by omega) (by simp; omega) ?_; intro v1 w1 hown1 hgrow1 _))
      go_roundw
      case rel =>
        refine ⟨k + 1, by omega, by rw [HS.out]; go_num, ?_, (hbw.alloc hw0 _).grown hgrow1 (by simp; omega) (fun j e => (hown.lt j e).1)⟩
        rw [HT.out, ints_snoc]; exact hown1
      case measure => simp [intOf]; omega
    · obtain rfl : k = P.length := by omega
      have hz := HZ.out
      have k1 : ¬ ((off P P.length : Nat) : Int) < (s.size : Int) := by omega
      clear hz
      rw [List.take_length] at hown
      have HI := Lib.hid (IntsAt.of hown)
      clear hown
      go_wp2
      go_ret2
      exact ⟨_, rfl, HI.out, hbw⟩

/-- What the reference's Points hands back. -/
def RefPtsRet (P : List Nat) (w : World) (e : Ending) (w' : World) : Prop := ∃ v, e = .returned v ∧ IntsAt w' v P ∧ Below w.heap.size w w'
end Go.Proofs.Ytknbglcmjggkjaa.Cp

namespace Go.Proofs.Ytknbglcmjggkjaa.Cp
open Go.RowKit
open U

end Go.Proofs.Ytknbglcmjggkjaa.Cp
