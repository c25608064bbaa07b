/- Layer 6: appendWeight (78). -/
import Derived.Test.YtknbglcmjggkjaaT9
import Derived.Maps.AppendAt
namespace Go.Proofs.Ytknbglcmjggkjaa
open Go.RowKit Go.Lib Co

def bv (l : List UInt8) : List Value := l.map fun u => .int .u8 (u.toNat : Nat)
set_option maxRecDepth 1000000 in
theorem byInfo : (Try.prog.info? 5).map (fun i => (i.zero, i.size, i.bytes)) = some (some (.int .u8 0), 1, 1) := by kernel_rfl
/-- Bytes that a call builds up. -/
def Byt (B : Nat) (w : World) (v : Value) (l : List UInt8) : Prop := w.ownsRow B 5 1 v l.length (bv l)
theorem Byt.below {B : Nat} {w w' : World} {v : Value} {l : List UInt8} (h : Byt B w v l) (hb : Below w.heap.size w w') : Byt B w' v l := Cp.ownsRow_below h hb
theorem Byt.mono {B B' : Nat} {w : World} {v : Value} {l : List UInt8} (h : Byt B w v l) (hb : B' ≤ B) : Byt B' w v l := own_mono h hb
theorem Byt.snoc {B : Nat} {w : World} {v : Value} {l : List UInt8} {x : Int} {u : UInt8} (h : w.ownsRow B 5 1 v (l.length + 1) (bv l ++ [.int .u8 x])) (hx : x = (u.toNat : Nat)) : Byt B w v (l ++ [u]) := by
  subst hx
  unfold Byt bv
  rw [List.length_append, List.map_append]
  exact h
/-- All but one row, and what is new, is as it was. -/
def GrowR (w w' : World) (R : Option Nat) : Prop := w.grownBy w' R
/-- Where the row of a value lies: where it lay, or in a new block. -/
def OldNew (w : World) (R : Option Nat) (v : Value) : Prop := v.ownBlock = R ∨ ∃ g, v.ownBlock = some g ∧ w.heap.size ≤ g
theorem GrowR.refl (w : World) (R : Option Nat) : GrowR w w R := ⟨rfl, rfl, rfl, Nat.le_refl _, fun _ _ _ => rfl⟩
theorem GrowR.step {w a b : World} {o : Obj} {R : Option Nat} {v : Value} (h : GrowR w a R) (hv : OldNew w R v) (hg : (a.alloc o).grownBy b v.ownBlock) : GrowR w b R := by
  have hs : (a.alloc o).heap.size = a.heap.size + 1 := World.size_alloc _ _
  refine ⟨hg.os.trans h.os, hg.tape.trans h.tape, hg.output.trans h.output, Nat.le_trans h.size (Nat.le_trans (by rw [hs]; exact Nat.le_succ _) hg.size), fun k hk hne => ?_⟩
  have hka : k < a.heap.size := Nat.lt_of_lt_of_le hk h.size
  rw [hg.block k (by rw [hs]; omega) ?_, Below.heap_alloc _ _ _ hka, h.block k hk hne]
  rcases hv with hv | ⟨g, hv, hgg⟩
  · rw [hv]; exact hne
  · rw [hv]; intro e; injection e with e; omega
theorem OldNew.step {w a : World} {o : Obj} {R : Option Nat} {v v' : Value} (h : OldNew w R v) (hs : w.heap.size ≤ a.heap.size) (hv : v'.ownBlock = v.ownBlock ∨ v'.ownBlock = some (a.alloc o).heap.size) : OldNew w R v' := by
  rcases hv with hv | hv
  · rcases h with h | ⟨g, h, hg⟩
    · exact .inl (hv.trans h)
    · exact .inr ⟨g, hv.trans h, hg⟩
  · exact .inr ⟨_, hv, by rw [World.size_alloc]; omega⟩
/-- What appending bytes hands back. -/
def BytRet (B : Nat) (R : Option Nat) (l : List UInt8) (w : World) (e : Ending) (w' : World) : Prop := ∃ v', e = .returned v' ∧ Byt B w' v' l ∧ GrowR w w' R ∧ OldNew w R v'
set_option maxRecDepth 100000 in
set_option maxHeartbeats 4000000 in
theorem weight_any {n x B : Nat} {v : Value} {l : List UInt8} (w : World) (hB : B ≤ w.heap.size) (hv : Byt B w v l) (hl : l.length ≤ 100000) (hn : n ≤ 3) (hx : x < 256 ^ n) :
    Calls Try.prog 78 #[v, .int .i64 (x : Nat), .int .i64 (n : Nat)] w (BytRet B v.ownBlock (l ++ encW n x) w) := by
  obtain ⟨i0, hi, hz0, hz1, hz2⟩ := info_parts byInfo
  have hx3 : x < 16777216 := Nat.lt_of_lt_of_le hx (Nat.pow_le_pow_right (by decide : 0 < 256) hn)
  go_enter Try.func78, Try.ntmps78
  go_wp2_with fail
  go_loopw [0, 2] (fun kv sv wr => ∃ (m : Nat) (K : List UInt8), m ≤ n ∧ sv = .int .i64 (m : Nat) ∧ Byt B wr kv K ∧ K.length + m = l.length + n ∧ Hid (K ++ encW m x = l ++ encW n x) ∧ GrowR w wr v.ownBlock ∧ OldNew w v.ownBlock kv) (fun _ sv _ => (RowKit.intOf sv).toNat)
  case atStart => exact ⟨n, l, Nat.le_refl _, rfl, hv, rfl, Go.Lib.hid rfl, GrowR.refl _ _, .inl rfl⟩
  case round =>
    clear hv
    obtain ⟨m, K, hm, rfl, hvK, hKl, HK, hbk, hok⟩ := hrel
    have hsk := hbk.size
    cases m with
    | zero =>
      have HE := Go.Lib.hid (show K = l ++ encW n x by have := HK.out; simpa [encW] using this)
      go_wp2
      go_ret
      exact ⟨_, rfl, by rw [← HE.out]; exact hvK, hbk, hok⟩
    | succ m =>
      have hm3 : m = 0 ∨ m = 1 ∨ m = 2 := by omega
      rcases hm3 with rfl | rfl | rfl
      · have HK2 := Go.Lib.hid (show (K ++ [UInt8.ofNat (x / 256 ^ 0)]) ++ encW 0 x = l ++ encW n x by rw [← HK.out, List.append_assoc]; rfl)
        go_wp2_with (at_builtin; go_loud (refine wpList_append_own_at _ rfl _ _ 65 rfl B 5 i0 _ 1 1 Try.underlying65 hi hz0 hz1 hz2 rfl (by decide) _ _ _ rfl (World.ownsRow.alloc hvK _) ⟨wr.heap.size, 0, none⟩ 1 1 [.int .u8 _] rfl rfl (cell_one_new _ _ _) (by intro u hu; simp at hu; subst hu; rfl) (by unfold maxLen; omega) (by omega) (by simp; omega) ?_; intro v1 w1 hown1 hgrow1 _ hat1))
        have HV := Go.Lib.hid (Byt.snoc (u := UInt8.ofNat (x / 256 ^ 0)) hown1 (by rw [UInt8.toNat_ofNat']; omega))
        have HB := Go.Lib.hid (And.intro (hbk.step hok hgrow1) (hok.step hsk hat1))
        clear hown1 hgrow1 hat1
        go_wp2
        go_roundw
        case rel => exact ⟨0, _, by omega, rfl, HV.out, by rw [List.length_append, List.length_singleton]; omega, HK2, HB.out.1, HB.out.2⟩
        case measure => simp [RowKit.intOf]
      · have HK2 := Go.Lib.hid (show (K ++ [UInt8.ofNat (x / 256 ^ 1)]) ++ encW 1 x = l ++ encW n x by rw [← HK.out, List.append_assoc]; rfl)
        go_wp2_with (at_builtin; go_loud (refine wpList_append_own_at _ rfl _ _ 65 rfl B 5 i0 _ 1 1 Try.underlying65 hi hz0 hz1 hz2 rfl (by decide) _ _ _ rfl (World.ownsRow.alloc hvK _) ⟨wr.heap.size, 0, none⟩ 1 1 [.int .u8 _] rfl rfl (cell_one_new _ _ _) (by intro u hu; simp at hu; subst hu; rfl) (by unfold maxLen; omega) (by omega) (by simp; omega) ?_; intro v1 w1 hown1 hgrow1 _ hat1))
        have HV := Go.Lib.hid (Byt.snoc (u := UInt8.ofNat (x / 256 ^ 1)) hown1 (by rw [UInt8.toNat_ofNat']; omega))
        have HB := Go.Lib.hid (And.intro (hbk.step hok hgrow1) (hok.step hsk hat1))
        clear hown1 hgrow1 hat1
        go_wp2
        go_roundw
        case rel => exact ⟨1, _, by omega, rfl, HV.out, by rw [List.length_append, List.length_singleton]; omega, HK2, HB.out.1, HB.out.2⟩
        case measure => simp [RowKit.intOf]
      · have HK2 := Go.Lib.hid (show (K ++ [UInt8.ofNat (x / 256 ^ 2)]) ++ encW 2 x = l ++ encW n x by rw [← HK.out, List.append_assoc]; rfl)
        go_wp2_with (at_builtin; go_loud (refine wpList_append_own_at _ rfl _ _ 65 rfl B 5 i0 _ 1 1 Try.underlying65 hi hz0 hz1 hz2 rfl (by decide) _ _ _ rfl (World.ownsRow.alloc hvK _) ⟨wr.heap.size, 0, none⟩ 1 1 [.int .u8 _] rfl rfl (cell_one_new _ _ _) (by intro u hu; simp at hu; subst hu; rfl) (by unfold maxLen; omega) (by omega) (by simp; omega) ?_; intro v1 w1 hown1 hgrow1 _ hat1))
        have HV := Go.Lib.hid (Byt.snoc (u := UInt8.ofNat (x / 256 ^ 2)) hown1 (by rw [UInt8.toNat_ofNat']; omega))
        have HB := Go.Lib.hid (And.intro (hbk.step hok hgrow1) (hok.step hsk hat1))
        clear hown1 hgrow1 hat1
        go_wp2
        go_roundw
        case rel => exact ⟨2, _, by omega, rfl, HV.out, by rw [List.length_append, List.length_singleton]; omega, HK2, HB.out.1, HB.out.2⟩
        case measure => simp [RowKit.intOf]
end Go.Proofs.Ytknbglcmjggkjaa
