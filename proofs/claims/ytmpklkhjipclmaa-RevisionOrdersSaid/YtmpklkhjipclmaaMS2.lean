/- Layer 22: rotateCmpFunc (87). -/
import Derived.Test.YtmpklkhjipclmaaMS1
namespace Go.Proofs.Ytmpklkhjipclmaa
open Go.RowKit Go.Shelf Go.Lib Go.Sort Sm
variable {α : Type} [Inhabited α] {enc : α → List Value} {k : Nat} {blk off : Nat} {d0 : Array α} {w0 : World}
set_option maxRecDepth 1000000 in
set_option maxHeartbeats 4000000 in
theorem rotate_any (zE : ∀ w, (Go.sizeOf 23).run Try.prog w = .ok k w) (g : Nat) (cb : Array Value) (cap a m b : Nat) (d : Array α) (w : World) (R : RowK enc k w0 blk off d0) (hs : d0.size = d.size) (S : SWK enc k w0 blk off d w) (ha : a < m) (hm : m < b) (hb : b ≤ d.size) (hsz : d.size < 4611686018427387904) :
    Calls Try.prog 105 #[.slice (some ⟨blk, off, none⟩) d.size cap, .int .i64 a, .int .i64 m, .int .i64 b, .func (.func g) #[] cb] w fun e w' => e = .returned (.tuple #[]) ∧ ∃ d', d'.size = d.size ∧ Ix d' = rot (Ix d) a m b ∧ SWK enc k w0 blk off d' w' := by
  have S0 : Aside (SWK enc k w0 blk off d w) := S
  clear S
  have C : Aside (∀ (a b n : Nat) (dk : Array α) (wr : World), dk.size = d.size → SWK enc k w0 blk off dk wr → a + n ≤ b → b + n ≤ d.size →
      Calls Try.prog 120 #[.slice (some ⟨blk, off, none⟩) d.size cap, .int .i64 a, .int .i64 b, .int .i64 n, .func (.func g) #[] cb] wr fun e w' => e = .returned (.tuple #[]) ∧ SWK enc k w0 blk off (swapTo dk a b n) w') :=
    fun a b n dk wr h1 h2 h3 h4 => by
      have := swapRange_any zE g cb cap a b n dk wr R (by omega) h2 h3 (by omega) (by omega)
      rw [h1] at this
      exact this
  clear zE R hs
  go_enter Try.func105, Try.ntmps105
  go_wp2
  go_loopg [10, 11] (b - a) (fun kx s10 s11 wr => ∃ (i j : Nat) (dk : Array α), s10 = .int .i64 i ∧ s11 = .int .i64 j ∧ 0 < i ∧ 0 < j ∧ i ≤ m ∧ m + j ≤ b ∧ i + j ≤ kx ∧ dk.size = d.size ∧ Aside (rot (Ix dk) (m - i) m (m + j) = rot (Ix d) a m b) ∧ Aside (SWK enc k w0 blk off dk wr))
  case atStart => exact ⟨m - a, b - m, d, by rw [show ((m - a : Nat) : Int) = (m : Int) - (a : Int) by omega], by rw [show ((b - m : Nat) : Int) = (b : Int) - (m : Int) by omega], by omega, by omega, by omega, by omega, by omega, rfl, by rw [show m - (m - a) = a by omega, show m + (b - m) = b by omega]; exact rfl, S0⟩
  case round =>
    clear S0
    obtain ⟨i, j, dk, rfl, rfl, hi, hj, him, hjb, hkx, hds, HT, S1⟩ := hrel
    by_cases hij : i = j
    · subst hij
      have c := C.out (m - i) m i dk wr hds S1.out (by omega) (by omega)
      rw [show ((m - i : Nat) : Int) = (m : Int) - (i : Int) by omega] at c
      go_wp2_with (go_at_call 120; refine c.mono ?_; rintro e w1 ⟨rfl, hw1⟩)
      go_end0
      exact ⟨rfl, swapTo dk (m - i) m i, by rw [swapTo_size, hds], by rw [swapTo_rot dk him (by omega)]; exact HT.out, hw1⟩
    · have hijz : ¬ ((i : Int) = (j : Int)) := by omega
      by_cases hlt : j < i
      · have hltz : (j : Int) < (i : Int) := by omega
        have c := C.out (m - i) m j dk wr hds S1.out (by omega) (by omega)
        rw [show ((m - i : Nat) : Int) = (m : Int) - (i : Int) by omega] at c
        go_wp2_with (go_at_call 120; refine c.mono ?_; rintro e w1 ⟨rfl, hw1⟩)
        go_roundg (i - j + j)
        case measure => omega
        case rel => exact ⟨i - j, j, swapTo dk (m - i) m j, by rw [show ((i - j : Nat) : Int) = (i : Int) - (j : Int) by omega], rfl, by omega, hj, by omega, hjb, by omega, by rw [swapTo_size, hds], by rw [swapTo_left dk him hlt (by omega)]; exact HT, hw1⟩
      · have hltz : ¬ ((j : Int) < (i : Int)) := by omega
        have c := C.out (m - i) (m + j - i) i dk wr hds S1.out (by omega) (by omega)
        rw [show ((m - i : Nat) : Int) = (m : Int) - (i : Int) by omega, show ((m + j - i : Nat) : Int) = (m : Int) + (j : Int) - (i : Int) by omega] at c
        go_wp2_with (go_at_call 120; refine c.mono ?_; rintro e w1 ⟨rfl, hw1⟩)
        go_roundg (i + (j - i))
        case measure => omega
        case rel => exact ⟨i, j - i, swapTo dk (m - i) (m + j - i) i, rfl, by rw [show ((j - i : Nat) : Int) = (j : Int) - (i : Int) by omega], hi, by omega, him, by omega, by omega, by rw [swapTo_size, hds], by rw [swapTo_right dk him (by omega) (by omega)]; exact HT, hw1⟩
end Go.Proofs.Ytmpklkhjipclmaa
