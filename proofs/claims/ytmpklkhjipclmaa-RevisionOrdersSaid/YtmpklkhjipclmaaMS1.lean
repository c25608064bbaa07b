/- Layer 22: swapRangeCmpFunc (89): two pieces change places. -/
import Derived.Shelf.SlSortCmp.KitK
import Derived.Sort.WalkB2
import Derived.Sort.WalkB12
import Derived.Deep.LoopGhost
import Derived.Test.YtmpklkhjipclmaaLM
import Derived.Test.YtmpklkhjipclmaaV1
import Derived.Lib.Hide
namespace Go.Proofs.Ytmpklkhjipclmaa
open Go.RowKit Go.Shelf Go.Lib Go.Sort Sm
variable {α : Type} [Inhabited α]

/-- The elements by their index. -/
def Ix (d : Array α) : Nat → α := fun i => d[i]!
/-- n elements from a on change places with those from b on. -/
def swapTo (d : Array α) (a b : Nat) : Nat → Array α
  | 0 => d
  | n + 1 => swp (swapTo d a b n) (a + n) (b + n)
theorem swapTo_size (d : Array α) (a b : Nat) : ∀ n, (swapTo d a b n).size = d.size
  | 0 => rfl
  | n + 1 => by rw [swapTo, size_swp, swapTo_size d a b n]
theorem swapTo_get (d : Array α) {a b : Nat} : ∀ n, a + n ≤ b → b + n ≤ d.size → ∀ x, (swapTo d a b n)[x]! = if a ≤ x ∧ x < a + n then d[x + (b - a)]! else if b ≤ x ∧ x < b + n then d[x - (b - a)]! else d[x]!
  | 0, _, _, x => by rw [swapTo, if_neg (by omega), if_neg (by omega)]
  | n + 1, h1, h2, x => by
    have ih := swapTo_get d n (a := a) (b := b) (by omega) (by omega)
    have hs := swapTo_size d a b n
    rw [swapTo]
    by_cases e1 : x = a + n
    · subst e1
      rw [swp_left _ _ _ (by omega) (by omega), ih, if_neg (by omega), if_neg (by omega), if_pos (by omega)]
      congr 1
      omega
    · by_cases e2 : x = b + n
      · subst e2
        rw [swp_right _ _ _ (by omega), ih, if_neg (by omega), if_neg (by omega), if_neg (by omega), if_pos (by omega)]
        congr 1
        omega
      · rw [swp_other _ _ _ _ e1 e2, ih]
        by_cases c1 : a ≤ x ∧ x < a + n
        · rw [if_pos c1, if_pos (show a ≤ x ∧ x < a + (n + 1) by omega)]
        · rw [if_neg c1, if_neg (show ¬ (a ≤ x ∧ x < a + (n + 1)) by omega)]
          by_cases c2 : b ≤ x ∧ x < b + n
          · rw [if_pos c2, if_pos (show b ≤ x ∧ x < b + (n + 1) by omega)]
          · rw [if_neg c2, if_neg (show ¬ (b ≤ x ∧ x < b + (n + 1)) by omega)]
/-- Pieces of the same length: this is the rotation. -/
theorem swapTo_rot (d : Array α) {m i : Nat} (h1 : i ≤ m) (h2 : m + i ≤ d.size) : Ix (swapTo d (m - i) m i) = rot (Ix d) (m - i) m (m + i) := by
  funext x
  unfold Ix
  rw [swapTo_get d i (by omega) h2]
  unfold rot
  by_cases c1 : m - i ≤ x ∧ x < m - i + i
  · rw [if_pos c1, if_pos (by omega), if_pos (by omega)]
  · rw [if_neg c1]
    by_cases c2 : m ≤ x ∧ x < m + i
    · rw [if_pos c2, if_pos (by omega), if_neg (by omega)]
      congr 1
      omega
    · rw [if_neg c2, if_neg (by omega)]
/-- The left piece is the longer one. -/
theorem swapTo_left (d : Array α) {m i j : Nat} (h1 : i ≤ m) (hj : j < i) (h2 : m + j ≤ d.size) : rot (Ix (swapTo d (m - i) m j)) (m - (i - j)) m (m + j) = rot (Ix d) (m - i) m (m + j) := by
  funext x
  unfold rot Ix
  by_cases c0 : m - i ≤ x ∧ x < m + j
  · rw [if_pos c0]
    by_cases c1 : x < m - i + (m + j - m)
    · rw [if_pos c1, if_neg (by omega), swapTo_get d j (by omega) h2, if_pos (by omega)]
    · rw [if_neg c1, if_pos (by omega)]
      by_cases c2 : x < m - (i - j) + (m + j - m)
      · rw [if_pos c2, swapTo_get d j (by omega) h2, if_neg (by omega), if_pos (by omega)]
        congr 1
        omega
      · rw [if_neg c2, swapTo_get d j (by omega) h2, if_neg (by omega), if_neg (by omega)]
  · rw [if_neg c0, if_neg (by omega), swapTo_get d j (by omega) h2, if_neg (by omega), if_neg (by omega)]
/-- The right piece is the longer one. -/
theorem swapTo_right (d : Array α) {m i j : Nat} (h1 : i ≤ m) (hj : i < j) (h2 : m + j ≤ d.size) : rot (Ix (swapTo d (m - i) (m + j - i) i)) (m - i) m (m + (j - i)) = rot (Ix d) (m - i) m (m + j) := by
  funext x
  unfold rot Ix
  by_cases c0 : m - i ≤ x ∧ x < m + j
  · rw [if_pos c0]
    by_cases c1 : x < m - i + (m + j - m)
    · rw [if_pos c1, if_pos (by omega)]
      by_cases c2 : x < m - i + (m + (j - i) - m)
      · rw [if_pos c2, swapTo_get d i (by omega) (by omega)]
        rw [if_neg (by omega), if_neg (by omega)]
      · rw [if_neg c2, swapTo_get d i (by omega) (by omega), if_pos (by omega)]
        congr 1
        omega
    · rw [if_neg c1, if_neg (by omega), swapTo_get d i (by omega) (by omega), if_neg (by omega), if_pos (by omega)]
      congr 1
      omega
  · rw [if_neg c0, if_neg (by omega), swapTo_get d i (by omega) (by omega), if_neg (by omega), if_neg (by omega)]

variable {enc : α → List Value} {k : Nat} {blk off : Nat} {d0 : Array α} {w0 : World}
set_option maxRecDepth 1000000 in
set_option maxHeartbeats 4000000 in
theorem swapRange_any (zE : ∀ w, (Go.sizeOf 23).run Try.prog w = .ok k w) (g : Nat) (cb : Array Value) (cap a b n : Nat) (d : Array α) (w : World) (R : RowK enc k w0 blk off d0) (hs : d0.size = d.size) (S : SWK enc k w0 blk off d w) (ha : a + n ≤ b) (hb : b + n ≤ d.size) (hsz : d.size < 4611686018427387904) :
    Calls Try.prog 120 #[.slice (some ⟨blk, off, none⟩) d.size cap, .int .i64 a, .int .i64 b, .int .i64 n, .func (.func g) #[] cb] w fun e w' => e = .returned (.tuple #[]) ∧ SWK enc k w0 blk off (swapTo d a b n) w' := by
  have S0 : Aside (SWK enc k w0 blk off d w) := S
  clear S
  have mixed : Try.prog.follows .mixedOrders = true := rfl
  have aE := Try.isAgg23
  go_enter Try.func120, Try.ntmps120
  go_wp2
  go_loopg [10] n (fun kx s10 wr => ∃ (i : Nat), s10 = .int .i64 i ∧ i ≤ n ∧ n - i ≤ kx ∧ Aside (SWK enc k w0 blk off (swapTo d a b i) wr))
  case atStart => exact ⟨0, rfl, by omega, by omega, S0⟩
  case round =>
    clear S0
    obtain ⟨i, rfl, hin, hkx, S1⟩ := hrel
    by_cases hlt : i < n
    · have hltz : (i : Int) < (n : Int) := by omega
      have hds := swapTo_size d a b i
      have NX : Aside (swp (swapTo d a b i) (a + i) (b + i) = swapTo d a b (i + 1)) := rfl
      generalize swapTo d a b i = dk at S1 hds NX
      go_wp2_with fail
      have ea : ((a : Int) + (i : Int)).toNat = a + i := by omega
      have pa : (0 : Int) ≤ (a : Int) + (i : Int) := by omega
      have ba : (a : Int) + (i : Int) < (d.size : Int) := by omega
      have ra : IntKind.i64.wrap ((a : Int) + (i : Int)) = (a : Int) + (i : Int) := by rw [IntKind.wrap_i64]; omega
      have eb : ((b : Int) + (i : Int)).toNat = b + i := by omega
      have pb : (0 : Int) ≤ (b : Int) + (i : Int) := by omega
      have bb : (b : Int) + (i : Int) < (d.size : Int) := by omega
      have rb : IntKind.i64.wrap ((b : Int) + (i : Int)) = (b : Int) + (i : Int) := by rw [IntKind.wrap_i64]; omega
      have S2 : Aside (SWK enc k w0 blk off (swp dk (a + i) (b + i)) ((wr.drew.setCells blk (off + (a + i) * k) (enc dk[b + i]!)).setCells blk (off + (b + i) * k) (enc dk[a + i]!))) := S1.out.swapped R (a + i) (b + i) (by omega) (by omega)
      have l1 := S1.out.ld1 R (by omega) Try.prog (a + i) (by omega)
      have l2 := S1.out.ld1 R (by omega) Try.prog (b + i) (by omega)
      have s1 := S1.out.st1 R (by omega) Try.prog (a + i) (by omega) dk[b + i]!
      have s2 := S1.out.st2 R (by omega) Try.prog (a + i) (b + i) (by omega) (by omega) dk[b + i]! dk[a + i]!
      have n1 : (enc dk[a + i]!).length = k := R.hk _
      have n2 : (enc dk[b + i]!).length = k := R.hk _
      generalize enc dk[a + i]! = cI at S2 l1 s2 n1
      generalize enc dk[b + i]! = cJ at S2 l2 s1 s2 n2
      clear S1
      go_wp2_with fail
      go_big_region_o
      clear l1 l2 s1 s2
      generalize (wr.drew.setCells blk (off + (a + i) * k) cJ).setCells blk (off + (b + i) * k) cI = w2 at S2 ⊢
      go_wp2
      go_roundg (n - (i + 1))
      case measure => omega
      case rel => exact ⟨i + 1, by simp, by omega, by omega, by rw [← NX.out]; exact S2⟩
    · obtain rfl : i = n := by omega
      go_wp2
      go_end0
      exact ⟨rfl, S1.out⟩
end Go.Proofs.Ytmpklkhjipclmaa
