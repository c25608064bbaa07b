/- Layer 6: the library's stable sort, put together. -/
import Derived.Shelf.SlSortCmp.KitK
import Derived.Sort.WalkB2
import Derived.Sort.WalkB12
import Derived.Deep.LoopGhost
import Derived.Test.YtknbglcmjggkjaaLM
import Derived.Test.YtknbglcmjggkjaaU6

/- Layer 6: swapRangeCmpFunc (89): two pieces change places. -/
namespace Go.Proofs.Ytknbglcmjggkjaa
open Go.RowKit Go.Shelf Go.Lib Go.Sort Sm
variable {α : Type} [Inhabited α]

/-- The elements by their index. -/
def Ix (d : Array α) : Nat → α := fun i => d[i]!
/-- n elements from a on change places with those from b on. -/
def swapTo (d : Array α) (a b : Nat) : Nat → Array α
  | 0 => d
  | n + 1 => swp (swapTo d a b n) (a + n) (b + n)
theorem swapTo_size (d : Array α) (a b : Nat) : ∀ n, (swapTo d a b n).size = d.size
  | 0 => rfl
  | n + 1 => by rw [swapTo, size_swp, swapTo_size d a b n]
theorem swapTo_get (d : Array α) {a b : Nat} : ∀ n, a + n ≤ b → b + n ≤ d.size → ∀ x, (swapTo d a b n)[x]! = if a ≤ x ∧ x < a + n then d[x + (b - a)]! else if b ≤ x ∧ x < b + n then d[x - (b - a)]! else d[x]!
  | 0, _, _, x => by rw [swapTo, if_neg (by omega), if_neg (by omega)]
  | n + 1, h1, h2, x => by
    have ih := swapTo_get d n (a := a) (b := b) (by omega) (by omega)
    have hs := swapTo_size d a b n
    rw [swapTo]
    by_cases e1 : x = a + n
    · subst e1
      rw [swp_left _ _ _ (by omega) (by omega), ih, if_neg (by omega), if_neg (by omega), if_pos (by omega)]
      congr 1
      omega
    · by_cases e2 : x = b + n
      · subst e2
        rw [swp_right _ _ _ (by omega), ih, if_neg (by omega), if_neg (by omega), if_neg (by omega), if_pos (by omega)]
        congr 1
        omega
      · rw [swp_other _ _ _ _ e1 e2, ih]
        by_cases c1 : a ≤ x ∧ x < a + n
        · rw [if_pos c1, if_pos (show a ≤ x ∧ x < a + (n + 1) by omega)]
        · rw [if_neg c1, if_neg (show ¬ (a ≤ x ∧ x < a + (n + 1)) by omega)]
          by_cases c2 : b ≤ x ∧ x < b + n
          · rw [if_pos c2, if_pos (show b ≤ x ∧ x < b + (n + 1) by omega)]
          · rw [if_neg c2, if_neg (show ¬ (b ≤ x ∧ x < b + (n + 1)) by omega)]
/-- Pieces of the same length: this is the rotation. -/
theorem swapTo_rot (d : Array α) {m i : Nat} (h1 : i ≤ m) (h2 : m + i ≤ d.size) : Ix (swapTo d (m - i) m i) = rot (Ix d) (m - i) m (m + i) := by
  funext x
  unfold Ix
  rw [swapTo_get d i (by omega) h2]
  unfold rot
  by_cases c1 : m - i ≤ x ∧ x < m - i + i
  · rw [if_pos c1, if_pos (by omega), if_pos (by omega)]
  · rw [if_neg c1]
    by_cases c2 : m ≤ x ∧ x < m + i
    · rw [if_pos c2, if_pos (by omega), if_neg (by omega)]
      congr 1
      omega
    · rw [if_neg c2, if_neg (by omega)]
/-- The left piece is the longer one. -/
theorem swapTo_left (d : Array α) {m i j : Nat} (h1 : i ≤ m) (hj : j < i) (h2 : m + j ≤ d.size) : rot (Ix (swapTo d (m - i) m j)) (m - (i - j)) m (m + j) = rot (Ix d) (m - i) m (m + j) := by
  funext x
  unfold rot Ix
  by_cases c0 : m - i ≤ x ∧ x < m + j
  · rw [if_pos c0]
    by_cases c1 : x < m - i + (m + j - m)
    · rw [if_pos c1, if_neg (by omega), swapTo_get d j (by omega) h2, if_pos (by omega)]
    · rw [if_neg c1, if_pos (by omega)]
      by_cases c2 : x < m - (i - j) + (m + j - m)
      · rw [if_pos c2, swapTo_get d j (by omega) h2, if_neg (by omega), if_pos (by omega)]
        congr 1
        omega
      · rw [if_neg c2, swapTo_get d j (by omega) h2, if_neg (by omega), if_neg (by omega)]
  · rw [if_neg c0, if_neg (by omega), swapTo_get d j (by omega) h2, if_neg (by omega), if_neg (by omega)]
/-- The right piece is the longer one. -/
theorem swapTo_right (d : Array α) {m i j : Nat} (h1 : i ≤ m) (hj : i < j) (h2 : m + j ≤ d.size) : rot (Ix (swapTo d (m - i) (m + j - i) i)) (m - i) m (m + (j - i)) = rot (Ix d) (m - i) m (m + j) := by
  funext x
  unfold rot Ix
  by_cases c0 : m - i ≤ x ∧ x < m + j
  · rw [if_pos c0]
    by_cases c1 : x < m - i + (m + j - m)
    · rw [if_pos c1, if_pos (by omega)]
      by_cases c2 : x < m - i + (m + (j - i) - m)
      · rw [if_pos c2, swapTo_get d i (by omega) (by omega)]
        rw [if_neg (by omega), if_neg (by omega)]
      · rw [if_neg c2, swapTo_get d i (by omega) (by omega), if_pos (by omega)]
        congr 1
        omega
    · rw [if_neg c1, if_neg (by omega), swapTo_get d i (by omega) (by omega), if_neg (by omega), if_pos (by omega)]
      congr 1
      omega
  · rw [if_neg c0, if_neg (by omega), swapTo_get d i (by omega) (by omega), if_neg (by omega), if_neg (by omega)]

variable {enc : α → List Value} {k : Nat} {blk off : Nat} {d0 : Array α} {w0 : World}
set_option maxRecDepth 1000000 in
set_option maxHeartbeats 4000000 in
theorem swapRange_any (zE : ∀ w, (Go.sizeOf 83).run Try.prog w = .ok k w) (g : Nat) (cb : Array Value) (cap a b n : Nat) (d : Array α) (w : World) (R : RowK enc k w0 blk off d0) (hs : d0.size = d.size) (S : SWK enc k w0 blk off d w) (ha : a + n ≤ b) (hb : b + n ≤ d.size) (hsz : d.size < 4611686018427387904) :
    Calls Try.prog 89 #[.slice (some ⟨blk, off, none⟩) d.size cap, .int .i64 a, .int .i64 b, .int .i64 n, .func (.func g) #[] cb] w fun e w' => e = .returned (.tuple #[]) ∧ SWK enc k w0 blk off (swapTo d a b n) w' := by
  have S0 : Aside (SWK enc k w0 blk off d w) := S
  clear S
  have mixed : Try.prog.follows .mixedOrders = true := rfl
  have aE := Try.isAgg83
  go_enter Try.func89, Try.ntmps89
  go_wp2
  go_loopg [10] n (fun kx s10 wr => ∃ (i : Nat), s10 = .int .i64 i ∧ i ≤ n ∧ n - i ≤ kx ∧ Aside (SWK enc k w0 blk off (swapTo d a b i) wr))
  case atStart => exact ⟨0, rfl, by omega, by omega, S0⟩
  case round =>
    clear S0
    obtain ⟨i, rfl, hin, hkx, S1⟩ := hrel
    by_cases hlt : i < n
    · have hltz : (i : Int) < (n : Int) := by omega
      have hds := swapTo_size d a b i
      have NX : Aside (swp (swapTo d a b i) (a + i) (b + i) = swapTo d a b (i + 1)) := rfl
      generalize swapTo d a b i = dk at S1 hds NX
      go_wp2_with fail
      have ea : ((a : Int) + (i : Int)).toNat = a + i := by omega
      have pa : (0 : Int) ≤ (a : Int) + (i : Int) := by omega
      have ba : (a : Int) + (i : Int) < (d.size : Int) := by omega
      have ra : IntKind.i64.wrap ((a : Int) + (i : Int)) = (a : Int) + (i : Int) := by rw [IntKind.wrap_i64]; omega
      have eb : ((b : Int) + (i : Int)).toNat = b + i := by omega
      have pb : (0 : Int) ≤ (b : Int) + (i : Int) := by omega
      have bb : (b : Int) + (i : Int) < (d.size : Int) := by omega
      have rb : IntKind.i64.wrap ((b : Int) + (i : Int)) = (b : Int) + (i : Int) := by rw [IntKind.wrap_i64]; omega
      have S2 : Aside (SWK enc k w0 blk off (swp dk (a + i) (b + i)) ((wr.drew.setCells blk (off + (a + i) * k) (enc dk[b + i]!)).setCells blk (off + (b + i) * k) (enc dk[a + i]!))) := S1.out.swapped R (a + i) (b + i) (by omega) (by omega)
      have l1 := S1.out.ld1 R (by omega) Try.prog (a + i) (by omega)
      have l2 := S1.out.ld1 R (by omega) Try.prog (b + i) (by omega)
      have s1 := S1.out.st1 R (by omega) Try.prog (a + i) (by omega) dk[b + i]!
      have s2 := S1.out.st2 R (by omega) Try.prog (a + i) (b + i) (by omega) (by omega) dk[b + i]! dk[a + i]!
      have n1 : (enc dk[a + i]!).length = k := R.hk _
      have n2 : (enc dk[b + i]!).length = k := R.hk _
      generalize enc dk[a + i]! = cI at S2 l1 s2 n1
      generalize enc dk[b + i]! = cJ at S2 l2 s1 s2 n2
      clear S1
      go_wp2_with fail
      go_big_region_o
      clear l1 l2 s1 s2
      generalize (wr.drew.setCells blk (off + (a + i) * k) cJ).setCells blk (off + (b + i) * k) cI = w2 at S2 ⊢
      go_wp2
      go_roundg (n - (i + 1))
      case measure => omega
      case rel => exact ⟨i + 1, by simp, by omega, by omega, by rw [← NX.out]; exact S2⟩
    · obtain rfl : i = n := by omega
      go_wp2
      go_end0
      exact ⟨rfl, S1.out⟩
end Go.Proofs.Ytknbglcmjggkjaa

/- Layer 6: rotateCmpFunc (87). -/
namespace Go.Proofs.Ytknbglcmjggkjaa
open Go.RowKit Go.Shelf Go.Lib Go.Sort Sm
variable {α : Type} [Inhabited α] {enc : α → List Value} {k : Nat} {blk off : Nat} {d0 : Array α} {w0 : World}
set_option maxRecDepth 1000000 in
set_option maxHeartbeats 4000000 in
theorem rotate_any (zE : ∀ w, (Go.sizeOf 83).run Try.prog w = .ok k w) (g : Nat) (cb : Array Value) (cap a m b : Nat) (d : Array α) (w : World) (R : RowK enc k w0 blk off d0) (hs : d0.size = d.size) (S : SWK enc k w0 blk off d w) (ha : a < m) (hm : m < b) (hb : b ≤ d.size) (hsz : d.size < 4611686018427387904) :
    Calls Try.prog 87 #[.slice (some ⟨blk, off, none⟩) d.size cap, .int .i64 a, .int .i64 m, .int .i64 b, .func (.func g) #[] cb] w fun e w' => e = .returned (.tuple #[]) ∧ ∃ d', d'.size = d.size ∧ Ix d' = rot (Ix d) a m b ∧ SWK enc k w0 blk off d' w' := by
  have S0 : Aside (SWK enc k w0 blk off d w) := S
  clear S
  have C : Aside (∀ (a b n : Nat) (dk : Array α) (wr : World), dk.size = d.size → SWK enc k w0 blk off dk wr → a + n ≤ b → b + n ≤ d.size →
      Calls Try.prog 89 #[.slice (some ⟨blk, off, none⟩) d.size cap, .int .i64 a, .int .i64 b, .int .i64 n, .func (.func g) #[] cb] wr fun e w' => e = .returned (.tuple #[]) ∧ SWK enc k w0 blk off (swapTo dk a b n) w') :=
    fun a b n dk wr h1 h2 h3 h4 => by
      have := swapRange_any zE g cb cap a b n dk wr R (by omega) h2 h3 (by omega) (by omega)
      rw [h1] at this
      exact this
  clear zE R hs
  go_enter Try.func87, Try.ntmps87
  go_wp2
  go_loopg [10, 11] (b - a) (fun kx s10 s11 wr => ∃ (i j : Nat) (dk : Array α), s10 = .int .i64 i ∧ s11 = .int .i64 j ∧ 0 < i ∧ 0 < j ∧ i ≤ m ∧ m + j ≤ b ∧ i + j ≤ kx ∧ dk.size = d.size ∧ Aside (rot (Ix dk) (m - i) m (m + j) = rot (Ix d) a m b) ∧ Aside (SWK enc k w0 blk off dk wr))
  case atStart => exact ⟨m - a, b - m, d, by rw [show ((m - a : Nat) : Int) = (m : Int) - (a : Int) by omega], by rw [show ((b - m : Nat) : Int) = (b : Int) - (m : Int) by omega], by omega, by omega, by omega, by omega, by omega, rfl, by rw [show m - (m - a) = a by omega, show m + (b - m) = b by omega]; exact rfl, S0⟩
  case round =>
    clear S0
    obtain ⟨i, j, dk, rfl, rfl, hi, hj, him, hjb, hkx, hds, HT, S1⟩ := hrel
    by_cases hij : i = j
    · subst hij
      have c := C.out (m - i) m i dk wr hds S1.out (by omega) (by omega)
      rw [show ((m - i : Nat) : Int) = (m : Int) - (i : Int) by omega] at c
      go_wp2_with (go_at_call 89; refine c.mono ?_; rintro e w1 ⟨rfl, hw1⟩)
      go_end0
      exact ⟨rfl, swapTo dk (m - i) m i, by rw [swapTo_size, hds], by rw [swapTo_rot dk him (by omega)]; exact HT.out, hw1⟩
    · have hijz : ¬ ((i : Int) = (j : Int)) := by omega
      by_cases hlt : j < i
      · have hltz : (j : Int) < (i : Int) := by omega
        have c := C.out (m - i) m j dk wr hds S1.out (by omega) (by omega)
        rw [show ((m - i : Nat) : Int) = (m : Int) - (i : Int) by omega] at c
        go_wp2_with (go_at_call 89; refine c.mono ?_; rintro e w1 ⟨rfl, hw1⟩)
        go_roundg (i - j + j)
        case measure => omega
        case rel => exact ⟨i - j, j, swapTo dk (m - i) m j, by rw [show ((i - j : Nat) : Int) = (i : Int) - (j : Int) by omega], rfl, by omega, hj, by omega, hjb, by omega, by rw [swapTo_size, hds], by rw [swapTo_left dk him hlt (by omega)]; exact HT, hw1⟩
      · have hltz : ¬ ((j : Int) < (i : Int)) := by omega
        have c := C.out (m - i) (m + j - i) i dk wr hds S1.out (by omega) (by omega)
        rw [show ((m - i : Nat) : Int) = (m : Int) - (i : Int) by omega, show ((m + j - i : Nat) : Int) = (m : Int) + (j : Int) - (i : Int) by omega] at c
        go_wp2_with (go_at_call 89; refine c.mono ?_; rintro e w1 ⟨rfl, hw1⟩)
        go_roundg (i + (j - i))
        case measure => omega
        case rel => exact ⟨i, j - i, swapTo dk (m - i) (m + j - i) i, rfl, by rw [show ((j - i : Nat) : Int) = (j : Int) - (i : Int) by omega], hi, by omega, him, by omega, by omega, by rw [swapTo_size, hds], by rw [swapTo_right dk him (by omega) (by omega)]; exact HT, hw1⟩
end Go.Proofs.Ytknbglcmjggkjaa

/- Layer 6: moving one element, and the binary search, plainly. -/
namespace Go.Proofs.Ytknbglcmjggkjaa
open Go.RowKit Go.Shelf Go.Lib Go.Sort Sm
variable {α : Type} [Inhabited α]

omit [Inhabited α] in
theorem rot_none_right (d : Nat → α) (s m : Nat) : rot d s m m = d := by
  funext x
  unfold rot
  split
  · rw [if_neg (by omega), Nat.sub_self, Nat.sub_zero]
  · rfl
omit [Inhabited α] in
theorem rot_none_left (d : Nat → α) (m e : Nat) : rot d m m e = d := by
  funext x
  unfold rot
  split
  · rw [if_pos (by omega), Nat.sub_self, Nat.add_zero]
  · rfl
/-- The left element goes one place to the right. -/
theorem rot_bubble_right (d dk : Array α) {a k : Nat} (ha : a ≤ k) (hk : k + 1 < dk.size) (h : Ix dk = rot (Ix d) a (a + 1) (k + 1)) : Ix (swp dk k (k + 1)) = rot (Ix d) a (a + 1) (k + 2) := by
  funext x
  have hx := fun y => congrFun h y
  unfold Ix at hx ⊢
  by_cases e1 : x = k
  · subst e1
    rw [swp_left _ _ _ (by omega) (by omega), hx]
    unfold rot
    rw [if_neg (by omega), if_pos (by omega), if_pos (by omega)]
    congr 1
    omega
  · by_cases e2 : x = k + 1
    · subst e2
      rw [swp_right _ _ _ (by omega), hx]
      unfold rot
      rw [if_pos (by omega), if_neg (by omega), if_pos (by omega), if_neg (by omega)]
      congr 1
      omega
    · rw [swp_other _ _ _ _ e1 e2, hx]
      unfold rot
      by_cases c : a ≤ x ∧ x < k + 1
      · rw [if_pos c, if_pos (by omega), if_pos (by omega), if_pos (by omega)]
      · rw [if_neg c, if_neg (by omega)]
/-- The right element goes one place to the left. -/
theorem rot_bubble_left (d dk : Array α) {m k : Nat} (hk : k + 1 ≤ m) (hm : m < dk.size) (h : Ix dk = rot (Ix d) (k + 1) m (m + 1)) : Ix (swp dk (k + 1) k) = rot (Ix d) k m (m + 1) := by
  funext x
  have hx := fun y => congrFun h y
  unfold Ix at hx ⊢
  by_cases e1 : x = k
  · subst e1
    rw [swp_right _ _ _ (by omega), hx]
    unfold rot
    rw [if_pos (by omega), if_pos (by omega), if_pos (by omega), if_pos (by omega)]
    congr 1
    omega
  · by_cases e2 : x = k + 1
    · subst e2
      rw [swp_left _ _ _ (by omega) (by omega), hx]
      unfold rot
      rw [if_neg (by omega), if_pos (by omega), if_neg (by omega)]
      congr 1
      omega
    · rw [swp_other _ _ _ _ e2 e1, hx]
      unfold rot
      by_cases c : k + 1 ≤ x ∧ x < m + 1
      · rw [if_pos c, if_neg (by omega), if_pos (by omega), if_neg (by omega)]
      · rw [if_neg c, if_neg (by omega)]

section
variable {lt : α → α → Prop} {cf : α → α → Int} (o : Ord lt) {d : Array α} {a m b : Nat}
/-- What is compared, is a right element against a left one. -/
def Crs (lt : α → α → Prop) (cf : α → α → Int) (d : Array α) (a m b : Nat) : Prop := Cross lt (fun x y => cf x y < 0) (Ix d) a m b
/-- The search for the place of the one left element among the right ones. -/
def SL (lt : α → α → Prop) (d : Array α) (a m b i j : Nat) : Prop := (∀ x, m ≤ x → x < i → lt (Ix d x) (Ix d a)) ∧ (∀ x, j ≤ x → x < b → lt (Ix d a) (Ix d x))
theorem SL.start : SL lt d a m b m b := ⟨fun x h h' => by omega, fun x h h' => by omega⟩
include o in
theorem SL.up {i j c : Nat} (h : SL lt d a m b i j) (sr : Srt lt (Ix d) m b) (hc : Crs lt cf d a m b) (ham : a < m) (h1 : m ≤ i) (h2 : i ≤ c) (h3 : c < j) (hj : j ≤ b) (hv : cf d[c]! d[a]! < 0) : SL lt d a m b (c + 1) j := by
  have hl : lt (Ix d c) (Ix d a) := (hc a c (Nat.le_refl _) ham (by omega) (by omega)).1.1 hv
  refine ⟨fun x hx hxc => ?_, h.2⟩
  by_cases e : x = c
  · subst e; exact hl
  · exact o.trans (sr x c hx (by omega) (by omega)) hl
include o in
theorem SL.down {i j c : Nat} (h : SL lt d a m b i j) (sr : Srt lt (Ix d) m b) (hc : Crs lt cf d a m b) (ham : a < m) (h1 : m ≤ i) (h2 : i ≤ c) (h3 : c < j) (hj : j ≤ b) (hv : ¬ cf d[c]! d[a]! < 0) : SL lt d a m b i c := by
  have hx := hc a c (Nat.le_refl _) ham (by omega) (by omega)
  have hl : lt (Ix d a) (Ix d c) := hx.2 fun g => hv (hx.1.2 g)
  refine ⟨h.1, fun x hcx hxb => ?_⟩
  by_cases e : x = c
  · subst e; exact hl
  · exact o.trans hl (sr c x (by omega) (by omega) hxb)
theorem SL.merged {s : Nat} (h : SL lt d a (a + 1) b s s) (h1 : a + 1 ≤ s) (h2 : s ≤ b) (sl : Srt lt (Ix d) a (a + 1)) (sr : Srt lt (Ix d) (a + 1) b) : Merged lt (Ix d) (rot (Ix d) a (a + 1) s) a b := by
  refine rot_merged (Nat.le_refl _) (by omega) h1 h2 sl sr (fun i j h1 h2 => by omega) (fun j i h3 h4 h5 h6 => ?_) (fun i j h1 h2 => by omega) (fun i j h3 h4 h5 h6 => ?_)
  · obtain rfl : i = a := by omega
    exact h.1 j h3 h4
  · obtain rfl : i = a := by omega
    exact h.2 j h5 h6
/-- The search for the place of the one right element among the left ones. -/
def SR (lt : α → α → Prop) (d : Array α) (a m i j : Nat) : Prop := (∀ x, a ≤ x → x < i → lt (Ix d x) (Ix d m)) ∧ (∀ x, j ≤ x → x < m → lt (Ix d m) (Ix d x))
theorem SR.start : SR lt d a m a m := ⟨fun x h h' => by omega, fun x h h' => by omega⟩
include o in
theorem SR.up {i j c : Nat} (h : SR lt d a m i j) (sl : Srt lt (Ix d) a m) (hc : Crs lt cf d a m b) (hmb : m < b) (h1 : a ≤ i) (h2 : i ≤ c) (h3 : c < j) (hj : j ≤ m) (hv : ¬ cf d[m]! d[c]! < 0) : SR lt d a m (c + 1) j := by
  have hx := hc c m (by omega) (by omega) (Nat.le_refl _) hmb
  have hl : lt (Ix d c) (Ix d m) := hx.2 fun g => hv (hx.1.2 g)
  refine ⟨fun x hx hxc => ?_, h.2⟩
  by_cases e : x = c
  · subst e; exact hl
  · exact o.trans (sl x c hx (by omega) (by omega)) hl
include o in
theorem SR.down {i j c : Nat} (h : SR lt d a m i j) (sl : Srt lt (Ix d) a m) (hc : Crs lt cf d a m b) (hmb : m < b) (h1 : a ≤ i) (h2 : i ≤ c) (h3 : c < j) (hj : j ≤ m) (hv : cf d[m]! d[c]! < 0) : SR lt d a m i c := by
  have hl : lt (Ix d m) (Ix d c) := (hc c m (by omega) (by omega) (Nat.le_refl _) hmb).1.1 hv
  refine ⟨h.1, fun x hcx hxb => ?_⟩
  by_cases e : x = c
  · subst e; exact hl
  · exact o.trans hl (sl c x (by omega) (by omega) hxb)
theorem SR.merged {s : Nat} (h : SR lt d a m s s) (h1 : a ≤ s) (h2 : s ≤ m) (sl : Srt lt (Ix d) a m) (sr : Srt lt (Ix d) m (m + 1)) : Merged lt (Ix d) (rot (Ix d) s m (m + 1)) a (m + 1) := by
  refine rot_merged h1 h2 (by omega) (Nat.le_refl _) sl sr (fun i j h1 h2 h3 h4 => by omega) (fun j i h3 h4 h5 h6 => ?_) (fun i j h3 h4 h5 h6 => ?_) (fun i j h1 h2 h3 h4 => by omega)
  · obtain rfl : j = m := by omega
    exact h.2 i h5 h6
  · obtain rfl : j = m := by omega
    exact h.1 i h3 h4
end
/-- What symMergeCmpFunc is called on. -/
structure SymIn (lt : α → α → Prop) (cf : α → α → Int) (d : Array α) (a m b : Nat) : Prop where
  am : a < m
  mb : m < b
  bd : b ≤ d.size
  sl : Srt lt (Ix d) a m
  sr : Srt lt (Ix d) m b
  cr : Crs lt cf d a m b
/-- What it leaves. -/
def SymOut (lt : α → α → Prop) (enc : α → List Value) (k : Nat) (w0 : World) (blk off : Nat) (d : Array α) (a b : Nat) (e : Ending) (w' : World) : Prop :=
  e = .returned (.tuple #[]) ∧ ∃ d', d'.size = d.size ∧ Merged lt (Ix d) (Ix d') a b ∧ SWK enc k w0 blk off d' w'
end Go.Proofs.Ytknbglcmjggkjaa

/- Layer 6: symMergeCmpFunc (82): a left piece of one element. -/
namespace Go.Proofs.Ytknbglcmjggkjaa
open Go.RowKit Go.Shelf Go.Lib Go.Sort Sm
variable {α : Type} [Inhabited α] {enc : α → List Value} {k : Nat} {blk off : Nat} {d0 : Array α} {w0 : World} {lt : α → α → Prop} {cf : α → α → Int}
set_option maxRecDepth 1000000 in
set_option maxHeartbeats 8000000 in
theorem symMerge_left (o : Ord lt) (zE : ∀ w, (Go.sizeOf 83).run Try.prog w = .ok k w) (g : Nat) (cb : Array Value) (cap a m b : Nat) (d : Array α) (w : World) (R : RowK enc k w0 blk off d0) (hs : d0.size = d.size) (S : SWK enc k w0 blk off d w) (hI : SymIn lt cf d a m b) (hm : m = a + 1) (hsz : d.size < 4611686018427387904)
    (eg : ∀ args w, (callFunc g args).run Try.prog w = .ok (.enter g args) w) (hC : CmpLays Try.prog g cb enc k cf blk off d0.size w0) :
    Calls Try.prog 82 #[.slice (some ⟨blk, off, none⟩) d.size cap, .int .i64 a, .int .i64 m, .int .i64 b, .func (.func g) #[] cb] w (SymOut lt enc k w0 blk off d a b) := by
  have O : Aside (Ord lt) := o
  have S0 : Aside (SWK enc k w0 blk off d w) := S
  have HI : Aside (SymIn lt cf d a m b) := hI
  have HC : Aside (CmpLays Try.prog g cb enc k cf blk off d0.size w0) := hC
  obtain ⟨ham, hmb, hbd, _, _, _⟩ := hI
  clear S hC o
  have mixed : Try.prog.follows .mixedOrders = true := rfl
  have aE := Try.isAgg83
  go_enter Try.func82, Try.ntmps82
  have e1 : (m : Int) - (a : Int) = 1 := by omega
  have HM : Aside (m = a + 1) := hm
  clear hm
  go_wp2
  go_loopg [10, 11] (b - m) (fun kx s10 s11 wr => ∃ (i j : Nat), s10 = .int .i64 i ∧ s11 = .int .i64 j ∧ m ≤ i ∧ i ≤ j ∧ j ≤ b ∧ j - i ≤ kx ∧ Aside (SL lt d a m b i j) ∧ Aside (SWK enc k w0 blk off d wr))
  case atStart => exact ⟨m, b, rfl, rfl, by omega, by omega, by omega, by omega, SL.start, S0⟩
  case round =>
    clear S0
    obtain ⟨i, j, rfl, rfl, hai, hij, hjb, hkx, HL, S1⟩ := hrel
    by_cases hlt : i < j
    · have hltz : (i : Int) < (j : Int) := by omega
      obtain ⟨c, hc⟩ : ∃ c, c = (i + j) / 2 := ⟨_, rfl⟩
      have hic : i ≤ c := by omega
      have hcj : c < j := by omega
      have ez : ((i : Int) + (j : Int)) / 2 = (c : Int) := by omega
      have ec : ((c : Int)).toNat = c := by omega
      have pc : (0 : Int) ≤ (c : Int) := by omega
      have bc : (c : Int) < (d.size : Int) := by omega
      have rc : IntKind.i64.wrap ((c : Int)) = (c : Int) := by rw [IntKind.wrap_i64]; omega
      have ea : ((a : Int)).toNat = a := by omega
      have pa : (0 : Int) ≤ (a : Int) := by omega
      have ba : (a : Int) < (d.size : Int) := by omega
      have ra : IntKind.i64.wrap ((a : Int)) = (a : Int) := by rw [IntKind.wrap_i64]; omega
      clear hc
      obtain ⟨xv, hxv⟩ : ∃ x, x = d[c]! := ⟨_, rfl⟩
      obtain ⟨yv, hyv⟩ : ∃ x, x = d[a]! := ⟨_, rfl⟩
      have l1 := S1.out.ld R (by omega) Try.prog (c) (by omega)
      have l2 := S1.out.ld R (by omega) Try.prog (a) (by omega)
      rw [← hxv] at l1
      rw [← hyv] at l2
      have hcg := S1.out.cmp HC.out (by omega) xv yv
      have HX : Aside (xv = d[c]! ∧ yv = d[a]!) := ⟨hxv, hyv⟩
      clear hxv hyv
      by_cases hv : cf xv yv < 0
      · have hd : decide (cf xv yv < 0) = true := decide_eq_true hv
        have NX : Aside (SL lt d a m b (c + 1) j) := by
          have h := HX.out
          rw [h.1, h.2] at hv
          exact HL.out.up O.out HI.out.sr HI.out.cr HI.out.am (by omega) hic hcj (by omega) hv
        go_wp2_with fail
        go_quiet_grown (first | (go_at_fn g; refine Calls.grown_of (hcg _ _)))
        have S2 : Aside (SWK enc k w0 blk off d (grow (wr.drewN nq) osq)) := S1.out.grown nq osq
        clear l1 l2 hcg S1
        generalize grow (wr.drewN nq) osq = w2 at S2 ⊢
        clear nq osq
        go_wp2
        go_roundg (j - (c + 1))
        case measure => omega
        case rel => exact ⟨c + 1, j, by first | rfl | go_num | simp, rfl, by omega, by omega, by omega, by omega, NX, S2⟩
      · have hd : decide (cf xv yv < 0) = false := decide_eq_false hv
        have NX : Aside (SL lt d a m b i c) := by
          have h := HX.out
          rw [h.1, h.2] at hv
          exact HL.out.down O.out HI.out.sr HI.out.cr HI.out.am (by omega) hic hcj (by omega) hv
        go_wp2_with fail
        go_quiet_grown (first | (go_at_fn g; refine Calls.grown_of (hcg _ _)))
        have S2 : Aside (SWK enc k w0 blk off d (grow (wr.drewN nq) osq)) := S1.out.grown nq osq
        clear l1 l2 hcg S1
        generalize grow (wr.drewN nq) osq = w2 at S2 ⊢
        clear nq osq
        go_wp2
        go_roundg (c - i)
        case measure => omega
        case rel => exact ⟨i, c, rfl, rfl, by omega, by omega, by omega, by omega, NX, S2⟩
    · have hltz : ¬ ((i : Int) < (j : Int)) := by omega
      obtain rfl : i = j := by omega
      go_wp2
      go_loopg [13] (i - 1 - a) (fun kx s13 wr => ∃ (q : Nat) (dk : Array α), s13 = .int .i64 q ∧ a ≤ q ∧ q + 1 ≤ i ∧ i - 1 - q ≤ kx ∧ dk.size = d.size ∧ Aside (Ix dk = rot (Ix d) a m (q + 1)) ∧ Aside (SWK enc k w0 blk off dk wr))
      case atStart => exact ⟨a, d, rfl, Nat.le_refl _, by have := HM.out; omega, by omega, rfl, by rw [← HM.out]; exact (rot_none_right _ _ _).symm, S1⟩
      case round =>
        clear S1
        obtain ⟨q, dk, rfl, haq, hqi, hkx2, hds, HR, S1⟩ := hrel
        by_cases hlt2 : q + 1 < i
        · have hltz2 : (q : Int) < (i : Int) - 1 := by omega
          have ea : (((q : Int) : Int)).toNat = q := by omega
          have pa : (0 : Int) ≤ ((q : Int) : Int) := by omega
          have ba : ((q : Int) : Int) < (d.size : Int) := by omega
          have ra : IntKind.i64.wrap (((q : Int) : Int)) = ((q : Int) : Int) := by rw [IntKind.wrap_i64]; omega
          have eb : (((q : Int) + 1 : Int)).toNat = q + 1 := by omega
          have pb : (0 : Int) ≤ ((q : Int) + 1 : Int) := by omega
          have bb : ((q : Int) + 1 : Int) < (d.size : Int) := by omega
          have rb : IntKind.i64.wrap (((q : Int) + 1 : Int)) = ((q : Int) + 1 : Int) := by rw [IntKind.wrap_i64]; omega
          have S2 : Aside (SWK enc k w0 blk off (swp dk (q) (q + 1)) ((wr.drew.setCells blk (off + (q) * k) (enc dk[q + 1]!)).setCells blk (off + (q + 1) * k) (enc dk[q]!))) := S1.out.swapped R (q) (q + 1) (by omega) (by omega)
          have l1 := S1.out.ld1 R (by omega) Try.prog (q) (by omega)
          have l2 := S1.out.ld1 R (by omega) Try.prog (q + 1) (by omega)
          have s1 := S1.out.st1 R (by omega) Try.prog (q) (by omega) dk[q + 1]!
          have s2 := S1.out.st2 R (by omega) Try.prog (q) (q + 1) (by omega) (by omega) dk[q + 1]! dk[q]!
          have n1 : (enc dk[q]!).length = k := R.hk _
          have n2 : (enc dk[q + 1]!).length = k := R.hk _
          generalize enc dk[q]! = cI at S2 l1 s2 n1
          generalize enc dk[q + 1]! = cJ at S2 l2 s1 s2 n2
          clear S1
          go_wp2_with fail
          go_big_region_o
          clear l1 l2 s1 s2
          generalize (wr.drew.setCells blk (off + (q) * k) cJ).setCells blk (off + (q + 1) * k) cI = w2 at S2 ⊢
          go_wp2
          go_roundg (i - 1 - (q + 1))
          case measure => omega
          case rel => exact ⟨q + 1, swp dk q (q + 1), by first | rfl | go_num | simp, by omega, by omega, by omega, by rw [size_swp]; exact hds, by have h := HR.out; rw [HM.out] at h ⊢; exact rot_bubble_right d dk haq (by omega) h, S2⟩
        · have hltz2 : ¬ ((q : Int) < (i : Int) - 1) := by omega
          obtain rfl : i = q + 1 := by omega
          go_wp2
          go_end0
          refine ⟨rfl, dk, hds, ?_, S1.out⟩
          rw [HR.out]
          have h := HM.out
          subst h
          exact HL.out.merged hai hjb HI.out.sl HI.out.sr
end Go.Proofs.Ytknbglcmjggkjaa

/- Layer 6: symMergeCmpFunc (82): a right piece of one element. -/
namespace Go.Proofs.Ytknbglcmjggkjaa
open Go.RowKit Go.Shelf Go.Lib Go.Sort Sm
variable {α : Type} [Inhabited α] {enc : α → List Value} {k : Nat} {blk off : Nat} {d0 : Array α} {w0 : World} {lt : α → α → Prop} {cf : α → α → Int}
set_option maxRecDepth 1000000 in
set_option maxHeartbeats 8000000 in
theorem symMerge_right (o : Ord lt) (zE : ∀ w, (Go.sizeOf 83).run Try.prog w = .ok k w) (g : Nat) (cb : Array Value) (cap a m b : Nat) (d : Array α) (w : World) (R : RowK enc k w0 blk off d0) (hs : d0.size = d.size) (S : SWK enc k w0 blk off d w) (hI : SymIn lt cf d a m b) (ham1 : a + 1 < m) (hb : b = m + 1) (hsz : d.size < 4611686018427387904)
    (eg : ∀ args w, (callFunc g args).run Try.prog w = .ok (.enter g args) w) (hC : CmpLays Try.prog g cb enc k cf blk off d0.size w0) :
    Calls Try.prog 82 #[.slice (some ⟨blk, off, none⟩) d.size cap, .int .i64 a, .int .i64 m, .int .i64 b, .func (.func g) #[] cb] w (SymOut lt enc k w0 blk off d a b) := by
  have O : Aside (Ord lt) := o
  have S0 : Aside (SWK enc k w0 blk off d w) := S
  have HI : Aside (SymIn lt cf d a m b) := hI
  have HC : Aside (CmpLays Try.prog g cb enc k cf blk off d0.size w0) := hC
  obtain ⟨ham, hmb, hbd, _, _, _⟩ := hI
  clear S hC o
  have mixed : Try.prog.follows .mixedOrders = true := rfl
  have aE := Try.isAgg83
  go_enter Try.func82, Try.ntmps82
  have e1 : (b : Int) - (m : Int) = 1 := by omega
  obtain ⟨x, hx, hne⟩ : ∃ x : Int, (m : Int) - (a : Int) = x ∧ ¬ x = 1 := ⟨_, rfl, by omega⟩
  have hb1 : (x == 1) = false := by simpa using hne
  have HB : Aside (b = m + 1) := hb
  clear hb
  go_wp2
  go_loopg [14, 15] (m - a) (fun kx s14 s15 wr => ∃ (i j : Nat), s14 = .int .i64 i ∧ s15 = .int .i64 j ∧ a ≤ i ∧ i ≤ j ∧ j ≤ m ∧ j - i ≤ kx ∧ Aside (SR lt d a m i j) ∧ Aside (SWK enc k w0 blk off d wr))
  case atStart => exact ⟨a, m, rfl, rfl, by omega, by omega, by omega, by omega, SR.start, S0⟩
  case round =>
    clear S0
    obtain ⟨i, j, rfl, rfl, hai, hij, hjb, hkx, HL, S1⟩ := hrel
    by_cases hlt : i < j
    · have hltz : (i : Int) < (j : Int) := by omega
      obtain ⟨c, hc⟩ : ∃ c, c = (i + j) / 2 := ⟨_, rfl⟩
      have hic : i ≤ c := by omega
      have hcj : c < j := by omega
      have ez : ((i : Int) + (j : Int)) / 2 = (c : Int) := by omega
      have ec : ((c : Int)).toNat = c := by omega
      have pc : (0 : Int) ≤ (c : Int) := by omega
      have bc : (c : Int) < (d.size : Int) := by omega
      have rc : IntKind.i64.wrap ((c : Int)) = (c : Int) := by rw [IntKind.wrap_i64]; omega
      have ea : ((m : Int)).toNat = m := by omega
      have pa : (0 : Int) ≤ (m : Int) := by omega
      have ba : (m : Int) < (d.size : Int) := by omega
      have ra : IntKind.i64.wrap ((m : Int)) = (m : Int) := by rw [IntKind.wrap_i64]; omega
      clear hc
      obtain ⟨xv, hxv⟩ : ∃ x, x = d[m]! := ⟨_, rfl⟩
      obtain ⟨yv, hyv⟩ : ∃ x, x = d[c]! := ⟨_, rfl⟩
      have l1 := S1.out.ld R (by omega) Try.prog (m) (by omega)
      have l2 := S1.out.ld R (by omega) Try.prog (c) (by omega)
      rw [← hxv] at l1
      rw [← hyv] at l2
      have hcg := S1.out.cmp HC.out (by omega) xv yv
      have HX : Aside (xv = d[m]! ∧ yv = d[c]!) := ⟨hxv, hyv⟩
      clear hxv hyv
      by_cases hv : cf xv yv < 0
      · have hd : decide (cf xv yv < 0) = true := decide_eq_true hv
        have NX : Aside (SR lt d a m i c) := by
          have h := HX.out
          rw [h.1, h.2] at hv
          exact HL.out.down O.out HI.out.sl HI.out.cr HI.out.mb (by omega) hic hcj (by omega) hv
        go_wp2_with fail
        go_quiet_grown (first | (go_at_fn g; refine Calls.grown_of (hcg _ _)))
        have S2 : Aside (SWK enc k w0 blk off d (grow (wr.drewN nq) osq)) := S1.out.grown nq osq
        clear l1 l2 hcg S1
        generalize grow (wr.drewN nq) osq = w2 at S2 ⊢
        clear nq osq
        go_wp2
        go_roundg (c - i)
        case measure => omega
        case rel => exact ⟨i, c, rfl, rfl, by omega, by omega, by omega, by omega, NX, S2⟩
      · have hd : decide (cf xv yv < 0) = false := decide_eq_false hv
        have NX : Aside (SR lt d a m (c + 1) j) := by
          have h := HX.out
          rw [h.1, h.2] at hv
          exact HL.out.up O.out HI.out.sl HI.out.cr HI.out.mb (by omega) hic hcj (by omega) hv
        go_wp2_with fail
        go_quiet_grown (first | (go_at_fn g; refine Calls.grown_of (hcg _ _)))
        have S2 : Aside (SWK enc k w0 blk off d (grow (wr.drewN nq) osq)) := S1.out.grown nq osq
        clear l1 l2 hcg S1
        generalize grow (wr.drewN nq) osq = w2 at S2 ⊢
        clear nq osq
        go_wp2
        go_roundg (j - (c + 1))
        case measure => omega
        case rel => exact ⟨c + 1, j, by first | rfl | go_num | simp, rfl, by omega, by omega, by omega, by omega, NX, S2⟩
    · have hltz : ¬ ((i : Int) < (j : Int)) := by omega
      obtain rfl : i = j := by omega
      go_wp2
      go_loopg [17] (m - i) (fun kx s17 wr => ∃ (q : Nat) (dk : Array α), s17 = .int .i64 q ∧ i ≤ q ∧ q ≤ m ∧ q - i ≤ kx ∧ dk.size = d.size ∧ Aside (Ix dk = rot (Ix d) q m (m + 1)) ∧ Aside (SWK enc k w0 blk off dk wr))
      case atStart => exact ⟨m, d, rfl, by omega, by omega, by omega, rfl, (rot_none_left _ _ _).symm, S1⟩
      case round =>
        clear S1
        obtain ⟨q, dk, rfl, hiq, hqm, hkx2, hds, HR, S1⟩ := hrel
        by_cases hlt2 : i < q
        · have hltz2 : (i : Int) < (q : Int) := by omega
          obtain ⟨p, rfl⟩ : ∃ p, q = p + 1 := ⟨q - 1, by omega⟩
          have ed : IntKind.i64.wrap (((p + 1 : Nat) : Int) - 1) = (p : Int) := by rw [IntKind.wrap_i64]; omega
          have ea : (((p : Int) + 1 : Int)).toNat = p + 1 := by omega
          have pa : (0 : Int) ≤ ((p : Int) + 1 : Int) := by omega
          have ba : ((p : Int) + 1 : Int) < (d.size : Int) := by omega
          have ra : IntKind.i64.wrap (((p : Int) + 1 : Int)) = ((p : Int) + 1 : Int) := by rw [IntKind.wrap_i64]; omega
          have eb : (((p : Int) : Int)).toNat = p := by omega
          have pb : (0 : Int) ≤ ((p : Int) : Int) := by omega
          have bb : ((p : Int) : Int) < (d.size : Int) := by omega
          have rb : IntKind.i64.wrap (((p : Int) : Int)) = ((p : Int) : Int) := by rw [IntKind.wrap_i64]; omega
          have S2 : Aside (SWK enc k w0 blk off (swp dk (p + 1) (p)) ((wr.drew.setCells blk (off + (p + 1) * k) (enc dk[p]!)).setCells blk (off + (p) * k) (enc dk[p + 1]!))) := S1.out.swapped R (p + 1) (p) (by omega) (by omega)
          have l1 := S1.out.ld1 R (by omega) Try.prog (p + 1) (by omega)
          have l2 := S1.out.ld1 R (by omega) Try.prog (p) (by omega)
          have s1 := S1.out.st1 R (by omega) Try.prog (p + 1) (by omega) dk[p]!
          have s2 := S1.out.st2 R (by omega) Try.prog (p + 1) (p) (by omega) (by omega) dk[p]! dk[p + 1]!
          have n1 : (enc dk[p + 1]!).length = k := R.hk _
          have n2 : (enc dk[p]!).length = k := R.hk _
          generalize enc dk[p + 1]! = cI at S2 l1 s2 n1
          generalize enc dk[p]! = cJ at S2 l2 s1 s2 n2
          clear S1
          go_wp2_with fail
          go_big_region_o
          clear l1 l2 s1 s2
          generalize (wr.drew.setCells blk (off + (p + 1) * k) cJ).setCells blk (off + (p) * k) cI = w2 at S2 ⊢
          go_wp2
          go_roundg (p - i)
          case measure => omega
          case rel => exact ⟨p, swp dk (p + 1) p, by first | rfl | go_num | simp, by omega, by omega, by omega, by rw [size_swp]; exact hds, rot_bubble_left d dk (by omega) (by omega) HR.out, S2⟩
        · have hltz2 : ¬ ((i : Int) < (q : Int)) := by omega
          obtain rfl : q = i := by omega
          go_wp2
          go_end0
          refine ⟨rfl, dk, hds, ?_, S1.out⟩
          rw [HR.out]
          have h := HB.out
          subst h
          exact HL.out.merged hai (by omega) HI.out.sl HI.out.sr
end Go.Proofs.Ytknbglcmjggkjaa

/- Layer 6: symMergeCmpFunc: what lies behind the rotation, plainly. -/
namespace Go.Proofs.Ytknbglcmjggkjaa
open Go.RowKit Go.Shelf Go.Lib Go.Sort Sm
variable {α : Type} [Inhabited α] {lt : α → α → Prop} {cf : α → α → Int} {d d1 d2 d3 : Array α} {a m b s : Nat}

/-- The search of the general case. -/
def Fnd (cf : α → α → Int) (d : Array α) (a m b i j : Nat) : Prop :=
  (lo a m b < i → ¬ cf d[(a + b) / 2 + m - 1 - (i - 1)]! d[i - 1]! < 0) ∧ (j < hi a m b → cf d[(a + b) / 2 + m - 1 - j]! d[j]! < 0)
theorem Fnd.start : Fnd cf d a m b (lo a m b) (hi a m b) := ⟨fun h => by omega, fun h => by omega⟩
theorem Fnd.up {i j c : Nat} (h : Fnd cf d a m b i j) (hv : ¬ cf d[(a + b) / 2 + m - 1 - c]! d[c]! < 0) : Fnd cf d a m b (c + 1) j := ⟨fun _ => by rw [Nat.add_sub_cancel]; exact hv, h.2⟩
theorem Fnd.down {i j c : Nat} (h : Fnd cf d a m b i j) (hv : cf d[(a + b) / 2 + m - 1 - c]! d[c]! < 0) : Fnd cf d a m b i c := ⟨h.1, fun _ => hv⟩
theorem Fnd.found (h : Fnd cf d a m b s s) (h1 : lo a m b ≤ s) (h2 : s ≤ hi a m b) : Sm.Found (fun x y => cf x y < 0) (Ix d) a m b s := ⟨h1, h2, h.1, h.2⟩

/-- Behind the search, and behind the rotation. -/
structure Rotd (lt : α → α → Prop) (cf : α → α → Int) (d : Array α) (a m b s : Nat) (d1 : Array α) : Prop where
  i : SymIn lt cf d a m b
  f : Sm.Found (fun x y => cf x y < 0) (Ix d) a m b s
  sz : d1.size = d.size
  r : Ix d1 = rot (Ix d) s m (fin a m b s)
theorem Rotd.facts (h : Rotd lt cf d a m b s d1) : a ≤ s ∧ s ≤ m ∧ m ≤ fin a m b s ∧ fin a m b s ≤ b ∧ s + (fin a m b s - m) = (a + b) / 2 ∧ s ≤ (a + b) / 2 ∧ (a + b) / 2 ≤ fin a m b s := by
  have := h.f.range (Nat.le_of_lt h.i.am) (Nat.le_of_lt h.i.mb)
  have e : fin a m b s = (a + b) / 2 + m - s := rfl
  omega
theorem Rotd.pieces (h : Rotd lt cf d a m b s d1) : Srt lt (Ix d1) a s ∧ Srt lt (Ix d1) s ((a + b) / 2) ∧ Srt lt (Ix d1) ((a + b) / 2) (fin a m b s) ∧ Srt lt (Ix d1) (fin a m b s) b := by
  obtain ⟨h1, h2, h3, h4, h5, _⟩ := h.facts
  have := rot_pieces h1 h2 h3 h4 h.i.sl h.i.sr
  rw [h5, ← h.r] at this
  exact this
theorem Rotd.cross (h : Rotd lt cf d a m b s d1) : Crs lt cf d1 a s ((a + b) / 2) ∧ Crs lt cf d1 ((a + b) / 2) (fin a m b s) b := by
  obtain ⟨h1, h2, h3, h4, h5, _⟩ := h.facts
  have := rot_cross h1 h2 h3 h4 h.i.cr
  rw [h5, ← h.r] at this
  exact this
theorem Rotd.left (h : Rotd lt cf d a m b s d1) (h1 : a < s) (h2 : s < (a + b) / 2) : SymIn lt cf d1 a s ((a + b) / 2) := by
  obtain ⟨_, _, _, _, _, _, _⟩ := h.facts
  have := h.i.bd
  have := h.sz
  exact ⟨h1, h2, by omega, h.pieces.1, h.pieces.2.1, h.cross.1⟩
theorem Rotd.left_same (h : Rotd lt cf d a m b s d1) (hn : ¬ (a < s ∧ s < (a + b) / 2)) : Merged lt (Ix d1) (Ix d1) a ((a + b) / 2) := by
  obtain ⟨h1, h2, h3, h4, h5, h6, h7⟩ := h.facts
  refine Merged.same ?_
  by_cases e : a < s
  · obtain rfl : s = (a + b) / 2 := by omega
    exact h.pieces.1
  · obtain rfl : a = s := by omega
    exact h.pieces.2.1
theorem Rotd.right (h : Rotd lt cf d a m b s d1) (hm : Merged lt (Ix d1) (Ix d2) a ((a + b) / 2)) (hs : d2.size = d.size) (h1 : (a + b) / 2 < fin a m b s) (h2 : fin a m b s < b) : SymIn lt cf d2 ((a + b) / 2) (fin a m b s) b := by
  have e := h.i.bd
  have o : ∀ x, (a + b) / 2 ≤ x → Ix d2 x = Ix d1 x := fun x hx => hm.out x (.inr hx)
  refine ⟨h1, h2, by omega, h.pieces.2.2.1.congr fun i hi _ => o i hi, h.pieces.2.2.2.congr fun i hi _ => o i (by omega), fun i j hi him hj hjb => ?_⟩
  rw [o i hi, o j (by omega)]
  exact h.cross.2 i j hi him hj hjb
theorem Rotd.right_same (h : Rotd lt cf d a m b s d1) (hm : Merged lt (Ix d1) (Ix d2) a ((a + b) / 2)) (hn : ¬ ((a + b) / 2 < fin a m b s ∧ fin a m b s < b)) : Merged lt (Ix d2) (Ix d2) ((a + b) / 2) b := by
  obtain ⟨h1, h2, h3, h4, h5, h6, h7⟩ := h.facts
  have o : ∀ x, (a + b) / 2 ≤ x → Ix d2 x = Ix d1 x := fun x hx => hm.out x (.inr hx)
  refine Merged.same (Srt.congr (d := Ix d1) ?_ fun i hi _ => o i hi)
  by_cases e : (a + b) / 2 < fin a m b s
  · have e2 : fin a m b s = b := by omega
    have := h.pieces.2.2.1
    rw [e2] at this
    exact this
  · have e2 : (a + b) / 2 = fin a m b s := by omega
    have := h.pieces.2.2.2
    rw [← e2] at this
    exact this
theorem Rotd.done (o : Ord lt) (h : Rotd lt cf d a m b s d1) (m2 : Merged lt (Ix d1) (Ix d2) a ((a + b) / 2)) (m3 : Merged lt (Ix d2) (Ix d3) ((a + b) / 2) b) : Merged lt (Ix d) (Ix d3) a b := by
  obtain ⟨h1, h2, h3, h4, h5, h6, h7⟩ := h.facts
  have l := h.f.leftLt o (Nat.le_of_lt h.i.am) (Nat.le_of_lt h.i.mb) h.i.sl h.i.sr h.i.cr
  have r := h.f.rightLt o (Nat.le_of_lt h.i.am) (Nat.le_of_lt h.i.mb) h.i.sl h.i.sr h.i.cr
  refine merge_step (s := s) (m := m) (e := fin a m b s) h1 h2 h3 h4 h.i.sl h.i.sr l r ?_ ?_ (d2 := Ix d2)
  · rw [h5, ← h.r]; exact m2
  · rw [h5]; exact m3
/-- No rotation where a piece is empty. -/
theorem Rotd.none (i : SymIn lt cf d a m b) (f : Sm.Found (fun x y => cf x y < 0) (Ix d) a m b s) (h : ¬ (s < m ∧ m < fin a m b s)) : Rotd lt cf d a m b s d := by
  refine ⟨i, f, rfl, ?_⟩
  have := f.range (Nat.le_of_lt i.am) (Nat.le_of_lt i.mb)
  by_cases e : s < m
  · have e2 : fin a m b s = m := by omega
    rw [e2, rot_none_right]
  · obtain rfl : s = m := by omega
    rw [rot_none_left]
end Go.Proofs.Ytknbglcmjggkjaa

/- Layer 6: symMergeCmpFunc (82): the general case. -/
namespace Go.Proofs.Ytknbglcmjggkjaa
open Go.RowKit Go.Shelf Go.Lib Go.Sort Sm
variable {α : Type} [Inhabited α] {enc : α → List Value} {k : Nat} {blk off : Nat} {d0 : Array α} {w0 : World} {lt : α → α → Prop} {cf : α → α → Int}
set_option maxRecDepth 1000000 in
set_option maxHeartbeats 60000000 in
theorem symMerge_rest (o : Ord lt) (zE : ∀ w, (Go.sizeOf 83).run Try.prog w = .ok k w) (g : Nat) (cb : Array Value) (cap a m b : Nat) (d : Array α) (w : World) (R : RowK enc k w0 blk off d0) (hs : d0.size = d.size) (S : SWK enc k w0 blk off d w) (hI : SymIn lt cf d a m b) (hma : a + 1 < m) (hmb1 : m + 1 < b) (hsz : d.size < 4611686018427387904)
    (eg : ∀ args w, (callFunc g args).run Try.prog w = .ok (.enter g args) w) (hC : CmpLays Try.prog g cb enc k cf blk off d0.size w0)
    (IH : ∀ (a' m' b' : Nat) (dk : Array α) (wr : World), b' - a' < b - a → dk.size = d.size → SWK enc k w0 blk off dk wr → SymIn lt cf dk a' m' b' →
      Calls Try.prog 82 #[.slice (some ⟨blk, off, none⟩) d.size cap, .int .i64 a', .int .i64 m', .int .i64 b', .func (.func g) #[] cb] wr (SymOut lt enc k w0 blk off dk a' b')) :
    Calls Try.prog 82 #[.slice (some ⟨blk, off, none⟩) d.size cap, .int .i64 a, .int .i64 m, .int .i64 b, .func (.func g) #[] cb] w (SymOut lt enc k w0 blk off d a b) := by
  have O : Aside (Ord lt) := o
  have S0 : Aside (SWK enc k w0 blk off d w) := S
  have HI : Aside (SymIn lt cf d a m b) := hI
  have HC : Aside (CmpLays Try.prog g cb enc k cf blk off d0.size w0) := hC
  obtain ⟨ham, hmb, hbd, _, _, _⟩ := hI
  clear S hC o
  have C82 : Aside (∀ (a' m' b' : Nat) (dk : Array α) (wr : World), b' - a' < b - a → dk.size = d.size → SWK enc k w0 blk off dk wr → SymIn lt cf dk a' m' b' →
      Calls Try.prog 82 #[.slice (some ⟨blk, off, none⟩) d.size cap, .int .i64 a', .int .i64 m', .int .i64 b', .func (.func g) #[] cb] wr (SymOut lt enc k w0 blk off dk a' b')) := IH
  have C87 : Aside (∀ (a' m' b' : Nat) (wr : World), SWK enc k w0 blk off d wr → a' < m' → m' < b' → b' ≤ d.size →
      Calls Try.prog 87 #[.slice (some ⟨blk, off, none⟩) d.size cap, .int .i64 a', .int .i64 m', .int .i64 b', .func (.func g) #[] cb] wr fun e w' => e = .returned (.tuple #[]) ∧ ∃ d', d'.size = d.size ∧ Ix d' = rot (Ix d) a' m' b' ∧ SWK enc k w0 blk off d' w') :=
    fun a' m' b' wr h1 h2 h3 h4 => rotate_any zE g cb cap a' m' b' d wr R hs h1 h2 h3 h4 hsz
  clear IH
  obtain ⟨x, hx, hne⟩ : ∃ x : Int, (m : Int) - (a : Int) = x ∧ ¬ x = 1 := ⟨_, rfl, by omega⟩
  have hb1 : (x == 1) = false := by simpa using hne
  obtain ⟨y, hy, hney⟩ : ∃ x : Int, (b : Int) - (m : Int) = x ∧ ¬ x = 1 := ⟨_, rfl, by omega⟩
  have hb2 : (y == 1) = false := by simpa using hney
  obtain ⟨c0, hc0⟩ : ∃ c, c = (a + b) / 2 := ⟨_, rfl⟩
  have ez0 : ((a : Int) + (b : Int)) / 2 = (c0 : Int) := by omega
  have HC0 : Aside (c0 = (a + b) / 2) := hc0
  have hlh := lo_hi (Nat.le_of_lt ham) (Nat.le_of_lt hmb)
  obtain ⟨l, hl⟩ : ∃ l, l = lo a m b := ⟨_, rfl⟩
  obtain ⟨h, hh⟩ : ∃ h, h = hi a m b := ⟨_, rfl⟩
  rw [← hl, ← hh] at hlh
  obtain ⟨hal, hlh, hhm⟩ := hlh
  have LH : Aside ((l : Int) = (if c0 < m then (c0 : Int) + (m : Int) - (b : Int) else (a : Int)) ∧ (h : Int) = (if c0 < m then (c0 : Int) else (m : Int))) := by
    rw [hl, hh, hc0]
    unfold lo hi
    constructor
    · by_cases hq : (a + b) / 2 < m
      · rw [if_pos hq, if_pos hq]; omega
      · rw [if_neg hq, if_neg hq]
    · by_cases hq : (a + b) / 2 < m
      · rw [if_pos hq, if_pos hq]
      · rw [if_neg hq, if_neg hq]
  have hc0a : a ≤ c0 := by omega
  have hc0b : c0 < b := by omega
  have LO : Aside (l = lo a m b ∧ h = hi a m b) := ⟨hl, hh⟩
  clear hc0 hl hh
  have mixed : Try.prog.follows .mixedOrders = true := rfl
  have aE := Try.isAgg83
  go_enter Try.func82, Try.ntmps82
  go_upto_if 140 with fail
  go_cut [20, 21] from 138 (fun s20 s21 wc => s20 = .int .i64 (l : Int) ∧ s21 = .int .i64 (h : Int) ∧ Aside (SWK enc k w0 blk off d wc))
  case first =>
    have q := LH.out
    by_cases hm : c0 < m
    · have hmz : (c0 : Int) < (m : Int) := by omega
      rw [if_pos hm, if_pos hm] at q
      have Q1 : Aside _ := q
      clear q
      go_wp2_with fail
      go_meet
      case rel => exact ⟨by rw [Q1.out.1], by rw [Q1.out.2], S0⟩
    · have hmz : ¬ ((c0 : Int) < (m : Int)) := by omega
      rw [if_neg hm, if_neg hm] at q
      have Q1 : Aside _ := q
      clear q
      go_wp2_with fail
      go_meet
      case rel => exact ⟨by rw [Q1.out.1], by rw [Q1.out.2], S0⟩
  case rest =>
    clear S0 LH
    obtain ⟨rfl, rfl, S0⟩ := hcut
    go_wp2
    go_loopg [20, 21] (h - l) (fun kx s20 s21 wr => ∃ (i j : Nat), s20 = .int .i64 i ∧ s21 = .int .i64 j ∧ l ≤ i ∧ i ≤ j ∧ j ≤ h ∧ j - i ≤ kx ∧ Aside (Fnd cf d a m b i j) ∧ Aside (SWK enc k w0 blk off d wr))
    case atStart => exact ⟨l, h, rfl, rfl, by omega, by omega, by omega, by omega, by rw [LO.out.1, LO.out.2]; exact Fnd.start, S0⟩
    case round =>
      clear S0
      obtain ⟨i, j, rfl, rfl, hli, hij, hjh, hkx, HL, S1⟩ := hrel
      by_cases hlt : i < j
      · have hltz : (i : Int) < (j : Int) := by omega
        obtain ⟨c, hc⟩ : ∃ c, c = (i + j) / 2 := ⟨_, rfl⟩
        have hic : i ≤ c := by omega
        have hcj : c < j := by omega
        have ez : ((i : Int) + (j : Int)) / 2 = (c : Int) := by omega
        have ec : ((c : Int)).toNat = c := by omega
        have pc : (0 : Int) ≤ (c : Int) := by omega
        have bc : (c : Int) < (d.size : Int) := by omega
        have rc : IntKind.i64.wrap ((c : Int)) = (c : Int) := by rw [IntKind.wrap_i64]; omega
        obtain ⟨q, hq⟩ : ∃ q, q = c0 + m - 1 - c := ⟨_, rfl⟩
        have hcr := mirror (a := a) (m := m) (b := b) (c := c) (by omega) (by rw [← LO.out.1]; omega) (by rw [← LO.out.2]; omega)
        rw [← HC0.out, ← hq] at hcr
        obtain ⟨_, hcm, hmq, hqb⟩ := hcr
        have eq0 : (c0 : Int) + (m : Int) - 1 - (c : Int) = (q : Int) := by omega
        have HQ : Aside (q = (a + b) / 2 + m - 1 - c) := by rw [← HC0.out]; exact hq
        clear hq
        have ea : ((q : Int)).toNat = q := by omega
        have pa : (0 : Int) ≤ (q : Int) := by omega
        have ba : (q : Int) < (d.size : Int) := by omega
        have ra : IntKind.i64.wrap ((q : Int)) = (q : Int) := by rw [IntKind.wrap_i64]; omega
        clear hc
        obtain ⟨xv, hxv⟩ : ∃ x, x = d[q]! := ⟨_, rfl⟩
        obtain ⟨yv, hyv⟩ : ∃ x, x = d[c]! := ⟨_, rfl⟩
        have l1 := S1.out.ld R (by omega) Try.prog (q) (by omega)
        have l2 := S1.out.ld R (by omega) Try.prog (c) (by omega)
        rw [← hxv] at l1
        rw [← hyv] at l2
        have hcg := S1.out.cmp HC.out (by omega) xv yv
        have HX : Aside (xv = d[q]! ∧ yv = d[c]!) := ⟨hxv, hyv⟩
        clear hxv hyv
        by_cases hv : cf xv yv < 0
        · have hd : decide (cf xv yv < 0) = true := decide_eq_true hv
          have NX : Aside (Fnd cf d a m b i c) := by
            have h := HX.out
            rw [h.1, h.2, HQ.out] at hv
            exact HL.out.down hv
          go_wp2_with fail
          go_quiet_grown (first | (go_at_fn g; refine Calls.grown_of (hcg _ _)))
          have S2 : Aside (SWK enc k w0 blk off d (grow (wr.drewN nq) osq)) := S1.out.grown nq osq
          clear l1 l2 hcg S1
          generalize grow (wr.drewN nq) osq = w2 at S2 ⊢
          clear nq osq
          go_wp2
          go_roundg (c - i)
          case measure => omega
          case rel => exact ⟨i, c, rfl, rfl, by omega, by omega, by omega, by omega, NX, S2⟩
        · have hd : decide (cf xv yv < 0) = false := decide_eq_false hv
          have NX : Aside (Fnd cf d a m b (c + 1) j) := by
            have h := HX.out
            rw [h.1, h.2, HQ.out] at hv
            exact HL.out.up hv
          go_wp2_with fail
          go_quiet_grown (first | (go_at_fn g; refine Calls.grown_of (hcg _ _)))
          have S2 : Aside (SWK enc k w0 blk off d (grow (wr.drewN nq) osq)) := S1.out.grown nq osq
          clear l1 l2 hcg S1
          generalize grow (wr.drewN nq) osq = w2 at S2 ⊢
          clear nq osq
          go_wp2
          go_roundg (j - (c + 1))
          case measure => omega
          case rel => exact ⟨c + 1, j, by first | rfl | go_num | simp, rfl, by omega, by omega, by omega, by omega, NX, S2⟩
      · have hltz : ¬ ((i : Int) < (j : Int)) := by omega
        obtain rfl : i = j := by omega
        have HF : Aside (Sm.Found (fun x y => cf x y < 0) (Ix d) a m b i) := HL.out.found (by rw [← LO.out.1]; omega) (by rw [← LO.out.2]; omega)
        clear HL
        have hrg := HF.out.range (Nat.le_of_lt ham) (Nat.le_of_lt hmb)
        obtain ⟨e, he⟩ : ∃ e, e = fin a m b i := ⟨_, rfl⟩
        rw [← he] at hrg
        have hee : (c0 : Int) + (m : Int) - (i : Int) = (e : Int) := by
          have h1 : fin a m b i = (a + b) / 2 + m - i := rfl
          have h2 := HC0.out
          omega
        have HE : Aside (e = fin a m b i) := he
        clear he
        obtain ⟨hai, him, hme, heb⟩ := hrg
        by_cases q1 : i < m
        · by_cases q2 : m < e
          · by_cases q3 : a < i
            · by_cases q4 : e < b
              · skip
                have z1 : (i : Int) < (m : Int) := by omega
                have z2 : (m : Int) < (e : Int) := by omega
                have z3 : (i : Int) < (c0 : Int) := by omega
                have z4 : (c0 : Int) < (e : Int) := by omega
                have z5 : (a : Int) < (i : Int) := by omega
                have z6 : (e : Int) < (b : Int) := by omega
                have c1 := C87.out i m e wr S1.out (by omega) (by omega) (by omega)
                clear S1
                go_upto_if 199 with (go_at_call 87; refine c1.mono ?_; rintro e1 w1 ⟨rfl, d1, hs1, hr1, hw1⟩)
                have S2 : Aside (SWK enc k w0 blk off d1 w1) := hw1
                have RT : Aside (Rotd lt cf d a m b i d1) := ⟨HI.out, HF.out, hs1, by rw [← HE.out]; exact hr1⟩
                clear hw1 hs1 hr1
                have c2 := C82.out a i c0 d1 _ (by omega) RT.out.sz S2.out (by have h := RT.out.left (by omega) (by rw [← HC0.out]; omega); rw [← HC0.out] at h; exact h)
                have c3 : Aside (∀ (d2 : Array α) (w2 : World), d2.size = d1.size → Merged lt (Ix d1) (Ix d2) a c0 → SWK enc k w0 blk off d2 w2 → Calls Try.prog 82 #[.slice (some ⟨blk, off, none⟩) d.size cap, .int .i64 c0, .int .i64 e, .int .i64 b, .func (.func g) #[] cb] w2 (SymOut lt enc k w0 blk off d2 c0 b)) :=
                  fun d2 w2 q1 q2 q3 => C82.out c0 e b d2 w2 (by omega) (q1.trans RT.out.sz) q3 (by have h := RT.out.right (by rw [← HC0.out]; exact q2) (q1.trans RT.out.sz) (by rw [← HC0.out, ← HE.out]; omega) (by rw [← HE.out]; omega); rw [← HC0.out, ← HE.out] at h; exact h)
                clear C82 C87 HF
                go_wp2_with (go_at_call 82; first | ((with_reducible refine c2.mono ?_); rintro e2 w2 ⟨rfl, d2, hs2, hm2, hw2⟩) | ((with_reducible refine (c3.out d2 w2 hs2 hm2 hw2).mono ?_); rintro e3 w3 ⟨rfl, d3, hs3, hm3, hw3⟩) | fail)
                go_end0
                exact ⟨rfl, d3, by rw [hs3, hs2, RT.out.sz], RT.out.done O.out (by rw [← HC0.out]; exact hm2) (by rw [← HC0.out]; exact hm3), hw3⟩
              · skip
                have z1 : (i : Int) < (m : Int) := by omega
                have z2 : (m : Int) < (e : Int) := by omega
                have z3 : (i : Int) < (c0 : Int) := by omega
                have z4 : (c0 : Int) < (e : Int) := by omega
                have z5 : (a : Int) < (i : Int) := by omega
                have z6 : ¬ (e : Int) < (b : Int) := by omega
                have c1 := C87.out i m e wr S1.out (by omega) (by omega) (by omega)
                clear S1
                go_upto_if 199 with (go_at_call 87; refine c1.mono ?_; rintro e1 w1 ⟨rfl, d1, hs1, hr1, hw1⟩)
                have S2 : Aside (SWK enc k w0 blk off d1 w1) := hw1
                have RT : Aside (Rotd lt cf d a m b i d1) := ⟨HI.out, HF.out, hs1, by rw [← HE.out]; exact hr1⟩
                clear hw1 hs1 hr1
                have c2 := C82.out a i c0 d1 _ (by omega) RT.out.sz S2.out (by have h := RT.out.left (by omega) (by rw [← HC0.out]; omega); rw [← HC0.out] at h; exact h)
                clear C82 C87 HF
                go_wp2_with (go_at_call 82; refine c2.mono ?_; rintro e2 w2 ⟨rfl, d2, hs2, hm2, hw2⟩)
                go_end0
                exact ⟨rfl, d2, by rw [hs2, RT.out.sz], RT.out.done O.out (by rw [← HC0.out]; exact hm2) (RT.out.right_same (by rw [← HC0.out]; exact hm2) (by rw [← HC0.out, ← HE.out]; omega)), hw2⟩
            · by_cases q4 : e < b
              · skip
                have z1 : (i : Int) < (m : Int) := by omega
                have z2 : (m : Int) < (e : Int) := by omega
                have z3 : (i : Int) < (c0 : Int) := by omega
                have z4 : (c0 : Int) < (e : Int) := by omega
                have z5 : ¬ (a : Int) < (i : Int) := by omega
                have z6 : (e : Int) < (b : Int) := by omega
                have c1 := C87.out i m e wr S1.out (by omega) (by omega) (by omega)
                clear S1
                go_upto_if 199 with (go_at_call 87; refine c1.mono ?_; rintro e1 w1 ⟨rfl, d1, hs1, hr1, hw1⟩)
                have S2 : Aside (SWK enc k w0 blk off d1 w1) := hw1
                have RT : Aside (Rotd lt cf d a m b i d1) := ⟨HI.out, HF.out, hs1, by rw [← HE.out]; exact hr1⟩
                clear hw1 hs1 hr1
                have M2 : Aside (Merged lt (Ix d1) (Ix d1) a c0) := by have h := RT.out.left_same (by rw [← HC0.out]; omega); rw [← HC0.out] at h; exact h
                have c3 := C82.out c0 e b d1 _ (by omega) RT.out.sz S2.out (by have h := RT.out.right (by rw [← HC0.out]; exact M2.out) RT.out.sz (by rw [← HC0.out, ← HE.out]; omega) (by rw [← HE.out]; omega); rw [← HC0.out, ← HE.out] at h; exact h)
                clear C82 C87 HF
                go_wp2_with (go_at_call 82; refine c3.mono ?_; rintro e3 w3 ⟨rfl, d3, hs3, hm3, hw3⟩)
                go_end0
                exact ⟨rfl, d3, by rw [hs3, RT.out.sz], RT.out.done O.out (by rw [← HC0.out]; exact M2.out) (by rw [← HC0.out]; exact hm3), hw3⟩
              · skip
                have z1 : (i : Int) < (m : Int) := by omega
                have z2 : (m : Int) < (e : Int) := by omega
                have z3 : (i : Int) < (c0 : Int) := by omega
                have z4 : (c0 : Int) < (e : Int) := by omega
                have z5 : ¬ (a : Int) < (i : Int) := by omega
                have z6 : ¬ (e : Int) < (b : Int) := by omega
                have c1 := C87.out i m e wr S1.out (by omega) (by omega) (by omega)
                clear S1
                go_upto_if 199 with (go_at_call 87; refine c1.mono ?_; rintro e1 w1 ⟨rfl, d1, hs1, hr1, hw1⟩)
                have S2 : Aside (SWK enc k w0 blk off d1 w1) := hw1
                have RT : Aside (Rotd lt cf d a m b i d1) := ⟨HI.out, HF.out, hs1, by rw [← HE.out]; exact hr1⟩
                clear hw1 hs1 hr1
                have M2 : Aside (Merged lt (Ix d1) (Ix d1) a c0) := by have h := RT.out.left_same (by rw [← HC0.out]; omega); rw [← HC0.out] at h; exact h
                clear C82 C87 HF
                go_wp2
                go_end0
                exact ⟨rfl, d1, RT.out.sz, RT.out.done O.out (by rw [← HC0.out]; exact M2.out) (RT.out.right_same (by rw [← HC0.out]; exact M2.out) (by rw [← HC0.out, ← HE.out]; omega)), S2.out⟩
          · by_cases q3 : a < i
            · skip
              have z1 : (i : Int) < (m : Int) := by omega
              have z2 : ¬ (m : Int) < (e : Int) := by omega
              have z3 : ¬ (i : Int) < (c0 : Int) := by omega
              have z4 : (c0 : Int) < (e : Int) := by omega
              have z6 : (e : Int) < (b : Int) := by omega
              have z5 : (a : Int) < (i : Int) := by omega
              have RT : Aside (Rotd lt cf d a m b i d) := Rotd.none HI.out HF.out (by rw [← HE.out]; omega)
              have M2 : Aside (Merged lt (Ix d) (Ix d) a c0) := by have h := RT.out.left_same (by rw [← HC0.out]; omega); rw [← HC0.out] at h; exact h
              have c3 := C82.out c0 e b d _ (by omega) RT.out.sz S1.out (by have h := RT.out.right (by rw [← HC0.out]; exact M2.out) RT.out.sz (by rw [← HC0.out, ← HE.out]; omega) (by rw [← HE.out]; omega); rw [← HC0.out, ← HE.out] at h; exact h)
              clear C82 C87 HF
              go_wp2_with (go_at_call 82; refine c3.mono ?_; rintro e3 w3 ⟨rfl, d3, hs3, hm3, hw3⟩)
              go_end0
              exact ⟨rfl, d3, by rw [hs3, RT.out.sz], RT.out.done O.out (by rw [← HC0.out]; exact M2.out) (by rw [← HC0.out]; exact hm3), hw3⟩
            · skip
              have z1 : (i : Int) < (m : Int) := by omega
              have z2 : ¬ (m : Int) < (e : Int) := by omega
              have z3 : ¬ (i : Int) < (c0 : Int) := by omega
              have z4 : (c0 : Int) < (e : Int) := by omega
              have z6 : (e : Int) < (b : Int) := by omega
              have z5 : ¬ (a : Int) < (i : Int) := by omega
              have RT : Aside (Rotd lt cf d a m b i d) := Rotd.none HI.out HF.out (by rw [← HE.out]; omega)
              have M2 : Aside (Merged lt (Ix d) (Ix d) a c0) := by have h := RT.out.left_same (by rw [← HC0.out]; omega); rw [← HC0.out] at h; exact h
              have c3 := C82.out c0 e b d _ (by omega) RT.out.sz S1.out (by have h := RT.out.right (by rw [← HC0.out]; exact M2.out) RT.out.sz (by rw [← HC0.out, ← HE.out]; omega) (by rw [← HE.out]; omega); rw [← HC0.out, ← HE.out] at h; exact h)
              clear C82 C87 HF
              go_wp2_with (go_at_call 82; refine c3.mono ?_; rintro e3 w3 ⟨rfl, d3, hs3, hm3, hw3⟩)
              go_end0
              exact ⟨rfl, d3, by rw [hs3, RT.out.sz], RT.out.done O.out (by rw [← HC0.out]; exact M2.out) (by rw [← HC0.out]; exact hm3), hw3⟩
        · by_cases q3 : i < c0
          · skip
            have z1 : ¬ (i : Int) < (m : Int) := by omega
            have z4 : ¬ (c0 : Int) < (e : Int) := by omega
            have z5 : (a : Int) < (i : Int) := by omega
            have z3 : (i : Int) < (c0 : Int) := by omega
            have RT : Aside (Rotd lt cf d a m b i d) := Rotd.none HI.out HF.out (by rw [← HE.out]; omega)
            have c2 := C82.out a i c0 d _ (by omega) RT.out.sz S1.out (by have h := RT.out.left (by omega) (by rw [← HC0.out]; omega); rw [← HC0.out] at h; exact h)
            clear C82 C87 HF
            go_wp2_with (go_at_call 82; refine c2.mono ?_; rintro e2 w2 ⟨rfl, d2, hs2, hm2, hw2⟩)
            go_end0
            exact ⟨rfl, d2, by rw [hs2, RT.out.sz], RT.out.done O.out (by rw [← HC0.out]; exact hm2) (RT.out.right_same (by rw [← HC0.out]; exact hm2) (by rw [← HC0.out, ← HE.out]; omega)), hw2⟩
          · skip
            have z1 : ¬ (i : Int) < (m : Int) := by omega
            have z4 : ¬ (c0 : Int) < (e : Int) := by omega
            have z5 : (a : Int) < (i : Int) := by omega
            have z3 : ¬ (i : Int) < (c0 : Int) := by omega
            have RT : Aside (Rotd lt cf d a m b i d) := Rotd.none HI.out HF.out (by rw [← HE.out]; omega)
            have M2 : Aside (Merged lt (Ix d) (Ix d) a c0) := by have h := RT.out.left_same (by rw [← HC0.out]; omega); rw [← HC0.out] at h; exact h
            clear C82 C87 HF
            go_wp2
            go_end0
            exact ⟨rfl, d, RT.out.sz, RT.out.done O.out (by rw [← HC0.out]; exact M2.out) (RT.out.right_same (by rw [← HC0.out]; exact M2.out) (by rw [← HC0.out, ← HE.out]; omega)), S1.out⟩
end Go.Proofs.Ytknbglcmjggkjaa

/- Layer 6: symMergeCmpFunc (82), whole. -/
namespace Go.Proofs.Ytknbglcmjggkjaa
open Go.RowKit Go.Shelf Go.Lib Go.Sort Sm
variable {α : Type} [Inhabited α] {enc : α → List Value} {k : Nat} {blk off : Nat} {d0 : Array α} {w0 : World} {lt : α → α → Prop} {cf : α → α → Int}
theorem symMerge_any (o : Ord lt) (zE : ∀ w, (Go.sizeOf 83).run Try.prog w = .ok k w) (g : Nat) (cb : Array Value) (cap : Nat) (R : RowK enc k w0 blk off d0) (hsz : d0.size < 4611686018427387904)
    (eg : ∀ args w, (callFunc g args).run Try.prog w = .ok (.enter g args) w) (hC : CmpLays Try.prog g cb enc k cf blk off d0.size w0) :
    ∀ (N a m b : Nat) (d : Array α) (w : World), b - a < N → d.size = d0.size → SWK enc k w0 blk off d w → SymIn lt cf d a m b →
    Calls Try.prog 82 #[.slice (some ⟨blk, off, none⟩) d0.size cap, .int .i64 a, .int .i64 m, .int .i64 b, .func (.func g) #[] cb] w (SymOut lt enc k w0 blk off d a b) := by
  intro N
  induction N with
  | zero => intro a m b d w h; exact absurd h (Nat.not_lt_zero _)
  | succ N ih =>
    intro a m b d w hN hs S hI
    have h1 := hI.am
    have h2 := hI.mb
    rw [← hs] at ih hsz ⊢
    by_cases e1 : m = a + 1
    · exact symMerge_left o zE g cb cap a m b d w R hs.symm S hI e1 hsz eg hC
    · by_cases e2 : b = m + 1
      · exact symMerge_right o zE g cb cap a m b d w R hs.symm S hI (by omega) e2 hsz eg hC
      · exact symMerge_rest o zE g cb cap a m b d w R hs.symm S hI (by omega) (by omega) hsz eg hC
          fun a' m' b' dk wr h1 h2 h3 h4 => ih a' m' b' dk wr (by omega) h2 h3 h4
end Go.Proofs.Ytknbglcmjggkjaa

/- Layer 6: insertionSortCmpFunc (81), stable: by the shelf's contract. -/
namespace Go.Proofs.Ytknbglcmjggkjaa
open Go.RowKit Go.Shelf Go.Lib Go.Sort Sm
variable {α : Type} [Inhabited α] {enc : α → List Value} {k : Nat} {blk off : Nat} {d0 : Array α} {w0 : World} {lt : α → α → Prop} {cf : α → α → Int}

/-- Every element against every earlier one. -/
def Tot (lt : α → α → Prop) (cf : α → α → Int) (d : Array α) (a b : Nat) : Prop := ∀ i j, a ≤ i → i < j → j < b → (cf (Ix d j) (Ix d i) < 0 ↔ lt (Ix d j) (Ix d i)) ∧ (¬ lt (Ix d j) (Ix d i) → lt (Ix d i) (Ix d j))
/-- The inner loop: one element goes down to its place. -/
theorem insInner_rot (o : Ord lt) {dk : Array α} {a i : Nat} (hi : i < dk.size) (sl : Srt lt (Ix dk) a i) (hc : Crs lt cf dk a i (i + 1)) :
    ∀ (n j : Nat) (dj : Array α), j - a = n → a ≤ j → j ≤ i → dj.size = dk.size → Ix dj = rot (Ix dk) j i (i + 1) → (∀ x, j ≤ x → x < i → lt (Ix dk i) (Ix dk x)) →
      (insInner (ltOf cf) a j dj).size = dk.size ∧ Merged lt (Ix dk) (Ix (insInner (ltOf cf) a j dj)) a (i + 1)
  | 0, j, dj, hn, haj, hji, hs, hr, hx => by
    obtain rfl : j = a := by omega
    rw [insInner_stop _ _ _ _ (.inl (Nat.le_refl _)), hr]
    exact ⟨hs, SR.merged ⟨fun x h h' => by omega, hx⟩ (Nat.le_refl _) hji sl fun x y h1 h2 h3 => by omega⟩
  | n + 1, j, dj, hn, haj, hji, hs, hr, hx => by
    obtain ⟨p, rfl⟩ : ∃ p, j = p + 1 := ⟨j - 1, by omega⟩
    have e1 : dj[p + 1]! = Ix dk i := by
      have := congrFun hr (p + 1)
      unfold rot at this
      rw [if_pos (by omega), if_pos (by omega)] at this
      rw [show p + 1 + (i - (p + 1)) = i by omega] at this
      exact this
    have e2 : dj[p]! = Ix dk p := by
      have := congrFun hr p
      unfold rot at this
      rw [if_neg (by omega)] at this
      exact this
    have hcp := hc p i (by omega) (by omega) (Nat.le_refl _) (by omega)
    by_cases hv : cf (Ix dk i) (Ix dk p) < 0
    · have hgo := insInner_go (lt := ltOf cf) a (p + 1) dj (by omega) (by rw [Nat.add_sub_cancel, e1, e2]; exact decide_eq_true hv)
      rw [Nat.add_sub_cancel] at hgo
      rw [hgo]
      refine insInner_rot o hi sl hc n p _ (by omega) (by omega) (by omega) (by rw [size_swp]; exact hs) (rot_bubble_left dk dj (by omega) (by omega) hr) fun x h1 h2 => ?_
      by_cases e : x = p
      · subst e; exact hcp.1.1 hv
      · exact hx x (by omega) h2
    · rw [insInner_stop _ _ _ _ (.inr (by rw [Nat.add_sub_cancel, e1, e2]; exact decide_eq_false hv)), hr]
      refine ⟨hs, SR.merged ⟨fun x h1 h2 => ?_, hx⟩ (by omega) hji sl fun x y h1 h2 h3 => by omega⟩
      have hl : lt (Ix dk p) (Ix dk i) := hcp.2 fun g => hv (hcp.1.2 g)
      by_cases e : x = p
      · subst e; exact hl
      · exact o.trans (sl x p h1 (by omega) (by omega)) hl
omit [Inhabited α] in
theorem seg_snoc (d : Nat → α) {a i : Nat} (h : a ≤ i) : seg d a (i + 1) = seg d a i ++ [d i] := by
  rw [seg_app d h (Nat.le_succ i)]
  congr 1
  unfold seg
  rw [show i + 1 - i = 1 by omega]
  rfl
theorem insOuter_merged (o : Ord lt) {d : Array α} {a b : Nat} (hb : b ≤ d.size) (hT : Tot lt cf d a b) :
    ∀ (n i : Nat) (dk : Array α), b - i = n → a ≤ i → i ≤ b → dk.size = d.size → Merged lt (Ix d) (Ix dk) a i → (insOuter (ltOf cf) a b i dk).size = d.size ∧ Merged lt (Ix d) (Ix (insOuter (ltOf cf) a b i dk)) a b
  | 0, i, dk, hn, hai, hib, hs, hm => by
    obtain rfl : i = b := by omega
    rw [insOuter_stop _ _ _ _ _ (by omega)]
    exact ⟨hs, hm⟩
  | n + 1, i, dk, hn, hai, hib, hs, hm => by
    rw [insOuter_go _ _ _ _ _ (by omega)]
    have hi : Ix dk i = Ix d i := hm.out i (.inr (Nat.le_refl _))
    have hc : Crs lt cf dk a i (i + 1) := fun x j hx hxi hj hj2 => by
      obtain rfl : j = i := by omega
      obtain ⟨q, h1, h2, h3⟩ := seg_mem (hm.perm.subset (mem_seg (Ix dk) hx hxi))
      rw [hi, ← h3]
      exact hT q j h1 h2 (by omega)
    obtain ⟨s1, m1⟩ := insInner_rot o (by omega) hm.srt hc (i - a) i dk rfl hai (Nat.le_refl _) rfl (rot_none_left _ _ _).symm fun x h1 h2 => by omega
    refine insOuter_merged o hb hT n (i + 1) _ (by omega) (by omega) (by omega) (by rw [s1, hs]) ⟨fun x hx => ?_, m1.srt, ?_⟩
    · rw [m1.out x hx, hm.out x (by omega)]
    · refine m1.perm.trans ?_
      rw [seg_snoc _ hai, seg_snoc _ hai, hi]
      exact hm.perm.append_right _
theorem insertionSort_merged (o : Ord lt) {d : Array α} {a b : Nat} (hab : a ≤ b) (hb : b ≤ d.size) (hT : Tot lt cf d a b) : (insertionSort (ltOf cf) d a b).size = d.size ∧ Merged lt (Ix d) (Ix (insertionSort (ltOf cf) d a b)) a b := by
  unfold insertionSort
  by_cases h : a < b
  · exact insOuter_merged o hb hT (b - (a + 1)) (a + 1) d rfl (by omega) (by omega) rfl (Merged.same fun i j h1 h2 h3 => by omega)
  · rw [insOuter_stop _ _ _ _ _ (by omega)]
    exact ⟨rfl, Merged.same fun i j h1 h2 h3 => by omega⟩
def insRen : Go.Shelf.Ren := ⟨fun | 20 => 81 | n => n, fun | 22 => 81 | 24 => 83 | 25 => 85 | n => n, fun | n => n⟩
theorem insLay : SlLaysF0.n20 Try.prog insRen := {
  mixed := by kernel_rfl
  f20 := ⟨Try.f81.name, by kernel_rfl, Try.func81.trans (congrArg some (by kernel_rfl))⟩
  t0 := Try.underlying0
  a0 := Try.isAgg0
  z0 := Try.sizeOf0
  v0 := Try.zeroValue0
  t3 := Try.underlying3
  a3 := Try.isAgg3
  z3 := Try.sizeOf3
  v3 := Try.zeroValue3
  t4 := Try.underlying4
  a4 := Try.isAgg4
  z4 := Try.sizeOf4
  v4 := Try.zeroValue4
  t22 := Try.underlying81
  a22 := Try.isAgg81
  z22 := Try.sizeOf81
  v22 := Try.zeroValue81
  t25 := Try.underlying85
  a25 := Try.isAgg85
  z25 := Try.sizeOf85
  v25 := Try.zeroValue85 }
theorem insertion_any (o : Ord lt) (zE : ∀ w, (Go.sizeOf 83).run Try.prog w = .ok k w) (g : Nat) (cb : Array Value) (cap a b : Nat) (d : Array α) (w : World) (R : RowK enc k w0 blk off d0) (hsz : d0.size < 4611686018427387904)
    (eg : ∀ args w, (callFunc g args).run Try.prog w = .ok (.enter g args) w) (hC : CmpLays Try.prog g cb enc k cf blk off d0.size w0) (hs : d.size = d0.size) (S : SWK enc k w0 blk off d w) (hab : a ≤ b) (hb : b ≤ d.size) (hT : Tot lt cf d a b) :
    Calls Try.prog 81 #[.slice (some ⟨blk, off, none⟩) d0.size cap, .int .i64 a, .int .i64 b, .func (.func g) #[] cb] w (SymOut lt enc k w0 blk off d a b) := by
  obtain ⟨h1, h2⟩ := insertionSort_merged o hab hb hT
  have hC' : CmpLays Try.prog g cb enc k cf blk off d.size w := fun m os dk hdk x y => by
    obtain ⟨n0, os0, rfl⟩ := S
    rw [sortWorldK_on enc k w0 blk off n0 m d dk os0 os R.hblk hdk]
    exact hC _ _ dk (by omega) x y
  rw [← hs]
  refine (AnyQ.insertionSortCmpFunc insLay k Try.isAgg83 zE enc R.hk R.h1 cf g cb blk off cap a b d w eg hC' (S.holds R.hblk R.hH hs) (S.lt R.hblk) hab hb (by omega)).mono ?_
  rintro e w' ⟨rfl, n, os, rfl⟩
  exact ⟨rfl, _, h1, h2, S.on R.hblk n _ os h1⟩
end Go.Proofs.Ytknbglcmjggkjaa

/- Layer 6: stableCmpFunc at no more than forty elements, plainly. -/
namespace Go.Proofs.Ytknbglcmjggkjaa
open Go.RowKit Go.Shelf Go.Lib Go.Sort Sm
variable {α : Type} [Inhabited α] {enc : α → List Value} {k : Nat} {blk off : Nat} {d0 : Array α} {w0 : World} {lt : α → α → Prop} {cf : α → α → Int} {d dk dn : Array α} {n p q : Nat}

/-- The blocks ahead of p are in order. -/
def Pre (lt : α → α → Prop) (d dk : Array α) (p : Nat) : Prop :=
  (p = 0 ∧ dk = d) ∨ (p = 20 ∧ Merged lt (Ix d) (Ix dk) 0 20) ∨ (p = 40 ∧ ∃ d1 : Array α, Merged lt (Ix d) (Ix d1) 0 20 ∧ Merged lt (Ix d1) (Ix dk) 20 40)
/-- Both halves are in order. -/
def Half (lt : α → α → Prop) (d dk : Array α) (n : Nat) : Prop :=
  (n < 20 → Merged lt (Ix d) (Ix dk) 0 n) ∧ (20 ≤ n → ∃ d1 : Array α, Merged lt (Ix d) (Ix d1) 0 20 ∧ Merged lt (Ix d1) (Ix dk) 20 n)
theorem Pre.out (h : Pre lt d dk p) : ∀ i, p ≤ i → Ix dk i = Ix d i := by
  intro i hi
  rcases h with ⟨rfl, rfl⟩ | ⟨rfl, h⟩ | ⟨rfl, d1, h1, h2⟩
  · rfl
  · exact h.out i (.inr hi)
  · rw [h2.out i (.inr hi), h1.out i (.inr (by omega))]
theorem Pre.tot (h : Pre lt d dk p) (hT : Tot lt cf d 0 n) (hq : q ≤ n) : Tot lt cf dk p q := by
  intro i j h1 h2 h3
  rw [h.out i h1, h.out j (by omega)]
  exact hT i j (Nat.zero_le _) h2 (by omega)
theorem Pre.round (h : Pre lt d dk p) (hq : q = p + 20) (hqn : q ≤ 40) (m : Merged lt (Ix dk) (Ix dn) p q) : Pre lt d dn q := by
  rcases h with ⟨rfl, rfl⟩ | ⟨rfl, h⟩ | ⟨rfl, d1, h1, h2⟩
  · subst hq
    exact .inr (.inl ⟨rfl, m⟩)
  · subst hq
    exact .inr (.inr ⟨rfl, dk, h, m⟩)
  · omega
omit [Inhabited α] in
theorem Merged.none {d d' : Nat → α} {a : Nat} (m : Merged lt d d' a a) : d' = d := funext fun i => m.out i (by omega)
theorem Pre.exit (h : Pre lt d dk p) (hp : p ≤ n) (hn : n ≤ 40) (hq : n < p + 20) (m : Merged lt (Ix dk) (Ix dn) p n) : Half lt d dn n := by
  rcases h with ⟨rfl, rfl⟩ | ⟨rfl, h⟩ | ⟨rfl, d1, h1, h2⟩
  · exact ⟨fun _ => m, fun h => by omega⟩
  · exact ⟨fun h => by omega, fun _ => ⟨dk, h, m⟩⟩
  · obtain rfl : n = 40 := by omega
    refine ⟨fun h => by omega, fun _ => ⟨d1, h1, ?_⟩⟩
    rw [Merged.none m]
    exact h2
theorem Half.small (h : Half lt d dk n) (hn : n ≤ 20) : Merged lt (Ix d) (Ix dk) 0 n := by
  by_cases e : n < 20
  · exact h.1 e
  · obtain rfl : n = 20 := by omega
    obtain ⟨d1, h1, h2⟩ := h.2 (Nat.le_refl _)
    rw [Merged.none h2]
    exact h1
theorem Half.symIn (h : Half lt d dk n) (hT : Tot lt cf d 0 n) (hn : 20 < n) (hs : n ≤ dk.size) : SymIn lt cf dk 0 20 n := by
  obtain ⟨d1, h1, h2⟩ := h.2 (by omega)
  refine ⟨by omega, hn, hs, h1.srt.congr fun i _ hi => h2.out i (.inl hi), h2.srt, fun i j hi him hj hjn => ?_⟩
  rw [h2.out i (.inl him)]
  obtain ⟨a, _, a2, a3⟩ := seg_mem (h1.perm.subset (mem_seg (Ix d1) hi him))
  obtain ⟨b, b1, b2, b3⟩ := seg_mem (h2.perm.subset (mem_seg (Ix dk) hj hjn))
  rw [← a3, ← b3, h1.out b (.inr b1)]
  exact hT a b (Nat.zero_le _) (by omega) b2
theorem Half.done (h : Half lt d dk n) (hn : 20 < n) (m : Merged lt (Ix dk) (Ix dn) 0 n) : Merged lt (Ix d) (Ix dn) 0 n := by
  obtain ⟨d1, h1, h2⟩ := h.2 (by omega)
  refine ⟨fun i hi => ?_, m.srt, m.perm.trans ?_⟩
  · rw [m.out i hi, h2.out i (.inr (by omega)), h1.out i (.inr (by omega))]
  · rw [seg_app (Ix dk) (Nat.zero_le 20) (by omega), seg_app (Ix d) (Nat.zero_le 20) (by omega)]
    have e1 : seg (Ix dk) 0 20 = seg (Ix d1) 0 20 := seg_congr fun i _ hi => h2.out i (.inl hi)
    have e2 : seg (Ix d1) 20 n = seg (Ix d) 20 n := seg_congr fun i hi _ => h1.out i (.inr hi)
    rw [e1]
    refine h1.perm.append ?_
    rw [← e2]
    exact h2.perm
end Go.Proofs.Ytknbglcmjggkjaa

/- Layer 6: stableCmpFunc (68) and SortStableFunc (43) at no more than forty elements. -/
namespace Go.Proofs.Ytknbglcmjggkjaa
open Go.RowKit Go.Shelf Go.Lib Go.Sort Sm
variable {α : Type} [Inhabited α] {enc : α → List Value} {k : Nat} {blk off : Nat} {d0 : Array α} {w0 : World} {lt : α → α → Prop} {cf : α → α → Int} 

set_option maxRecDepth 1000000 in
set_option maxHeartbeats 8000000 in
theorem stable_any (o : Ord lt) (zE : ∀ w, (Go.sizeOf 83).run Try.prog w = .ok k w) (g : Nat) (cb : Array Value) (cap n : Nat) (d : Array α) (w : World) (R : RowK enc k w0 blk off d0) (hn : d0.size = n) (h40 : n ≤ 40)
    (eg : ∀ args w, (callFunc g args).run Try.prog w = .ok (.enter g args) w) (hC : CmpLays Try.prog g cb enc k cf blk off d0.size w0) (hs : d.size = d0.size) (S : SWK enc k w0 blk off d w) (hT : Tot lt cf d 0 n) :
    Calls Try.prog 68 #[.slice (some ⟨blk, off, none⟩) n cap, .int .i64 n, .func (.func g) #[] cb] w (SymOut lt enc k w0 blk off d 0 n) := by
  have S0 : Aside (SWK enc k w0 blk off d w) := S
  have T : Aside (Tot lt cf d 0 n) := hT
  have C81 : Aside (∀ (a b : Nat) (dk : Array α) (wr : World), dk.size = n → SWK enc k w0 blk off dk wr → a ≤ b → b ≤ n → Tot lt cf dk a b →
      Calls Try.prog 81 #[.slice (some ⟨blk, off, none⟩) n cap, .int .i64 a, .int .i64 b, .func (.func g) #[] cb] wr (SymOut lt enc k w0 blk off dk a b)) :=
    fun a b dk wr h1 h2 h3 h4 h5 => by
      have := insertion_any o zE g cb cap a b dk wr R (by omega) eg hC (by omega) h2 h3 (by omega) h5
      rw [hn] at this
      exact this
  have C82 : Aside (∀ (dk : Array α) (wr : World), dk.size = n → SWK enc k w0 blk off dk wr → SymIn lt cf dk 0 20 n →
      Calls Try.prog 82 #[.slice (some ⟨blk, off, none⟩) n cap, .int .i64 0, .int .i64 20, .int .i64 n, .func (.func g) #[] cb] wr (SymOut lt enc k w0 blk off dk 0 n)) :=
    fun dk wr h1 h2 h3 => by
      have := symMerge_any o zE g cb cap R (by omega) eg hC (n + 1) 0 20 n dk wr (by omega) (by omega) h2 h3
      rw [hn] at this
      exact this
  have hds0 : d.size = n := by omega
  clear S hT R hC hs hn zE eg o
  go_enter Try.func68, Try.ntmps68
  go_wp2
  go_loopg [7, 8] 40 (fun kx s7 s8 wr => ∃ (p q : Nat) (dk : Array α), s7 = .int .i64 p ∧ s8 = .int .i64 q ∧ q = p + 20 ∧ p ≤ n ∧ 40 - p ≤ kx ∧ dk.size = n ∧ Aside (Pre lt d dk p) ∧ Aside (SWK enc k w0 blk off dk wr))
  case atStart => exact ⟨0, 20, d, rfl, rfl, rfl, by omega, by omega, hds0, .inl ⟨rfl, rfl⟩, S0⟩
  case round =>
    clear S0
    obtain ⟨p, q, dk, rfl, rfl, hq, hpn, hkx, hds, HP, S1⟩ := hrel
    by_cases hlt : q ≤ n
    · have hltz : (q : Int) ≤ (n : Int) := by omega
      have c := C81.out p q dk wr hds S1.out (by omega) hlt (HP.out.tot T.out hlt)
      have HQ : Aside (q = p + 20 ∧ dk.size = n ∧ q ≤ n ∧ 40 - p ≤ gk) := ⟨hq, hds, hlt, hkx⟩
      clear S1 hq hds
      go_wp2_with (go_at_call 81; refine c.mono ?_; rintro e w1 ⟨rfl, dn, hs1, hm1, hw1⟩)
      go_roundg (40 - q)
      case measure => have := HQ.out; omega
      case rel =>
        have h := HQ.out
        exact ⟨q, q + 20, dn, rfl, by first | rfl | go_num | simp, rfl, h.2.2.1, by omega, by omega, HP.out.round h.1 (by omega) hm1, hw1⟩
    · have hltz : ¬ ((q : Int) ≤ (n : Int)) := by omega
      have c := C81.out p n dk wr hds S1.out (by omega) (Nat.le_refl _) (HP.out.tot T.out (Nat.le_refl _))
      have HQ : Aside (n < p + 20 ∧ dk.size = n) := ⟨by omega, hds⟩
      clear S1 hq hds
      go_wp2_with (go_at_call 81; refine c.mono ?_; rintro e w1 ⟨rfl, dn, hs1, hm1, hw1⟩)
      have HH : Aside (Half lt d dn n) := HP.out.exit hpn h40 HQ.out.1 hm1
      have S1 : Aside (SWK enc k w0 blk off dn w1) := hw1
      have hdn : dn.size = n := by have := HQ.out; omega
      clear hw1 hm1 HP hs1 c HQ
      have HD : Aside (dn.size = n) := hdn
      clear hdn
      go_loopg [6] 1 (fun kx s6 wr => ∃ (b : Nat) (dm : Array α), s6 = .int .i64 b ∧ Aside (dm.size = n ∧ (b = 20 ∧ 1 ≤ kx ∧ dm = dn ∨ b = 40 ∧ Merged lt (Ix d) (Ix dm) 0 n)) ∧ Aside (SWK enc k w0 blk off dm wr))
      case atStart => exact ⟨20, dn, rfl, ⟨HD.out, .inl ⟨rfl, Nat.le_refl _, rfl⟩⟩, S1⟩
      case round =>
        clear S1
        obtain ⟨b, dm, rfl, hcase, S1⟩ := hrel
        by_cases hb : b < n
        · obtain ⟨hb2, hk1, hdm⟩ : b = 20 ∧ 1 ≤ gk ∧ dm = dn := by
            rcases hcase.out.2 with h | h
            · exact h
            · omega
          subst hb2
          subst hdm
          have hbz : (20 : Int) < (n : Int) := by omega
          have HI : Aside (SymIn lt cf dm 0 20 n) := HH.out.symIn T.out hb (by have := hcase.out.1; omega)
          have HX : Aside (dm.size = n ∧ 1 ≤ gk ∧ n ≤ 40 ∧ 20 < n) := ⟨hcase.out.1, hk1, h40, hb⟩
          clear hcase hk1
          go_wp2
          go_loopg [7, 8] 1 (fun kx s7 s8 wr => ∃ (a b : Nat) (dq : Array α), s7 = .int .i64 a ∧ s8 = .int .i64 b ∧ Aside (dq.size = n ∧ (a = 0 ∧ b = 40 ∧ 1 ≤ kx ∧ dq = dm ∨ a = n ∧ b = n + 40 ∧ Merged lt (Ix d) (Ix dq) 0 n)) ∧ Aside (SWK enc k w0 blk off dq wr))
          case atStart => exact ⟨0, 40, dm, rfl, rfl, ⟨HX.out.1, .inl ⟨rfl, rfl, Nat.le_refl _, rfl⟩⟩, S1⟩
          case round =>
            clear S1
            obtain ⟨a, b2, dq, rfl, rfl, hq, S1⟩ := hrel
            by_cases hb2 : b2 ≤ n
            · obtain ⟨rfl, rfl, hkx, rfl⟩ : a = 0 ∧ b2 = n ∧ 1 ≤ gk ∧ dq = dm := by
                rcases hq.out.2 with h | h
                · exact ⟨h.1, by omega, h.2.2.1, h.2.2.2⟩
                · omega
              have c := C82.out dq wr HX.out.1 S1.out HI.out
              have HK : Aside (1 ≤ gk) := hkx
              clear S1 hq hb2 hkx
              go_wp2_with (go_at_call 82; refine c.mono ?_; rintro e w1 ⟨rfl, dr, hs1, hm1, hw1⟩)
              go_roundg 0
              case measure => have := HK.out; omega
              case rel => exact ⟨b2, b2 + 40, dr, rfl, by first | rfl | go_num | simp, ⟨by rw [hs1]; exact HX.out.1, .inr ⟨rfl, rfl, HH.out.done HX.out.2.2.2 hm1⟩⟩, hw1⟩
            · have hbz2 : ¬ ((b2 : Int) ≤ (n : Int)) := by omega
              by_cases ha : a = 0
              · subst ha
                have hdq : dq = dm := by
                  rcases hq.out.2 with h | h
                  · exact h.2.2.2
                  · omega
                subst hdq
                have c := C82.out dq wr HX.out.1 S1.out HI.out
                clear S1 hq hb2
                go_wp2_with (go_at_call 82; refine c.mono ?_; rintro e w1 ⟨rfl, dr, hs1, hm1, hw1⟩)
                go_roundg 0
                case measure => have := HX.out; omega
                case rel => exact ⟨40, dr, by first | rfl | go_num | simp, ⟨by rw [hs1]; exact HX.out.1, .inr ⟨rfl, HH.out.done HX.out.2.2.2 hm1⟩⟩, hw1⟩
              · have h : a = n ∧ Merged lt (Ix d) (Ix dq) 0 n := by
                  rcases hq.out.2 with h | h
                  · exact absurd h.1 ha
                  · exact ⟨h.1, h.2.2⟩
                obtain ⟨rfl, hm⟩ := h
                have HM : Aside (dq.size = a ∧ Merged lt (Ix d) (Ix dq) 0 a) := ⟨hq.out.1, hm⟩
                clear hq hm hb2
                have hz3 : ¬ ((a : Int) + 20 < (a : Int)) := by omega
                go_wp2
                go_roundg 0
                case measure => have := HX.out; omega
                case rel => exact ⟨40, dq, by first | rfl | go_num | simp, ⟨HM.out.1, .inr ⟨rfl, HM.out.2⟩⟩, S1⟩
        · have hbz : ¬ ((b : Int) < (n : Int)) := by omega
          have HM : Aside (dm.size = n ∧ Merged lt (Ix d) (Ix dm) 0 n) := by
            refine ⟨hcase.out.1, ?_⟩
            rcases hcase.out.2 with ⟨h1, h2, h3⟩ | h
            · rw [h3]; exact HH.out.small (by omega)
            · exact h.2
          clear hcase
          go_wp2
          go_end0
          exact ⟨rfl, dm, by rw [hds0]; exact HM.out.1, HM.out.2, S1.out⟩
end Go.Proofs.Ytknbglcmjggkjaa
