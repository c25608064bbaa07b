/- Layer 22: moving one element, and the binary search, plainly. -/
import Derived.Test.YtmpklkhjipclmaaMS2
namespace Go.Proofs.Ytmpklkhjipclmaa
open Go.RowKit Go.Shelf Go.Lib Go.Sort Sm
variable {α : Type} [Inhabited α]

omit [Inhabited α] in
theorem rot_none_right (d : Nat → α) (s m : Nat) : rot d s m m = d := by
  funext x
  unfold rot
  split
  · rw [if_neg (by omega), Nat.sub_self, Nat.sub_zero]
  · rfl
omit [Inhabited α] in
theorem rot_none_left (d : Nat → α) (m e : Nat) : rot d m m e = d := by
  funext x
  unfold rot
  split
  · rw [if_pos (by omega), Nat.sub_self, Nat.add_zero]
  · rfl
/-- The left element goes one place to the right. -/
theorem rot_bubble_right (d dk : Array α) {a k : Nat} (ha : a ≤ k) (hk : k + 1 < dk.size) (h : Ix dk = rot (Ix d) a (a + 1) (k + 1)) : Ix (swp dk k (k + 1)) = rot (Ix d) a (a + 1) (k + 2) := by
  funext x
  have hx := fun y => congrFun h y
  unfold Ix at hx ⊢
  by_cases e1 : x = k
  · subst e1
    rw [swp_left _ _ _ (by omega) (by omega), hx]
    unfold rot
    rw [if_neg (by omega), if_pos (by omega), if_pos (by omega)]
    congr 1
    omega
  · by_cases e2 : x = k + 1
    · subst e2
      rw [swp_right _ _ _ (by omega), hx]
      unfold rot
      rw [if_pos (by omega), if_neg (by omega), if_pos (by omega), if_neg (by omega)]
      congr 1
      omega
    · rw [swp_other _ _ _ _ e1 e2, hx]
      unfold rot
      by_cases c : a ≤ x ∧ x < k + 1
      · rw [if_pos c, if_pos (by omega), if_pos (by omega), if_pos (by omega)]
      · rw [if_neg c, if_neg (by omega)]
/-- The right element goes one place to the left. -/
theorem rot_bubble_left (d dk : Array α) {m k : Nat} (hk : k + 1 ≤ m) (hm : m < dk.size) (h : Ix dk = rot (Ix d) (k + 1) m (m + 1)) : Ix (swp dk (k + 1) k) = rot (Ix d) k m (m + 1) := by
  funext x
  have hx := fun y => congrFun h y
  unfold Ix at hx ⊢
  by_cases e1 : x = k
  · subst e1
    rw [swp_right _ _ _ (by omega), hx]
    unfold rot
    rw [if_pos (by omega), if_pos (by omega), if_pos (by omega), if_pos (by omega)]
    congr 1
    omega
  · by_cases e2 : x = k + 1
    · subst e2
      rw [swp_left _ _ _ (by omega) (by omega), hx]
      unfold rot
      rw [if_neg (by omega), if_pos (by omega), if_neg (by omega)]
      congr 1
      omega
    · rw [swp_other _ _ _ _ e2 e1, hx]
      unfold rot
      by_cases c : k + 1 ≤ x ∧ x < m + 1
      · rw [if_pos c, if_neg (by omega), if_pos (by omega), if_neg (by omega)]
      · rw [if_neg c, if_neg (by omega)]

section
variable {lt : α → α → Prop} {cf : α → α → Int} (o : Ord lt) {d : Array α} {a m b : Nat}
/-- What is compared, is a right element against a left one. -/
def Crs (lt : α → α → Prop) (cf : α → α → Int) (d : Array α) (a m b : Nat) : Prop := Cross lt (fun x y => cf x y < 0) (Ix d) a m b
/-- The search for the place of the one left element among the right ones. -/
def SL (lt : α → α → Prop) (d : Array α) (a m b i j : Nat) : Prop := (∀ x, m ≤ x → x < i → lt (Ix d x) (Ix d a)) ∧ (∀ x, j ≤ x → x < b → lt (Ix d a) (Ix d x))
theorem SL.start : SL lt d a m b m b := ⟨fun x h h' => by omega, fun x h h' => by omega⟩
include o in
theorem SL.up {i j c : Nat} (h : SL lt d a m b i j) (sr : Srt lt (Ix d) m b) (hc : Crs lt cf d a m b) (ham : a < m) (h1 : m ≤ i) (h2 : i ≤ c) (h3 : c < j) (hj : j ≤ b) (hv : cf d[c]! d[a]! < 0) : SL lt d a m b (c + 1) j := by
  have hl : lt (Ix d c) (Ix d a) := (hc a c (Nat.le_refl _) ham (by omega) (by omega)).1.1 hv
  refine ⟨fun x hx hxc => ?_, h.2⟩
  by_cases e : x = c
  · subst e; exact hl
  · exact o.trans (sr x c hx (by omega) (by omega)) hl
include o in
theorem SL.down {i j c : Nat} (h : SL lt d a m b i j) (sr : Srt lt (Ix d) m b) (hc : Crs lt cf d a m b) (ham : a < m) (h1 : m ≤ i) (h2 : i ≤ c) (h3 : c < j) (hj : j ≤ b) (hv : ¬ cf d[c]! d[a]! < 0) : SL lt d a m b i c := by
  have hx := hc a c (Nat.le_refl _) ham (by omega) (by omega)
  have hl : lt (Ix d a) (Ix d c) := hx.2 fun g => hv (hx.1.2 g)
  refine ⟨h.1, fun x hcx hxb => ?_⟩
  by_cases e : x = c
  · subst e; exact hl
  · exact o.trans hl (sr c x (by omega) (by omega) hxb)
theorem SL.merged {s : Nat} (h : SL lt d a (a + 1) b s s) (h1 : a + 1 ≤ s) (h2 : s ≤ b) (sl : Srt lt (Ix d) a (a + 1)) (sr : Srt lt (Ix d) (a + 1) b) : Merged lt (Ix d) (rot (Ix d) a (a + 1) s) a b := by
  refine rot_merged (Nat.le_refl _) (by omega) h1 h2 sl sr (fun i j h1 h2 => by omega) (fun j i h3 h4 h5 h6 => ?_) (fun i j h1 h2 => by omega) (fun i j h3 h4 h5 h6 => ?_)
  · obtain rfl : i = a := by omega
    exact h.1 j h3 h4
  · obtain rfl : i = a := by omega
    exact h.2 j h5 h6
/-- The search for the place of the one right element among the left ones. -/
def SR (lt : α → α → Prop) (d : Array α) (a m i j : Nat) : Prop := (∀ x, a ≤ x → x < i → lt (Ix d x) (Ix d m)) ∧ (∀ x, j ≤ x → x < m → lt (Ix d m) (Ix d x))
theorem SR.start : SR lt d a m a m := ⟨fun x h h' => by omega, fun x h h' => by omega⟩
include o in
theorem SR.up {i j c : Nat} (h : SR lt d a m i j) (sl : Srt lt (Ix d) a m) (hc : Crs lt cf d a m b) (hmb : m < b) (h1 : a ≤ i) (h2 : i ≤ c) (h3 : c < j) (hj : j ≤ m) (hv : ¬ cf d[m]! d[c]! < 0) : SR lt d a m (c + 1) j := by
  have hx := hc c m (by omega) (by omega) (Nat.le_refl _) hmb
  have hl : lt (Ix d c) (Ix d m) := hx.2 fun g => hv (hx.1.2 g)
  refine ⟨fun x hx hxc => ?_, h.2⟩
  by_cases e : x = c
  · subst e; exact hl
  · exact o.trans (sl x c hx (by omega) (by omega)) hl
include o in
theorem SR.down {i j c : Nat} (h : SR lt d a m i j) (sl : Srt lt (Ix d) a m) (hc : Crs lt cf d a m b) (hmb : m < b) (h1 : a ≤ i) (h2 : i ≤ c) (h3 : c < j) (hj : j ≤ m) (hv : cf d[m]! d[c]! < 0) : SR lt d a m i c := by
  have hl : lt (Ix d m) (Ix d c) := (hc c m (by omega) (by omega) (Nat.le_refl _) hmb).1.1 hv
  refine ⟨h.1, fun x hcx hxb => ?_⟩
  by_cases e : x = c
  · subst e; exact hl
  · exact o.trans hl (sl c x (by omega) (by omega) hxb)
theorem SR.merged {s : Nat} (h : SR lt d a m s s) (h1 : a ≤ s) (h2 : s ≤ m) (sl : Srt lt (Ix d) a m) (sr : Srt lt (Ix d) m (m + 1)) : Merged lt (Ix d) (rot (Ix d) s m (m + 1)) a (m + 1) := by
  refine rot_merged h1 h2 (by omega) (Nat.le_refl _) sl sr (fun i j h1 h2 h3 h4 => by omega) (fun j i h3 h4 h5 h6 => ?_) (fun i j h3 h4 h5 h6 => ?_) (fun i j h1 h2 h3 h4 => by omega)
  · obtain rfl : j = m := by omega
    exact h.2 i h5 h6
  · obtain rfl : j = m := by omega
    exact h.1 i h3 h4
end
/-- What symMergeCmpFunc is called on. -/
structure SymIn (lt : α → α → Prop) (cf : α → α → Int) (d : Array α) (a m b : Nat) : Prop where
  am : a < m
  mb : m < b
  bd : b ≤ d.size
  sl : Srt lt (Ix d) a m
  sr : Srt lt (Ix d) m b
  cr : Crs lt cf d a m b
/-- What it leaves. -/
def SymOut (lt : α → α → Prop) (enc : α → List Value) (k : Nat) (w0 : World) (blk off : Nat) (d : Array α) (a b : Nat) (e : Ending) (w' : World) : Prop :=
  e = .returned (.tuple #[]) ∧ ∃ d', d'.size = d.size ∧ Merged lt (Ix d) (Ix d') a b ∧ SWK enc k w0 blk off d' w'
end Go.Proofs.Ytmpklkhjipclmaa
