/- Layer 9: sort.Search; the longest numerals, plainly. -/
import Derived.Test.YteahingapnijcaaDoorD1
import Derived.Deep.QuietTactic
import Derived.BigQuiet
import Derived.Deep.LoopGhost
namespace Go.Proofs.YteahingapnijcaaDoor
open Go.RowKit Go.Lib Go.Shelf Nu9

/-- The first one of the longest numerals of k numbers from a on. -/
def lg (f : Int) (a : Nat) : Nat → List UInt8
  | 0 => []
  | k + 1 => if (lg f a k).length < (num f (a + k)).length then num f (a + k) else lg f a k
theorem lg_len (f : Int) (a k b : Nat) (h : ∀ j, j < k → (num f (a + j)).length ≤ b) : (lg f a k).length ≤ b := by
  induction k with
  | zero => simp [lg]
  | succ k ih =>
    unfold lg
    split
    · exact h k (by omega)
    · exact ih fun j hj => h j (by omega)
theorem lg_lt (f : Int) (a k L : Nat) (hL : 0 < L) (h : ∀ j, j < k → (num f (a + j)).length < L) : (lg f a k).length < L := by
  have := lg_len f a k (L - 1) (fun j hj => by have := h j hj; omega)
  omega
/-- Where the lengths do not fall, the first one of the greatest length is the longest. -/
theorem lg_first (f : Int) (a n i L : Nat) (hi : i ≤ n) (hL : 0 < L) (h1 : ∀ j, j < i → (num f (a + j)).length < L) (h2 : (num f (a + i)).length = L) (h3 : ∀ j, j ≤ n → (num f (a + j)).length ≤ L) : lg f a (n + 1) = num f (a + i) := by
  have key : ∀ d, i + d ≤ n → lg f a (i + d + 1) = num f (a + i) := by
    intro d
    induction d with
    | zero =>
      intro _
      have := lg_lt f a i L hL h1
      rw [Nat.add_zero]
      conv => lhs; unfold lg
      rw [if_pos (by omega)]
    | succ d ih =>
      intro hd
      have := ih (by omega)
      rw [show i + (d + 1) + 1 = (i + d + 1) + 1 by omega]
      conv => lhs; unfold lg
      rw [this, if_neg (by have := h3 (i + d + 1) (by omega); omega)]
  have := key (n - i) (by omega)
  rwa [show i + (n - i) + 1 = n + 1 by omega] at this
theorem less_len {S T : List UInt8} (h : less S T = true) : S.length ≤ T.length := by
  unfold less at h
  simp at h
  omega
theorem dec_mono {m n : Nat} (h : m ≤ n) : (dec m).length ≤ (dec n).length := by
  rcases Nat.eq_or_lt_of_le h with rfl | h
  · exact Nat.le_refl _
  · exact less_len (by rw [less_dec]; simpa using h)
theorem ltr_mono {m n : Nat} (h : m ≤ n) : (ltr m).length ≤ (ltr n).length := by
  rcases Nat.eq_or_lt_of_le h with rfl | h
  · exact Nat.le_refl _
  · exact less_len (by rw [less_ltr]; simpa using h)
theorem num_mono {f : Int} (hf : f = 1 ∨ f = 2 ∨ f = 3 ∨ f = 6 ∨ f = 7) {m n : Nat} (h : m ≤ n) : (num f m).length ≤ (num f n).length := by
  rcases hf with rfl | rfl | rfl | rfl | rfl
  · exact dec_mono h
  · exact ltr_mono h
  · show ((ltr m).map up).length ≤ ((ltr n).map up).length
    rw [List.length_map, List.length_map]; exact ltr_mono h
  · show (dec m ++ sfx m).length ≤ (dec n ++ sfx n).length
    rw [List.length_append, List.length_append, sfx_len, sfx_len]; have := dec_mono h; omega
  · exact Nat.le_refl _
def SrcR (n : Nat) (p : Nat → Bool) (w : World) (e : Ending) (w' : World) : Prop := ∃ i : Nat, e = .returned (.int .i64 (i : Nat)) ∧ i ≤ n ∧ (∀ a, a < i → p a = false) ∧ (i < n → p i = true) ∧ Below w.heap.size w w'
set_option maxRecDepth 100000 in
set_option maxHeartbeats 4000000 in
theorem search_any (g : Nat) (cb : Array Value) (n : Nat) (hn : n ≤ 1000000) (p : Nat → Bool) (w : World) (eg : ∀ args w, (callFunc g args).run Tryd.prog w = .ok (.enter g args) w)
    (hf : ∀ (W : World) (i : Nat), Below w.heap.size w W → i < n → Calls Tryd.prog g (#[.int .i64 (i : Nat)] ++ cb) W fun e w' => e = .returned (.bool (p i)) ∧ Below W.heap.size W w')
    (hmono : ∀ a b, a ≤ b → b < n → p a = true → p b = true) :
    Calls Tryd.prog 33 #[.int .i64 (n : Nat), .func (.func g) #[] cb] w (SrcR n p w) := by
  have HF := Lib.hid hf
  have HM := Lib.hid hmono
  clear hf hmono
  go_enter Tryd.func33, Tryd.ntmps33
  go_wp2
  go_loopg [5, 6] n (fun kx s5 s6 wr => ∃ lo hi : Nat, s5 = .int .i64 lo ∧ s6 = .int .i64 hi ∧ lo ≤ hi ∧ hi ≤ n ∧ hi - lo ≤ kx ∧ Below w.heap.size w wr ∧ Hid ((∀ t, t < lo → p t = false) ∧ (∀ t, hi ≤ t → t < n → p t = true)))
  case atStart => exact ⟨0, n, rfl, rfl, Nat.zero_le _, Nat.le_refl _, by omega, Below.refl _ _, Lib.hid ⟨fun t ht => absurd ht (Nat.not_lt_zero _), fun t h1 h2 => by omega⟩⟩
  case round =>
    obtain ⟨lo, hi, rfl, rfl, hlh, hin, hg, hbw, I⟩ := hrel
    by_cases hlt : lo < hi
    · have hc := HF.out wr ((lo + hi) / 2) hbw (by omega)
      rw [show (((lo + hi) / 2 : Nat) : Int) = ((lo : Int) + (hi : Int)) / 2 by omega] at hc
      cases hp : p ((lo + hi) / 2) <;> rw [hp] at hc
      · have HP := Lib.hid hp
        clear hp
        go_wp2_with (go_at_fn g; refine hc.mono ?_; rintro e w' ⟨rfl, hb'⟩)
        have HB := Lib.hid (hbw.trans (hb'.mono hbw.size))
        go_roundg (hi - ((lo + hi) / 2 + 1))
        case measure => omega
        case rel =>
          exact ⟨(lo + hi) / 2 + 1, hi, by rw [show ((lo : Int) + (hi : Int)) / 2 + 1 = (((lo + hi) / 2 + 1 : Nat) : Int) by omega], rfl, by omega, hin, Nat.le_refl _, HB.out, Lib.hid ⟨fun t ht => (by
            cases h : p t with
            | false => rfl
            | true => have := HM.out t ((lo + hi) / 2) (by omega) (by omega) h; rw [HP.out] at this; cases this), I.out.2⟩⟩
      · have HP := Lib.hid hp
        clear hp
        go_wp2_with (go_at_fn g; refine hc.mono ?_; rintro e w' ⟨rfl, hb'⟩)
        have HB := Lib.hid (hbw.trans (hb'.mono hbw.size))
        go_roundg ((lo + hi) / 2 - lo)
        case measure => omega
        case rel =>
          exact ⟨lo, (lo + hi) / 2, rfl, by rw [show ((lo : Int) + (hi : Int)) / 2 = (((lo + hi) / 2 : Nat) : Int) by omega], by omega, by omega, Nat.le_refl _, HB.out, Lib.hid ⟨I.out.1, fun t ht htn => HM.out ((lo + hi) / 2) t ht htn HP.out⟩⟩
    · obtain rfl : hi = lo := by omega
      have HI := Lib.hid (show (∀ a, a < hi → p a = false) ∧ (hi < n → p hi = true) from ⟨I.out.1, fun h => I.out.2 hi (Nat.le_refl _) h⟩)
      clear I HF HM
      go_wp2
      go_ret
      exact ⟨hi, rfl, hin, HI.out.1, HI.out.2, hbw⟩
end Go.Proofs.YteahingapnijcaaDoor
