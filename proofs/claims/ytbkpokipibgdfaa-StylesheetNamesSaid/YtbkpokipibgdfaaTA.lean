/- Layer 8: Small (14). -/
import Derived.Test.YtbkpokipibgdfaaS5
namespace Go.Proofs.Ytbkpokipibgdfaa
open Go.RowKit Go.Lib
set_option linter.unusedVariables false

/-- A list that is small: few styles, few properties, short names. -/
def Sml (l : List St) : Prop := l.length ≤ 24 ∧ ∀ k (h : k < l.length), l[k].props.length ≤ 50 ∧ l[k].name.size ≤ 100
def SmR (l : List St) (e : Ending) : Prop := ∃ b : Bool, e = .returned (.bool b) ∧ (b = true → Sml l)

set_option maxRecDepth 100000 in
set_option maxHeartbeats 8000000 in
theorem small_any (l : List St) (A : Option Addr) (n c : Nat) (hn : l.length = n) (hc : n ≤ c ∧ c ≤ maxLen) (w : World) (hA : LsAt w A l) :
    Calls Try.prog 14 #[.slice A n c] w fun e w' => SmR l e ∧ Below w.heap.size w w' := by
  have hc1 := hc.1
  have hc2 := hc.2
  unfold maxLen at hc2
  have HN := Lib.hid hn
  have HA := Lib.hid hA
  have hb0 := Below.refl w.heap.size w
  clear hn hA hc
  by_cases h24 : n ≤ 24
  · have q0 : ¬ (24 : Int) < (n : Int) := by omega
    go_enter Try.func14, Try.ntmps14
    go_wp2_with fail
    go_loopw [3] (fun s3 wr => ∃ i : Nat, i ≤ n ∧ s3 = .int .i64 (i : Nat) ∧ Hid (∀ k (h : k < l.length), k < i → l[k].props.length ≤ 50 ∧ l[k].name.size ≤ 100) ∧ Hid (Below w.heap.size w wr)) (fun s3 _ => n - (intOf s3).toNat)
    case atStart => exact ⟨0, Nat.zero_le _, rfl, Lib.hid fun j h h' => absurd h' (Nat.not_lt_zero _), Lib.hid hb0⟩
    case round =>
      clear hb0
      obtain ⟨i, hi, rfl, HG, HBK⟩ := hrel
      by_cases hlt : i < n
      · have p0 : (0 : Int) ≤ (i : Int) := by omega
        have p1 : (i : Int) < (n : Int) := by omega
        have hil : i < l.length := by rw [HN.out]; exact hlt
        obtain ⟨g, o, rfl, hg, hcl⟩ := HA.out.pos (by omega)
        obtain ⟨B, cc, _, _, c2, _, _, c5, hx1, hx2, _⟩ := hcl i hil
        have z2 := (HBK.out.cell (p := ⟨g, o + i * 6 + 2, none⟩) hg).trans c2
        have z5 := (HBK.out.cell (p := ⟨g, o + i * 6 + 5, none⟩) hg).trans c5
        have HS := Lib.hid (fun (h1 : l[i].props.length ≤ 50) (h2 : l[i].name.size ≤ 100) k (hk : k < l.length) (hki : k < i + 1) => (if e : k = i then by subst e; exact ⟨h1, h2⟩ else HG.out k hk (by omega) : l[k].props.length ≤ 50 ∧ l[k].name.size ≤ 100))
        unfold maxLen at hx2
        clear hcl c2 c5 hg
        generalize l[i].props.length = m at z5 HS hx1
        generalize l[i].name = s at z2 HS
        by_cases h1 : m ≤ 50
        · have e1 : ¬ (50 : Int) < (m : Int) := by omega
          by_cases h2 : s.size ≤ 100
          · have e2 : ¬ (100 : Int) < (s.size : Int) := by omega
            have HS2 := Lib.hid (HS.out h1 h2)
            clear HS
            go_wp2
            go_roundw
            case rel => exact ⟨i + 1, by omega, by go_num, HS2, HBK⟩
            case measure => simp [intOf]; omega
          · have e2 : (100 : Int) < (s.size : Int) := by omega
            clear HS
            go_wp2
            go_ret
            exact ⟨⟨false, rfl, fun h => by cases h⟩, HBK.out⟩
        · have e1 : (50 : Int) < (m : Int) := by omega
          clear HS
          go_wp2
          go_ret
          exact ⟨⟨false, rfl, fun h => by cases h⟩, HBK.out⟩
      · obtain rfl : i = n := by omega
        have HS := Lib.hid (show Sml l from ⟨by rw [HN.out]; exact h24, fun k h => HG.out k h (by rw [← HN.out]; exact h)⟩)
        go_wp2
        go_ret
        exact ⟨⟨true, rfl, fun _ => HS.out⟩, HBK.out⟩
  · have q0 : (24 : Int) < (n : Int) := by omega
    go_enter Try.func14, Try.ntmps14
    go_wp2
    go_ret
    exact ⟨⟨false, rfl, fun h => by cases h⟩, hb0⟩
end Go.Proofs.Ytbkpokipibgdfaa
