/- Layer 7: keys by names. -/
import Derived.Test.YtjdjfokfilnnoaaJF
namespace Go.Proofs.Ytjdjfokfilnnoaa
open Go.RowKit Go.Lib

def namedK (s : ByteArray) : Int := ((tabP.find? (fun r => r.2.1.toList == s.toList)).map (·.1)).getD 0
def FindRet (s : ByteArray) (w : World) (e : Ending) (w' : World) : Prop := e = .returned (.tuple #[.int .i64 (namedK s), .int .i64 (if namedK s = 0 then 4 else 0)]) ∧ Below w.heap.size w w'
def NamedRet (s : ByteArray) (w : World) (e : Ending) (w' : World) : Prop := e = .returned (.int .i64 (namedK s)) ∧ Below w.heap.size w w'
theorem key_pos {k : Nat} (h : k < 45) : (tabP[k]'h).1 ≠ 0 := by
  have hall : ∀ i : Fin 45, (tabP[i.val]'i.isLt).1 ≠ 0 := by decide +kernel
  exact hall ⟨k, h⟩
theorem nm_at {s : ByteArray} {k : Nat} (h : k < 45) (he : ((tabP[k]'h).2.1.toList == s.toList) = true) (hn : ∀ j (hj : j < 45), j < k → ((tabP[j]'hj).2.1.toList == s.toList) = false) : namedK s = (tabP[k]'h).1 ∧ ¬ (tabP[k]'h).1 = 0 := by
  refine ⟨?_, key_pos h⟩
  unfold namedK
  have : tabP.find? (fun r => r.2.1.toList == s.toList) = some (tabP[k]'h) := by
    rw [List.find?_eq_some_iff_getElem]
    exact ⟨he, k, h, rfl, fun j hj => by show (!((tabP[j]'(Nat.lt_trans hj h)).2.1.toList == s.toList)) = true; rw [hn j (Nat.lt_trans hj h) hj]; rfl⟩
  rw [this]; rfl
theorem nm_none {s : ByteArray} (hn : ∀ j (hj : j < 45), ((tabP[j]'hj).2.1.toList == s.toList) = false) : namedK s = 0 := by
  unfold namedK
  have : tabP.find? (fun r => r.2.1.toList == s.toList) = none := by
    rw [List.find?_eq_none]
    intro x hx
    obtain ⟨j, hj, rfl⟩ := List.mem_iff_getElem.1 hx
    have := hn j hj
    simp [this]
  rw [this]; rfl
set_option maxRecDepth 100000 in
set_option maxHeartbeats 8000000 in
theorem find_name (s : ByteArray) (w : World) : Calls Try.prog 23 #[.string s] w (FindRet s w) := by
  have cT := fun w' => table_any w'
  go_enter Try.func23, Try.ntmps23
  go_wp2_with fail
  refine (cT _).mono ?_
  rintro e w0 ⟨rfl, hb0⟩
  clear cT
  have hs0 := hb0.size
  go_wp2_with fail
  go_loopw [7] (fun i wr => ∃ (k : Nat), k ≤ 45 ∧ i = .int .i64 k ∧ Below w0.heap.size w0 wr ∧ Hid (∀ j (h : j < 45), j < k → ((tabP[j]'h).2.1.toList == s.toList) = false)) (fun i _ => 45 - (intOf i).toNat)
  case atStart => exact ⟨0, Nat.zero_le _, rfl, Below.refl _ _, Go.Lib.hid (fun j h hj => by omega)⟩
  case round =>
    obtain ⟨k, hk, rfl, hbw, HN⟩ := hrel
    have hw0 := hbw.size
    by_cases hlt : k < 45
    · have HA := Go.Lib.hid (fun he => nm_at (s := s) hlt he HN.out)
      have HG := Go.Lib.hid (fun (he : ((tabP[k]'hlt).2.1.toList == s.toList) = false) j (h : j < 45) (hj : j < k + 1) => if e : j = k then by subst e; exact he else HN.out j h (by omega))
      have hx := fun w' => idx_tab k hlt w'
      generalize tabP[k]'hlt = r at hx HA HG
      obtain ⟨ra, rb, rc, rd, re, rf⟩ := r
      have hx' : ∀ w' : World, (Instr.index 75 (.agg cellsT) (.int .i64 (k : Nat))).run Try.prog w' = .ok (.agg #[.int .i64 ra, .string rb, .int .i64 rc, .int .i64 rd, .int .i64 re, .int .i64 rf]) w' := hx
      clear hx
      dsimp only at HA HG
      cases he : (rb.toList == s.toList) with
      | true =>
        go_wp2
        go_ret2
        obtain ⟨h1, h2⟩ := HA.out he
        exact ⟨by rw [h1, if_neg h2]; rfl, hb0.trans ((hbw.alloc hw0 _).mono hs0)⟩
      | false =>
        go_wp2
        go_roundw
        case rel => exact ⟨k + 1, by omega, by go_num, hbw.alloc hw0 _, Go.Lib.hid (HG.out he)⟩
        case measure => simp [intOf]; omega
    · obtain rfl : k = 45 := by omega
      go_wp2
      go_ret2
      have h1 := nm_none (s := s) fun j h => HN.out j h h
      exact ⟨by rw [h1]; rfl, hb0.trans (hbw.mono hs0)⟩
set_option maxRecDepth 100000 in
set_option maxHeartbeats 8000000 in
theorem named_any (s : ByteArray) (w : World) : Calls Try.prog 24 #[.string s] w (NamedRet s w) := by
  have cT := fun w' => refTable_gets w'
  go_enter Try.func24, Try.ntmps24
  go_wp2_with fail
  refine (cT _).mono ?_
  rintro e w0 ⟨g, rfl, hR, hb0⟩
  have HR := Go.Lib.hid hR
  clear cT hR
  have hs0 := hb0.size
  go_wp2_with fail
  go_loopw [4] (fun i wr => ∃ (k : Nat), k ≤ 45 ∧ i = .int .i64 k ∧ Below w0.heap.size w0 wr ∧ Hid (∀ j (h : j < 45), j < k → ((tabP[j]'h).2.1.toList == s.toList) = false)) (fun i _ => 45 - (intOf i).toNat)
  case atStart => exact ⟨0, Nat.zero_le _, rfl, Below.refl _ _, Go.Lib.hid (fun j h hj => by omega)⟩
  case round =>
    obtain ⟨k, hk, rfl, hbw, HN⟩ := hrel
    have hw0 := hbw.size
    by_cases hlt : k < 45
    · have HA := Go.Lib.hid (fun he => nm_at (s := s) hlt he HN.out)
      have HG := Go.Lib.hid (fun (he : ((tabP[k]'hlt).2.1.toList == s.toList) = false) j (h : j < 45) (hj : j < k + 1) => if e : j = k then by subst e; exact he else HN.out j h (by omega))
      have hg := HR.out.1
      obtain ⟨a0, _, _, _, _, a5⟩ := HR.out.2 k hlt
      have c0 := (hbw.cell (p := ⟨g, k * 6, none⟩) hg).trans a0
      have c1 := (hbw.cell (p := ⟨g, k * 6 + 5, none⟩) hg).trans a5
      clear a0 a5
      generalize tabP[k]'hlt = r at c0 c1 HA HG
      obtain ⟨ra, rb, rc, rd, re, rf⟩ := r
      dsimp only at c0 c1 HA HG
      cases he : (rb.toList == s.toList) with
      | true =>
        go_wp2
        go_ret
        obtain ⟨h1, h2⟩ := HA.out he
        exact ⟨by rw [h1]; rfl, hb0.trans ((hbw).mono hs0)⟩
      | false =>
        go_wp2
        go_roundw
        case rel => exact ⟨k + 1, by omega, by go_num, hbw, Go.Lib.hid (HG.out he)⟩
        case measure => simp [intOf]; omega
    · obtain rfl : k = 45 := by omega
      go_wp2
      go_ret
      have h1 := nm_none (s := s) fun j h => HN.out j h h
      exact ⟨by rw [h1]; rfl, hb0.trans (hbw.mono hs0)⟩
end Go.Proofs.Ytjdjfokfilnnoaa
