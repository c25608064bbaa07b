import Derived.Test.YtblabbeaaajlkaaG3
import Derived.Test.YtblabbeaaajlkaaE2
namespace Go.Proofs.Ytblabbeaaajlkaa
open Go.RowKit
open U

theorem str_bound {O : ByteArray} {P : List Nat} {k : Nat} (h : O.data.toList = U.bytes (P.take k)) (hl : P.length ≤ 200000) : O.size ≤ 800000 := by
  have h1 : O.data.toList.length = O.size := by simp
  have h2 := (bytes_len (P.take k)).2
  rw [List.length_take] at h2
  rw [h] at h1
  omega
set_option maxRecDepth 100000 in
set_option maxHeartbeats 4000000 in
theorem refMake_some (g o cap : Nat) (P : List Nat) (hP : Pts P) (hl : P.length ≤ 200000) (w : World) (hg : g < w.heap.size) (hc : ∀ j (h : j < P.length), w.cell? ⟨g, o + j, none⟩ = some (.int .i64 ((P[j] : Nat) : Int))) :
    Calls Try.prog 24 #[.slice (some ⟨g, o, none⟩) P.length cap] w (StrRet (U.bytes P) w) := by
  have HC := Lib.hid hc
  clear hc
  go_enter Try.func24, Try.ntmps24
  go_wp2
  go_loopw [3, 4] (fun v i wr => ∃ (k : Nat) (O : ByteArray), k ≤ P.length ∧ i = .int .i64 (k : Nat) ∧ v = .string O ∧ O.size ≤ 800000 ∧ O.data.toList = U.bytes (P.take k) ∧ Below w.heap.size w wr) (fun _ i _ => P.length - (intOf i).toNat)
  case atStart => exact ⟨0, ⟨#[]⟩, Nat.zero_le _, rfl, rfl, by decide, rfl, Below.refl _ _⟩
  case round =>
    obtain ⟨k, O, hk, rfl, rfl, hO, hOl, hbw⟩ := hrel
    have HO := Lib.hid hOl
    clear hOl
    by_cases hlt : k < P.length
    · have c1 : wr.cell? ⟨g, o + k, none⟩ = some (.int .i64 ((P[k] : Nat) : Int)) := (hbw.cell (p := ⟨g, o + k, none⟩) hg).trans (HC.out k hlt)
      obtain ⟨E, hE, hE1, hE4, hEc⟩ := encode_obj P[k] (hP.get k hlt).1
      have HEc := Lib.hid hEc
      have HN := Lib.hid (show (O ++ E).data.toList = U.bytes (P.take (k + 1)) by rw [append_list, HO.out, hE, List.take_succ_eq_append_getElem hlt, bytes_snoc])
      clear hE hEc
      go_wp2_with (go_at_call 40; refine (HEc.out _).mono ?_; rintro e w1 ⟨rfl, hb1⟩)
      go_roundw
      case rel => exact ⟨k + 1, O ++ E, by omega, by go_num, rfl, str_bound HN.out hl, HN.out, chain hbw hb1⟩
      case measure => simp [intOf]; omega
    · have hfin : O = ⟨(U.bytes P).toArray⟩ := by
        refine mk_of _ _ ?_
        rw [HO.out, show k = P.length by omega, List.take_length]
      have HF := Lib.hid hfin
      clear hfin
      go_wp2
      go_ret
      exact ⟨by rw [← HF.out]; rfl, hbw⟩
set_option maxRecDepth 100000 in
set_option maxHeartbeats 1000000 in
theorem refMake_none (a : Option Addr) (cap : Nat) (w : World) : Calls Try.prog 24 #[.slice a 0 cap] w (StrRet [] w) := by
  go_enter Try.func24, Try.ntmps24
  go_wp2
  refine wp_loop_rounds 1 ?_
  rw [rounds_succ]
  go_wp2
  go_ret
  exact ⟨rfl, Below.refl _ _⟩
theorem refMake_ok (v : Value) (P : List Nat) (hP : Pts P) (hl : P.length ≤ 200000) (w : World) (h : SliceAt w v (asInts P)) : Calls Try.prog 24 #[v] w (StrRet (U.bytes P) w) := by
  rcases h with ⟨h0, a, c, rfl⟩ | ⟨g, o, cap, rfl, hg, hc⟩
  · have : P = [] := by have := congrArg List.length h0; rw [asInts_length] at this; exact List.eq_nil_of_length_eq_zero this
    subst this
    exact refMake_none a c w
  · rw [asInts_length]
    refine refMake_some g o cap P hP hl w hg fun j hj => ?_
    have := hc j (by rw [asInts_length]; exact hj)
    rw [asInts_get] at this
    exact this
end Go.Proofs.Ytblabbeaaajlkaa
