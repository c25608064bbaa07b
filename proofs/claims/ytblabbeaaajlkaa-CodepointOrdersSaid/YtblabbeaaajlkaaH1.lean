import Derived.Test.YtblabbeaaajlkaaG3
namespace Go.Proofs.Ytblabbeaaajlkaa
open Go.RowKit
open U

theorem order_head {c d : ByteArray} {P Q : List Nat} (hc : c.data.toList = U.bytes P) (hd : d.data.toList = U.bytes Q) (h : P.take (min P.length Q.length) = Q.take (min P.length Q.length)) : (Op.bytesLess c.toList d.toList == decide (P.length < Q.length)) = true := by
  rw [Lib.toList_data, Lib.toList_data, hc, hd, order_prefix P Q h, beq_iff_eq]
theorem order_here {c d : ByteArray} {P Q : List Nat} (hc : c.data.toList = U.bytes P) (hd : d.data.toList = U.bytes Q) (hP : Pts P) (hQ : Pts Q) (i : Nat) (hp : i < P.length) (hq : i < Q.length) (heq : P.take i = Q.take i) (hne : P[i] ≠ Q[i]) : (Op.bytesLess c.toList d.toList == decide (P[i] < Q[i])) = true := by
  rw [Lib.toList_data, Lib.toList_data, hc, hd, order_at P Q hP hQ i hp hq heq hne, beq_iff_eq]
def SameTo (P Q : List Nat) (k : Nat) : Prop := P.take k = Q.take k

set_option maxRecDepth 100000 in
set_option maxHeartbeats 4000000 in
theorem law_orders (s t : ByteArray) (hs : s.size ≤ maxLen) (ht : t.size ≤ maxLen) (w : World) :
    Calls Try.prog 10 #[.string s, .string t] w (TrueRet w) := by
  have hz := cutS_size s
  have hz2 := cutS_size t
  have hsm := cutS_small s
  have htm := cutS_small t
  have HC := Lib.hid (fun w => cut_any s hs w)
  have HD := Lib.hid (fun w => cut_any t ht w)
  clear hs ht
  generalize cutS s = c at *
  generalize cutS t = d at *
  obtain ⟨P, bad, hS⟩ := Str.ex c hsm
  obtain ⟨Q, bad2, hT⟩ := Str.ex d htm
  by_cases hb : bad = []
  · subst hb
    by_cases hb2 : bad2 = []
    · subst hb2
      have hPl : P.length ≤ 300 := by have := hS.size; have := (bytes_len P).1; omega
      have hQl : Q.length ≤ 300 := by have := hT.size; have := (bytes_len Q).1; omega
      have HCL := Lib.hid (show c.data.toList = U.bytes P by rw [hS.eq, List.append_nil])
      have HDL := Lib.hid (show d.data.toList = U.bytes Q by rw [hT.eq, List.append_nil])
      go_enter Try.func10, Try.ntmps10
      go_wp2_with fail
      refine (HC.out _).mono ?_
      rintro e w' ⟨rfl, rfl⟩
      go_wp2_with fail
      refine (HD.out _).mono ?_
      rintro e w' ⟨rfl, rfl⟩
      go_wp2_with fail
      refine (points_ok hS _).mono ?_
      rintro e w1 ⟨v1, rfl, hI1, hb1⟩
      go_wp2_with fail
      refine (points_ok hT _).mono ?_
      rintro e w2 ⟨v2, rfl, hI2, hb2⟩
      go_wp2_with fail
      refine (known_any _).mono ?_
      rintro e w3 ⟨rfl, hb3⟩
      have hJ1 := (hI1.below hb2).below hb3
      have hJ2 := hI2.below hb3
      have hb := chain (chain hb1 hb2) hb3
      clear hI1 hI2 hb1 hb2 hb3
      by_cases hPQ : P = [] ∨ Q = []
      · have hp := order_head HCL.out HDL.out (by rcases hPQ with rfl | rfl <;> simp)
        have HP := Lib.hid hp
        obtain ⟨a1, c1, rfl⟩ := hJ1.form
        obtain ⟨a2, c2, rfl⟩ := hJ2.form
        clear hp hJ1 hJ2
        rcases hPQ with rfl | rfl
        · go_wp2
          refine wp_loop_rounds 1 ?_
          rw [rounds_succ]
          go_wp2
          go_ret
          exact ⟨ret_bool (by have := HP.out; first | exact this | (simpa using this)), hb⟩
        · go_wp2
          refine wp_loop_rounds 1 ?_
          rw [rounds_succ]
          go_wp2
          all_goals (go_ret; exact ⟨ret_bool (by have := HP.out; first | exact this | (simpa using this)), hb⟩)
      · rcases hJ1 with ⟨h, _⟩ | ⟨g, ca, rfl, hg, hca⟩
        · exact absurd (.inl h) hPQ
        rcases hJ2 with ⟨h, _⟩ | ⟨g2, cb, rfl, hg2, hcb⟩
        · exact absurd (.inr h) hPQ
        have HA := Lib.hid hca
        have HB := Lib.hid hcb
        have HW := Lib.hid hb
        clear hca hcb hPQ hb
        go_wp2
        go_loopw [9] (fun i wr => ∃ k : Nat, k ≤ P.length ∧ k ≤ Q.length ∧ i = .int .i64 (k : Nat) ∧ SameTo P Q k ∧ Below w3.heap.size w3 wr) (fun i _ => P.length - (intOf i).toNat)
        case atStart => exact ⟨0, Nat.zero_le _, Nat.zero_le _, rfl, rfl, Below.refl _ _⟩
        case round =>
          obtain ⟨k, hk, hk2, rfl, hsame, hbw⟩ := hrel
          have HS := Lib.hid hsame
          clear hsame
          by_cases hlt : k < P.length
          · by_cases hlt2 : k < Q.length
            · have c1 : wr.cell? ⟨g, k, none⟩ = some (.int .i64 ((P[k] : Nat) : Int)) := (hbw.cell (p := ⟨g, k, none⟩) hg).trans (HA.out k hlt)
              have c2 : wr.cell? ⟨g2, k, none⟩ = some (.int .i64 ((Q[k] : Nat) : Int)) := (hbw.cell (p := ⟨g2, k, none⟩) hg2).trans (HB.out k hlt2)
              have hbw2 := Lib.hid hbw
              clear hbw
              by_cases heq : P[k] = Q[k]
              · have HN := Lib.hid (show SameTo P Q (k + 1) by unfold SameTo; rw [List.take_succ_eq_append_getElem hlt, List.take_succ_eq_append_getElem hlt2, heq, HS.out])
                have e1 : (((P[k] : Nat) : Int) != ((Q[k] : Nat) : Int)) = false := by rw [bne_eq_false_iff_eq]; omega
                clear heq
                go_wp2
                go_quiet (fail)
                go_wp2
                go_roundw
                case rel => exact ⟨k + 1, by omega, by omega, by go_num, HN.out, below_drewN hbw2.out _⟩
                case measure => simp [intOf]; omega
              · have HF := Lib.hid (order_here HCL.out HDL.out hS.pts hT.pts k hlt hlt2 HS.out heq)
                have e1 : (((P[k] : Nat) : Int) != ((Q[k] : Nat) : Int)) = true := by rw [bne_iff_ne]; omega
                clear heq
                go_wp2
                go_quiet (fail)
                go_wp2
                go_quiet (fail)
                go_wp2
                go_ret
                exact ⟨ret_bool HF.out, chain HW.out (below_drewN (below_drewN hbw2.out _) _)⟩
            · have HF := Lib.hid (order_head HCL.out HDL.out (by have := HS.out; unfold SameTo at this; have e : min P.length Q.length = k := by omega
                                                                 rw [e]; exact this))
              go_wp2
              go_ret
              exact ⟨ret_bool HF.out, chain HW.out hbw⟩
          · have HF := Lib.hid (order_head HCL.out HDL.out (by have := HS.out; unfold SameTo at this; have e : min P.length Q.length = k := by omega
                                                               rw [e]; exact this))
            go_wp2
            go_ret
            exact ⟨ret_bool HF.out, chain HW.out hbw⟩
    · go_enter Try.func10, Try.ntmps10
      go_wp2_with fail
      refine (HC.out _).mono ?_
      rintro e w' ⟨rfl, rfl⟩
      go_wp2_with fail
      refine (HD.out _).mono ?_
      rintro e w' ⟨rfl, rfl⟩
      go_wp2_with fail
      refine (points_ok hS _).mono ?_
      rintro e w1 ⟨v1, rfl, hI1, hb1⟩
      go_wp2_with fail
      refine (points_no hT hb2 _).mono ?_
      rintro e w2 ⟨rfl, rfl⟩
      go_wp2_with fail
      refine (known_any _).mono ?_
      rintro e w3 ⟨rfl, hb3⟩
      go_wp2_with fail
      refine (known_any _).mono ?_
      rintro e w4 ⟨rfl, hb4⟩
      go_wp2
      go_ret
      exact ⟨rfl, chain (chain hb1 hb3) hb4⟩
  · by_cases hb2 : bad2 = []
    · subst hb2
      go_enter Try.func10, Try.ntmps10
      go_wp2_with fail
      refine (HC.out _).mono ?_
      rintro e w' ⟨rfl, rfl⟩
      go_wp2_with fail
      refine (HD.out _).mono ?_
      rintro e w' ⟨rfl, rfl⟩
      go_wp2_with fail
      refine (points_no hS hb _).mono ?_
      rintro e w1 ⟨rfl, rfl⟩
      go_wp2_with fail
      refine (points_ok hT _).mono ?_
      rintro e w2 ⟨v2, rfl, hI2, hb2⟩
      go_wp2_with fail
      refine (known_any _).mono ?_
      rintro e w3 ⟨rfl, hb3⟩
      go_wp2_with fail
      refine (known_any _).mono ?_
      rintro e w4 ⟨rfl, hb4⟩
      go_wp2
      go_ret
      exact ⟨rfl, chain (chain hb2 hb3) hb4⟩
    · go_enter Try.func10, Try.ntmps10
      go_wp2_with fail
      refine (HC.out _).mono ?_
      rintro e w' ⟨rfl, rfl⟩
      go_wp2_with fail
      refine (HD.out _).mono ?_
      rintro e w' ⟨rfl, rfl⟩
      go_wp2_with fail
      refine (points_no hS hb _).mono ?_
      rintro e w1 ⟨rfl, rfl⟩
      go_wp2_with fail
      refine (points_no hT hb2 _).mono ?_
      rintro e w2 ⟨rfl, rfl⟩
      go_wp2_with fail
      refine (known_any _).mono ?_
      rintro e w3 ⟨rfl, hb3⟩
      go_wp2_with fail
      refine (known_any _).mono ?_
      rintro e w4 ⟨rfl, hb4⟩
      go_wp2
      go_ret
      exact ⟨rfl, chain hb3 hb4⟩
end Go.Proofs.Ytblabbeaaajlkaa
