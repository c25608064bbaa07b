import Derived.Test.YtblabbeaaajlkaaC1
namespace Go.Proofs.Ytblabbeaaajlkaa
open Go.RowKit
open U

theorem append_list (a b : ByteArray) : (a ++ b).data.toList = a.data.toList ++ b.data.toList := by
  rw [ByteArray.data_append]; simp
theorem decode_eq (s : ByteArray) (hs : s.size ≤ 1000000) (p n : Nat) (hd : dec s.data.toList = (p, n)) (w : World) :
    Calls Try.prog 26 #[.string s] w fun e w' => e = .returned (.tuple #[.int .i64 (p : Nat), .int .i64 (n : Nat)]) ∧ Below w.heap.size w w' := by
  have := decode_any s hs w
  unfold DecRet at this
  rw [hd] at this
  exact this
def strSize : Value → Nat
  | .string s => s.size
  | _ => 0
def Padded (s : ByteArray) (c : UInt8) (j : Nat) (L : ByteArray) : Prop := L.data.toList = s.data.toList ++ List.replicate j c
theorem Padded.size {s c j L} (h : Padded s c j L) : L.size = s.size + j := by
  have := congrArg List.length h
  rw [List.length_append, List.length_replicate] at this
  simpa using this
theorem Padded.next {s c j L} (h : Padded s c j L) (x : ByteArray) (hx : x.data.toList = [c]) : Padded s c (j + 1) (L ++ x) := by
  unfold Padded at *
  rw [append_list, h, hx, List.append_assoc, List.replicate_succ']

theorem beginsB_eq (a : UInt8) (t : List UInt8) (h : (a :: t).length < rn a.toNat) : beginsB (a :: t) = (decide ((dec (a :: t ++ List.replicate (rn a.toNat - (a :: t).length) 128)).2 ≠ 0) || decide ((dec (a :: t ++ List.replicate (rn a.toNat - (a :: t).length) 191)).2 ≠ 0)) := by
  unfold beginsB; simp only []; rw [decide_eq_true h, Bool.true_and]
set_option maxRecDepth 100000 in
set_option maxHeartbeats 4000000 in
theorem begins_any (s : ByteArray) (h0 : 0 < s.size) (h3 : s.size ≤ 3) (w : World) :
    Calls Try.prog 52 #[.string s] w fun e w' => e = .returned (.bool (beginsB s.data.toList)) ∧ Below w.heap.size w w' := by
  have hh : s.data.toList = s[0] :: s.data.toList.drop 1 := scan_head s 0 h0
  have h8 := s[0].toNat_lt
  have hlen : (s[0] :: s.data.toList.drop 1).length = s.size := by rw [← hh]; simp
  by_cases hl : rn s[0].toNat ≤ s.size
  · have HF := Lib.hid (show beginsB s.data.toList = false by rw [hh]; exact beginsB_long _ _ (by rw [hlen]; exact hl))
    rcases rn_cases s[0].toNat with ⟨e1, q⟩ | ⟨e1, _, g1, g2⟩ | ⟨e1, _, g1, g2⟩ | ⟨e1, _, g1, g2⟩
    · clear hh hlen e1 hl
      rcases q with q | q
      · go_enter Try.func52, Try.ntmps52
        go_wp2
        go_ret
        exact ⟨ret_bool HF.out.symm, Below.refl _ _⟩
      · go_enter Try.func52, Try.ntmps52
        go_wp2
        go_ret
        exact ⟨ret_bool HF.out.symm, Below.refl _ _⟩
    all_goals
      rw [e1] at hl
      clear hh hlen e1
      first
        | (exfalso; omega)
        | (go_enter Try.func52, Try.ntmps52
           go_wp2
           go_ret
           exact ⟨ret_bool HF.out.symm, Below.refl _ _⟩)
  · rcases rn_cases s[0].toNat with ⟨e1, q⟩ | ⟨e1, _, g1, g2⟩ | ⟨e1, _, g1, g2⟩ | ⟨e1, _, g1, g2⟩
    · omega
    all_goals
      have HN := Lib.hid e1
      rw [e1] at hl
      have hB : beginsB s.data.toList = (decide ((dec (s.data.toList ++ List.replicate (rn s[0].toNat - s.size) 128)).2 ≠ 0) || decide ((dec (s.data.toList ++ List.replicate (rn s[0].toNat - s.size) 191)).2 ≠ 0)) := by
        have := beginsB_eq s[0] (s.data.toList.drop 1) (by rw [hlen]; omega)
        rw [hlen, ← hh] at this
        exact this
      rw [e1] at hB
      have HB := Lib.hid hB
      clear hh hlen e1 hB
      go_enter Try.func52, Try.ntmps52
      go_wp2
      go_loop [3, 4] (fun a b => ∃ (j : Nat) (L G : ByteArray), s.size + j ≤ rn s[0].toNat ∧ a = .string L ∧ b = .string G ∧ Padded s 128 j L ∧ Padded s 191 j G) (fun a _ => 4 - strSize a)
      case atStart => exact ⟨0, s, s, by rw [HN.out]; omega, rfl, rfl, by unfold Padded; simp, by unfold Padded; simp⟩
      case round =>
        obtain ⟨j, L, G, hj, rfl, rfl, hL, hG⟩ := hrel
        rw [HN.out] at hj
        have s1 := hL.size
        have s2 := hG.size
        have S1 := Lib.hid s1
        have HL := Lib.hid hL
        have HG := Lib.hid hG
        have b1 : L.size ≤ 4 := by omega
        have b2 : G.size ≤ 4 := by omega
        by_cases hlt : L.size < rn s[0].toNat
        · rw [HN.out] at hlt
          have HJ := Lib.hid (show s.size + (j + 1) ≤ rn s[0].toNat by rw [HN.out]; omega)
          clear hL hG s1 s2 hj
          go_wp2
          go_round
          case rel => exact ⟨j + 1, _, _, HJ.out, rfl, rfl, HL.out.next _ rfl, HG.out.next _ rfl⟩
          case measure =>
            have := HL.out.next ⟨#[128]⟩ rfl
            have := this.size
            have := HL.out.size
            simp only [strSize]; omega
        · rw [HN.out] at hlt
          have hjn : j = rn s[0].toNat - s.size := by rw [HN.out]; omega
          rw [HN.out] at hjn
          have hLr := HL.out
          have hGr := HG.out
          unfold Padded at hLr hGr
          rw [hjn] at hLr hGr
          have hsL := L.size
          generalize hda : dec L.data.toList = ra
          generalize hdb : dec G.data.toList = rb
          obtain ⟨pa, na⟩ := ra
          obtain ⟨pb, nb⟩ := rb
          have hfin : beginsB s.data.toList = (decide (na ≠ 0) || decide (nb ≠ 0)) := by rw [HB.out, ← hLr, ← hGr, hda, hdb]
          have HF := Lib.hid hfin
          have HA := Lib.hid (fun w => decode_eq L (by omega) pa na hda w)
          have HC := Lib.hid (fun w => decode_eq G (by omega) pb nb hdb w)
          clear hL hG s1 s2 hj hjn hLr hGr hda hdb hfin hsL
          go_wp2_with fail
          refine (HA.out _).mono ?_
          rintro e w1 ⟨rfl, hb1⟩
          go_wp2_with fail
          refine (HC.out _).mono ?_
          rintro e w2 ⟨rfl, hb2⟩
          by_cases z1 : na = 0
          · subst z1
            go_wp2
            go_ret
            exact ⟨ret_bool (by rw [HF.out]; first | rfl | (simp [Nat.pos_iff_ne_zero]; done)), chain hb1 hb2⟩
          · have z2 : 0 < na := by omega
            go_wp2
            go_ret
            exact ⟨ret_bool (by rw [HF.out]; simp [z1]), chain hb1 hb2⟩

def BegAt (l : List UInt8) (k : Nat) : Prop := begGo l k = beg l
set_option maxRecDepth 100000 in
set_option maxHeartbeats 2000000 in
theorem beginning_any (s : ByteArray) (hs : s.size ≤ 1000000) (w : World) :
    Calls Try.prog 44 #[.string s] w fun e w' => e = .returned (.int .i64 (beg s.data.toList : Nat)) ∧ Below w.heap.size w w' := by
  have HLen := Lib.hid (show s.data.toList.length = s.size by simp)
  go_enter Try.func44, Try.ntmps44
  go_wp2
  go_loopw [2, 3] (fun _ i wr => ∃ k : Nat, k ≤ 3 ∧ k ≤ s.size ∧ i = .int .i64 (k : Nat) ∧ BegAt s.data.toList k ∧ Below w.heap.size w wr) (fun _ i _ => (intOf i).toNat)
  case atStart =>
    refine ⟨min 3 s.size, by omega, by omega, by congr 1; omega, ?_, Below.refl _ _⟩
    unfold BegAt beg; rw [HLen.out]
  case round =>
    obtain ⟨k, hk3, hk, rfl, hb, hbw⟩ := hrel
    have HB := Lib.hid hb
    clear hb
    by_cases h0 : k = 0
    · subst h0
      have HF := Lib.hid (show beg s.data.toList = 0 by have := HB.out; unfold BegAt at this; rw [← this]; rfl)
      go_wp2
      go_ret
      exact ⟨ret_int (by rw [HF.out]; rfl), hbw⟩
    · have hkp : 0 < k := by omega
      have hx : (s.extract 0 k).size = k := by rw [ByteArray.size_extract]; omega
      have hxl : (s.extract 0 k).data.toList = s.data.toList.take k := by rw [Go.Lib.extract_data]; simp
      have hc := fun w => begins_any (s.extract 0 k) (by omega) (by omega) w
      rw [hxl] at hc
      obtain ⟨m, hm⟩ : ∃ m, k = m + 1 := ⟨k - 1, by omega⟩
      have HM := Lib.hid hm
      cases hv : beginsB (s.data.toList.take k) with
      | true =>
        rw [hv] at hc
        have HC := Lib.hid hc
        have HF := Lib.hid (show beg s.data.toList = k by have := HB.out; unfold BegAt at this; rw [← this, HM.out, begGo, if_pos (by rw [← HM.out]; exact hv)])
        clear hx hxl hc hm hv h0
        go_wp2_with (go_at_call 52; refine (HC.out _).mono ?_; rintro e w' ⟨rfl, hb⟩)
        go_ret
        exact ⟨ret_int (by rw [HF.out]), chain hbw hb⟩
      | false =>
        rw [hv] at hc
        have HC := Lib.hid hc
        have HF := Lib.hid (show BegAt s.data.toList (k - 1) by have := HB.out; unfold BegAt at this ⊢; rw [← this, HM.out, begGo, if_neg (by rw [← HM.out, hv]; decide)]; rfl)
        clear hx hxl hc hm hv h0
        go_wp2_with (go_at_call 52; refine (HC.out _).mono ?_; rintro e w' ⟨rfl, hb⟩)
        go_roundw
        case rel => exact ⟨k - 1, by omega, by omega, by congr 1; omega, HF.out, chain hbw hb⟩
        case measure => simp [intOf]; omega
end Go.Proofs.Ytblabbeaaajlkaa
