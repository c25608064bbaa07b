import Derived.Test.YtblabbeaaajlkaaB1
import Derived.Lib.Strings
import Derived.BigCall
namespace Go.Proofs.Ytblabbeaaajlkaa
open Go.RowKit
open U

def RepAt (l : List UInt8) (k : Nat) (acc : List UInt8) : Prop := acc ++ U.bytes (repAll (l.drop k)) = U.bytes (repAll l)
theorem RepAt.len {l k acc} (h : RepAt l k acc) : acc.length ≤ 4 * l.length := by
  unfold RepAt at h
  have h1 := congrArg List.length h
  rw [List.length_append] at h1
  have h2 := (bytes_len (repAll l)).2
  have h3 := (repAll_pts l.length l (Nat.le_refl _)).2
  omega

set_option maxRecDepth 100000 in
set_option maxHeartbeats 2000000 in
theorem repair_any (s : ByteArray) (hs : s.size ≤ 1000000) (w : World) :
    Calls Try.prog 31 #[.string s] w (StrRet (U.bytes (repAll s.data.toList)) w) := by
  have hlen : s.data.toList.length = s.size := by simp
  have HL := Lib.hid hlen
  clear hlen
  go_enter Try.func31, Try.ntmps31
  go_wp2
  go_loopw [4] (fun i wr => ∃ (k : Nat) (acc : List UInt8), k ≤ s.size + 3 ∧ i = .int .i64 (k : Nat) ∧ Lib.IsBuilderF 60 5 w.heap.size w.heap.size (Lib.byteCells acc) wr ∧ Below w.heap.size w wr ∧ RepAt s.data.toList k acc) (fun i _ => s.size - (intOf i).toNat)
  case atStart =>
    exact ⟨0, [], Nat.zero_le _, rfl, Lib.IsBuilderF.of (Lib.fresh_isBuilder 60 5 w), (Below.refl _ w).alloc (Nat.le_refl _) _, rfl⟩
  case round =>
    obtain ⟨k, acc, hk, rfl, hI, hbw, hacc⟩ := hrel
    have hal := hacc.len
    rw [HL.out] at hal
    have HA := Lib.hid hacc
    clear hacc
    have hsz := hbw.size
    by_cases hlt : k < s.size
    · have hne : s.data.toList.drop k ≠ [] := by rw [scan_head s k hlt]; exact List.cons_ne_nil _ _
      by_cases hd : (dec (s.data.toList.drop k)).2 = 0
      · obtain ⟨q, z, e1, e2, e3, e4⟩ := scan_none _ hne hd
        have hc : ∀ w, Calls Try.prog 37 #[.string s, .int .i64 k] w fun e w' => e = .returned (.tuple #[.int .i64 (q : Nat), .int .i64 (z : Nat), .bool false]) ∧ w = w' := by
          intro w
          have := scan_any s k hlt hs w
          unfold ScanRet at this
          rw [e1] at this; exact this
        have HC := Lib.hid hc
        have HD := Lib.hid hd
        have HE := Lib.hid e2
        have HNE := Lib.hid hne
        clear hc hd hne e1 e2
        go_wp2_with (first | (go_at_call 37; refine (HC.out _).mono ?_; rintro e w' ⟨rfl, rfl⟩) | (go_at_call 42; refine (write_any w.heap.size w.heap.size _ _ _ hI (by rw [Lib.byteCells_length]; show _ + 3 ≤ _; omega) hsz).mono ?_))
        rintro e W1 ⟨rfl, h1, b1⟩
        go_wp2
        go_roundw
        case rel =>
          refine ⟨k + max z 1, acc ++ [239, 191, 189], by omega, by congr 1; omega, ?_, hbw.trans b1, ?_⟩
          · rw [Lib.byteCells_append]; exact Or.inr h1
          · have := HA.out
            unfold RepAt at this ⊢
            rw [← this, repAll_bad _ HNE.out HD.out, List.drop_drop, HE.out, bytes_cons, List.append_assoc]
            rfl
        case measure => simp [intOf]; omega
      · have e1 := scan_some _ (dec (s.data.toList.drop k)).1 (dec (s.data.toList.drop k)).2 rfl hd
        obtain ⟨p1, p2, p3⟩ := dec_some _ (dec (s.data.toList.drop k)).1 (dec (s.data.toList.drop k)).2 rfl hd
        have hc : ∀ w, Calls Try.prog 37 #[.string s, .int .i64 k] w fun e w' => e = .returned (.tuple #[.int .i64 ((dec (s.data.toList.drop k)).1 : Nat), .int .i64 ((dec (s.data.toList.drop k)).2 : Nat), .bool true]) ∧ w = w' := by
          intro w
          have := scan_any s k hlt hs w
          unfold ScanRet at this
          rw [e1] at this; exact this
        have hrep := repAll_ok _ hne hd
        have hp4 := enc_pos (dec (s.data.toList.drop k)).1
        have hle : (dec (s.data.toList.drop k)).2 ≤ (s.data.toList.drop k).length := by
          have := congrArg List.length p2
          rw [List.length_append] at this; omega
        rw [List.length_drop, HL.out] at hle
        rw [List.drop_drop] at hrep
        have hcells : ∀ n, n = (dec (s.data.toList.drop k)).2 → Lib.strCells (s.extract k (k + n)) = Lib.byteCells (enc (dec (s.data.toList.drop k)).1) := by
          intro n hn
          rw [Lib.strCells_eq, Go.Lib.extract_data, Nat.add_sub_cancel_left]
          rw [← p3] at hn
          have := congrArg (List.take n) p2
          rw [hn, List.take_left] at this
          rw [hn, this]
        clear p1 p2 e1 hd hne
        generalize (dec (s.data.toList.drop k)).1 = p at *
        generalize (dec (s.data.toList.drop k)).2 = n at *
        have HC := Lib.hid hc
        have HR := Lib.hid hrep
        have HX := Lib.hid (hcells n rfl)
        have HP := Lib.hid p3
        have hn1 : 1 ≤ n := by omega
        have hn4 : n ≤ 4 := by omega
        clear hc hrep hcells p3 hp4
        have hsx : (s.extract k (k + n)).size = n := by rw [ByteArray.size_extract]; omega
        have HSX := Lib.hid hsx
        clear hsx
        go_wp2_with (first | (go_at_call 37; refine (HC.out _).mono ?_; rintro e w' ⟨rfl, rfl⟩) | (go_at_call 42; refine (write_any w.heap.size w.heap.size _ _ _ hI (by rw [Lib.byteCells_length, HSX.out]; omega) hsz).mono ?_))
        rintro e W1 ⟨rfl, h1, b1⟩
        rw [HX.out] at h1
        go_wp2
        go_roundw
        case rel =>
          refine ⟨k + n, acc ++ enc p, by omega, by congr 1; omega, ?_, hbw.trans b1, ?_⟩
          · rw [Lib.byteCells_append]; exact Or.inr h1
          · have := HA.out
            unfold RepAt at this ⊢
            rw [← this, HR.out, bytes_cons, List.append_assoc]
        case measure => simp [intOf]; omega
    · have hfin : acc = U.bytes (repAll s.data.toList) := by
        have := HA.out
        unfold RepAt at this
        rw [List.drop_eq_nil_of_le (by rw [HL.out]; omega), repAll_nil, bytes_nil, List.append_nil] at this
        exact this
      have HF := Lib.hid hfin
      clear hfin
      go_wp2_with (go_at_call 43; refine (Try.Builder_String_any_f w.heap.size w.heap.size acc _ hI hsz).mono ?_)
      rintro e W1 ⟨rfl, _, b1⟩
      go_wp2
      go_ret
      exact ⟨by rw [HF.out]; rfl, hbw.trans b1⟩
end Go.Proofs.Ytblabbeaaajlkaa
