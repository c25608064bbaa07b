import Derived.Test.YtblabbeaaajlkaaC1
namespace Go.Proofs.Ytblabbeaaajlkaa
open Go.RowKit
open U

theorem at_none (s : ByteArray) (hs : s.size ≤ 1000000) (k : Nat) (hk : k < s.size) (hd : (dec (s.data.toList.drop k)).2 = 0) (w : World) :
    Calls Try.prog 25 #[.string s, .int .i64 k] w fun e w' => e = .returned (.tuple #[.int .i64 0, .int .i64 0, .int .i64 12]) ∧ w = w' := by
  have := at_in s hs k hk w
  simp only [if_pos hd] at this
  exact this
theorem at_some (s : ByteArray) (hs : s.size ≤ 1000000) (k : Nat) (hk : k < s.size) (p n : Nat) (hd : dec (s.data.toList.drop k) = (p, n)) (hn : n ≠ 0) (w : World) :
    Calls Try.prog 25 #[.string s, .int .i64 k] w fun e w' => e = .returned (.tuple #[.int .i64 (p : Nat), .int .i64 (n : Nat), .int .i64 0]) ∧ w = w' := by
  have := at_in s hs k hk w
  rw [hd] at this
  simp only [if_neg hn] at this
  exact this
theorem decode_is (s : ByteArray) (hs : s.size ≤ 1000000) (k : Nat) (p n : Nat) (hd : dec (s.data.toList.drop k) = (p, n)) (w : World) :
    Calls Try.prog 26 #[.string (s.extract k s.size)] w fun e w' => e = .returned (.tuple #[.int .i64 (p : Nat), .int .i64 (n : Nat)]) ∧ Below w.heap.size w w' := by
  have := decode_at s hs k w
  unfold DecRet at this
  rw [hd] at this
  exact this

set_option maxRecDepth 100000 in
set_option maxHeartbeats 2000000 in
theorem law_at (s : ByteArray) (o : Int) (hs : s.size ≤ maxLen) (w : World) :
    Calls Try.prog 6 #[.string s, .int .i64 o] w (TrueRet w) := by
  have hz := cutS_size s
  have hsm := cutS_small s
  by_cases h1 : o < 0
  · go_enter Try.func6, Try.ntmps6
    go_wp2_with (first | (go_at_call 12; refine (cut_any s hs _).mono ?_; rintro e w' ⟨rfl, rfl⟩) | (go_at_call 13; refine (known_any _).mono ?_; rintro e w1 ⟨rfl, hb1⟩) | (go_at_call 25; refine (at_out _ hsm o (.inl h1) _).mono ?_; rintro e w' ⟨rfl, rfl⟩))
    go_ret
    exact ⟨rfl, hb1⟩
  by_cases h2 : ((cutS s).size : Int) ≤ o
  · go_enter Try.func6, Try.ntmps6
    go_wp2_with (first | (go_at_call 12; refine (cut_any s hs _).mono ?_; rintro e w' ⟨rfl, rfl⟩) | (go_at_call 13; refine (known_any _).mono ?_; rintro e w1 ⟨rfl, hb1⟩) | (go_at_call 25; refine (at_out _ hsm o (.inr h2) _).mono ?_; rintro e w' ⟨rfl, rfl⟩))
    go_ret
    exact ⟨rfl, hb1⟩
  obtain ⟨k, rfl⟩ : ∃ k : Nat, o = (k : Int) := ⟨o.toNat, by omega⟩
  have hk : k < (cutS s).size := by omega
  generalize hd : dec ((cutS s).data.toList.drop k) = r
  obtain ⟨p, n⟩ := r
  by_cases hn : n = 0
  · subst hn
    have hd0 : (dec ((cutS s).data.toList.drop k)).2 = 0 := by rw [hd]
    have hp : p = 0 := by have := dec_zero _ hd0; rw [hd] at this; injection this
    subst hp
    have HD := Lib.hid hd
    have HD0 := Lib.hid hd0
    clear hd hd0
    go_enter Try.func6, Try.ntmps6
    go_wp2_with (first | (go_at_call 12; refine (cut_any s hs _).mono ?_; rintro e w' ⟨rfl, rfl⟩) | (go_at_call 13; refine (known_any _).mono ?_; rintro e w1 ⟨rfl, hb1⟩) | (go_at_call 25; refine (at_none _ hsm k hk HD0.out _).mono ?_; rintro e w' ⟨rfl, rfl⟩) | (go_at_call 26; refine (decode_is _ hsm k 0 0 HD.out _).mono ?_; rintro e w2 ⟨rfl, hb2⟩))
    go_ret
    exact ⟨rfl, chain hb1 hb2⟩
  · have HD := Lib.hid hd
    have hn2 : ((n : Int) == 0) = false := by rw [beq_eq_false_iff_ne]; omega
    clear hd
    go_enter Try.func6, Try.ntmps6
    go_wp2_with (first | (go_at_call 12; refine (cut_any s hs _).mono ?_; rintro e w' ⟨rfl, rfl⟩) | (go_at_call 13; refine (known_any _).mono ?_; rintro e w1 ⟨rfl, hb1⟩) | (go_at_call 25; refine (at_some _ hsm k hk p n HD.out hn _).mono ?_; rintro e w' ⟨rfl, rfl⟩) | (go_at_call 26; refine (decode_is _ hsm k p n HD.out _).mono ?_; rintro e w2 ⟨rfl, hb2⟩))
    go_ret
    exact ⟨rfl, chain hb1 hb2⟩
end Go.Proofs.Ytblabbeaaajlkaa
