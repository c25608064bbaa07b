import Derived.Test.YtblabbeaaajlkaaA4
namespace Go.Proofs.Ytblabbeaaajlkaa
open Go.RowKit
open U

def StrRet (l : List UInt8) (w : World) (e : Ending) (w' : World) : Prop := e = .returned (.string ⟨l.toArray⟩) ∧ Below w.heap.size w w'

set_option maxRecDepth 100000 in
theorem size_any (p : Nat) (w : World) :
    Calls Try.prog 49 #[.int .i64 p] w fun e w' => e = .returned (.int .i64 ((enc p).length : Nat)) ∧ w = w' := by
  have he := enc_len p
  generalize (enc p).length = n at *
  by_cases h1 : p < 128
  · rw [if_pos h1] at he
    subst he
    go_enter Try.func49, Try.ntmps49
    go_wp2
    go_ret
    exact ⟨rfl, rfl⟩
  rw [if_neg h1] at he
  by_cases h2 : p < 2048
  · rw [if_pos h2] at he
    subst he
    go_enter Try.func49, Try.ntmps49
    go_wp2
    go_ret
    exact ⟨rfl, rfl⟩
  rw [if_neg h2] at he
  by_cases h3 : p < 65536
  · rw [if_pos h3] at he
    subst he
    have k1 : ¬ (p : Int) < 128 := by omega
    have k2 : ¬ (p : Int) < 2048 := by omega
    have k3 : (p : Int) < 65536 := by omega
    clear h1 h2 h3
    go_enter Try.func49, Try.ntmps49
    go_wp2
    go_ret
    exact ⟨rfl, rfl⟩
  · rw [if_neg h3] at he
    subst he
    have k1 : ¬ (p : Int) < 128 := by omega
    have k2 : ¬ (p : Int) < 2048 := by omega
    have k3 : ¬ (p : Int) < 65536 := by omega
    clear h1 h2 h3
    go_enter Try.func49, Try.ntmps49
    go_wp2
    go_ret
    exact ⟨rfl, rfl⟩
set_option maxRecDepth 100000 in
theorem size_1 (p : Nat) (h : p < 128) (w : World) : Calls Try.prog 49 #[.int .i64 p] w fun e w' => e = .returned (.int .i64 1) ∧ w = w' := by
  have := size_any p w; rw [enc_len, if_pos h] at this; exact this
set_option maxRecDepth 100000 in
theorem size_2 (p : Nat) (h0 : ¬ p < 128) (h : p < 2048) (w : World) : Calls Try.prog 49 #[.int .i64 p] w fun e w' => e = .returned (.int .i64 2) ∧ w = w' := by
  have := size_any p w; rw [enc_len, if_neg h0, if_pos h] at this; exact this
set_option maxRecDepth 100000 in
theorem size_3 (p : Nat) (h0 : ¬ p < 2048) (h : p < 65536) (w : World) : Calls Try.prog 49 #[.int .i64 p] w fun e w' => e = .returned (.int .i64 3) ∧ w = w' := by
  have := size_any p w; rw [enc_len, if_neg (by omega), if_neg h0, if_pos h] at this; exact this
set_option maxRecDepth 100000 in
theorem size_4 (p : Nat) (h0 : ¬ p < 65536) (w : World) : Calls Try.prog 49 #[.int .i64 p] w fun e w' => e = .returned (.int .i64 4) ∧ w = w' := by
  have := size_any p w; rw [enc_len, if_neg (by omega), if_neg (by omega), if_neg h0] at this; exact this

theorem conv_back (w : World) (a : Addr) (n cap : Nat) (l : List UInt8) (hn : l.length = n)
    (hc : ∀ j (hj : j < l.length), w.cell? (a.add j) = some (.int .u8 (l[j].toNat : Int))) :
    (convert 55 9 (.slice (some a) n cap)).run Try.prog w = .ok (.string ⟨l.toArray⟩) w := by
  subst hn
  exact run_convert_bytes_back w 55 9 5 a cap l Try.underlying55 Try.underlying5 Try.underlying9 hc

set_option maxRecDepth 100000 in
set_option maxHeartbeats 1000000 in
theorem encode_1 (p : Nat) (h : p < 128) (w : World) :
    Calls Try.prog 40 #[.int .i64 p] w (StrRet (enc p) w) := by
  have he : enc p = [Nat.toUInt8 p] := by unfold enc encN; rw [if_pos h]; rfl
  have hconv : (convert 55 9 (.slice (some ⟨w.heap.size, 0, none⟩) 1 1)).run Try.prog (w.alloc (.cells #[.int .u8 p] 5)) = .ok (.string ⟨(enc p).toArray⟩) (w.alloc (.cells #[.int .u8 p] 5)) := by
    refine conv_back _ _ _ _ _ (by rw [he]; rfl) ?_
    rw [he]
    intro j hj
    match j, hj with
    | 0, _ => rw [List.getElem_cons_zero, u8_toNat p (by omega)]; simp [Addr.add]
  have HE := Lib.hid he
  clear he
  go_enter Try.func40, Try.ntmps40
  go_wp2_with (go_at_call 49; refine (size_1 p h _).mono ?_; rintro e w' ⟨rfl, rfl⟩)
  go_ret
  exact ⟨rfl, (Below.refl _ _).alloc (Nat.le_refl _) _⟩
theorem conv_nums (w : World) (b n cap : Nat) (xs : List Int) (l : List UInt8) (hn : xs.length = n) (hl : xs.map (fun x => UInt8.ofNat x.toNat) = l)
    (hc : ∀ i, i < n → w.cell? ⟨b, 0 + i, none⟩ = some (.int .u8 (xs.getD i 0))) :
    (convert 55 9 (.slice (some ⟨b, 0, none⟩) n cap)).run Try.prog w = .ok (.string ⟨l.toArray⟩) w := by
  have := run_convert_bytes_arg w 55 5 Try.underlying55 Try.underlying5 b 0 n cap xs hn hc 9 Try.underlying9
  rw [this, ← hl]; rfl
/-- The table of the first bytes. -/
def firsts : Array Value := #[.int .i64 0, .int .i64 0, .int .i64 192, .int .i64 224, .int .i64 240]

set_option maxRecDepth 100000 in
set_option maxHeartbeats 1000000 in
theorem encode_2 (p : Nat) (h0 : ¬ p < 128) (h : p < 2048) (w : World) :
    Calls Try.prog 40 #[.int .i64 p] w (StrRet (enc p) w) := by
  have hmk : ∀ w, (Instr.makeSlice 55 (.int .i64 2) (.int .i64 2)).run Try.prog w = .ok (.slice (some ⟨w.heap.size, 0, none⟩) 2 2) (w.alloc (.cells #[.int .u8 0, .int .u8 0] 5)) := fun _ => by kernel_rfl
  have he : [192 + (p : Int) / 64, 128 + (p : Int) % 64].map (fun x => UInt8.ofNat x.toNat) = enc p := by
    unfold enc encN; rw [if_neg h0, if_pos h]
    simp only [List.map_cons, List.map_nil]
    rw [show (192 + (p : Int) / 64).toNat = 192 + p / 64 by omega, show (128 + (p : Int) % 64).toNat = 128 + p % 64 by omega]
  have hconv := conv_nums ((w.alloc (.cells #[.int .u8 (192 + (p : Int) / 64), .int .u8 (128 + (p : Int) % 64)] 5)).alloc (.cells #[.int .i64 0, .int .i64 0, .int .i64 192, .int .i64 224, .int .i64 240] 3)) w.heap.size 2 2 [192 + (p : Int) / 64, 128 + (p : Int) % 64] (enc p) rfl he (by
    intro i hi
    match i, hi with
    | 0, _ => simp
    | 1, _ => simp)
  clear he
  go_enter Try.func40, Try.ntmps40
  go_wp2_with (go_at_call 49; refine (size_2 p h0 h _).mono ?_; rintro e w' ⟨rfl, rfl⟩)
  refine wp_loop_rounds 2 ?_
  rw [rounds_succ]
  go_wp2
  rw [rounds_succ]
  go_wp2
  go_ret
  exact ⟨rfl, ((Below.refl _ _).alloc (Nat.le_refl _) _).alloc (by simp) _⟩

set_option maxRecDepth 100000 in
set_option maxHeartbeats 1000000 in
theorem encode_3 (p : Nat) (h0 : ¬ p < 2048) (h : p < 65536) (w : World) :
    Calls Try.prog 40 #[.int .i64 p] w (StrRet (enc p) w) := by
  have hmk : ∀ w, (Instr.makeSlice 55 (.int .i64 3) (.int .i64 3)).run Try.prog w = .ok (.slice (some ⟨w.heap.size, 0, none⟩) 3 3) (w.alloc (.cells #[.int .u8 0, .int .u8 0, .int .u8 0] 5)) := fun _ => by kernel_rfl
  have he : [224 + (p : Int) / 64 / 64, 128 + (p : Int) / 64 % 64, 128 + (p : Int) % 64].map (fun x => UInt8.ofNat x.toNat) = enc p := by
    unfold enc encN; rw [if_neg (by omega), if_neg h0, if_pos h]
    simp only [List.map_cons, List.map_nil]
    rw [show (224 + (p : Int) / 64 / 64).toNat = 224 + p / 4096 by omega, show (128 + (p : Int) / 64 % 64).toNat = 128 + p / 64 % 64 by omega, show (128 + (p : Int) % 64).toNat = 128 + p % 64 by omega]
  have hconv := conv_nums ((w.alloc (.cells #[.int .u8 (224 + (p : Int) / 64 / 64), .int .u8 (128 + (p : Int) / 64 % 64), .int .u8 (128 + (p : Int) % 64)] 5)).alloc (.cells #[.int .i64 0, .int .i64 0, .int .i64 192, .int .i64 224, .int .i64 240] 3)) w.heap.size 3 3 [224 + (p : Int) / 64 / 64, 128 + (p : Int) / 64 % 64, 128 + (p : Int) % 64] (enc p) rfl he (by
    intro i hi
    match i, hi with
    | 0, _ => simp
    | 1, _ => simp
    | 2, _ => simp)
  clear he
  go_enter Try.func40, Try.ntmps40
  go_wp2_with (go_at_call 49; refine (size_3 p h0 h _).mono ?_; rintro e w' ⟨rfl, rfl⟩)
  refine wp_loop_rounds 3 ?_
  rw [rounds_succ]
  go_wp2
  rw [rounds_succ]
  go_wp2
  rw [rounds_succ]
  go_wp2
  go_ret
  exact ⟨rfl, ((Below.refl _ _).alloc (Nat.le_refl _) _).alloc (by simp) _⟩

set_option maxRecDepth 100000 in
set_option maxHeartbeats 1000000 in
theorem encode_4 (p : Nat) (h0 : ¬ p < 65536) (h : p ≤ 1114111) (w : World) :
    Calls Try.prog 40 #[.int .i64 p] w (StrRet (enc p) w) := by
  have hmk : ∀ w, (Instr.makeSlice 55 (.int .i64 4) (.int .i64 4)).run Try.prog w = .ok (.slice (some ⟨w.heap.size, 0, none⟩) 4 4) (w.alloc (.cells #[.int .u8 0, .int .u8 0, .int .u8 0, .int .u8 0] 5)) := fun _ => by kernel_rfl
  have he : [240 + (p : Int) / 64 / 64 / 64, 128 + (p : Int) / 64 / 64 % 64, 128 + (p : Int) / 64 % 64, 128 + (p : Int) % 64].map (fun x => UInt8.ofNat x.toNat) = enc p := by
    unfold enc encN; rw [if_neg (by omega), if_neg (by omega), if_neg h0]
    simp only [List.map_cons, List.map_nil]
    rw [show (240 + (p : Int) / 64 / 64 / 64).toNat = 240 + p / 262144 by omega, show (128 + (p : Int) / 64 / 64 % 64).toNat = 128 + p / 4096 % 64 by omega, show (128 + (p : Int) / 64 % 64).toNat = 128 + p / 64 % 64 by omega, show (128 + (p : Int) % 64).toNat = 128 + p % 64 by omega]
  have hconv := conv_nums ((w.alloc (.cells #[.int .u8 (240 + (p : Int) / 64 / 64 / 64), .int .u8 (128 + (p : Int) / 64 / 64 % 64), .int .u8 (128 + (p : Int) / 64 % 64), .int .u8 (128 + (p : Int) % 64)] 5)).alloc (.cells #[.int .i64 0, .int .i64 0, .int .i64 192, .int .i64 224, .int .i64 240] 3)) w.heap.size 4 4 [240 + (p : Int) / 64 / 64 / 64, 128 + (p : Int) / 64 / 64 % 64, 128 + (p : Int) / 64 % 64, 128 + (p : Int) % 64] (enc p) rfl he (by
    intro i hi
    match i, hi with
    | 0, _ => simp
    | 1, _ => simp
    | 2, _ => simp
    | 3, _ => simp)
  clear he
  go_enter Try.func40, Try.ntmps40
  go_wp2_with (go_at_call 49; refine (size_4 p h0 _).mono ?_; rintro e w' ⟨rfl, rfl⟩)
  refine wp_loop_rounds 4 ?_
  rw [rounds_succ]
  go_wp2
  rw [rounds_succ]
  go_wp2
  rw [rounds_succ]
  go_wp2
  rw [rounds_succ]
  go_wp2
  go_ret
  exact ⟨rfl, ((Below.refl _ _).alloc (Nat.le_refl _) _).alloc (by simp) _⟩

theorem encode_any (p : Nat) (h : p ≤ 1114111) (w : World) : Calls Try.prog 40 #[.int .i64 p] w (StrRet (enc p) w) := by
  by_cases h1 : p < 128
  · exact encode_1 p h1 w
  by_cases h2 : p < 2048
  · exact encode_2 p h1 h2 w
  by_cases h3 : p < 65536
  · exact encode_3 p h2 h3 w
  · exact encode_4 p h3 h w
end Go.Proofs.Ytblabbeaaajlkaa
