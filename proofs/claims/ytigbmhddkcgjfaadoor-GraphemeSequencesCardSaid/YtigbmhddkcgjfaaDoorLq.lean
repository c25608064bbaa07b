import Derived.Test.YtigbmhddkcgjfaaDoorLb
namespace Go.Proofs.YtigbmhddkcgjfaaDoor
open Go.RowKit Go.Shelf
open Gc

theorem u8_of {x : Int} (h : (Lit.int .u8 x).wf = true) : 0 ≤ x ∧ x ≤ 255 := by
  simpa [Lit.wf, IntKind.bits, IntKind.signed, IntKind.min, IntKind.max] using h

theorem str_app {s t : ByteArray} {P Q : List Nat} (h : Str s P []) (k : Str t Q []) (hs : (s ++ t).size ≤ 100000) : Str (s ++ t) (P ++ Q) [] := by
  refine ⟨fun p hp => ?_, ?_, h.bad, hs⟩
  · rcases List.mem_append.1 hp with hp | hp
    · exact h.pts p hp
    · exact k.pts p hp
  · rw [List.append_nil, U.bytes_append, ← h.whole, ← k.whole, ByteArray.data_append, Array.toList_append]
def rep (s : ByteArray) : Nat → ByteArray
  | 0 => ByteArray.empty
  | k + 1 => rep s k ++ s
def repL {α : Type} (l : List α) : Nat → List α
  | 0 => []
  | k + 1 => repL l k ++ l
theorem rep_size (s : ByteArray) (k : Nat) : (rep s k).size = k * s.size := by
  induction k with
  | zero => simp [rep]
  | succ k ih => rw [rep, ByteArray.size_append, ih, Nat.succ_mul]
theorem empty_str : Str ByteArray.empty [] [] := ⟨(fun _ h => by cases h), rfl, rfl, by decide⟩
theorem str_rep {s : ByteArray} {P : List Nat} (h : Str s P []) (k : Nat) (hs : k * s.size ≤ 100000) : Str (rep s k) (repL P k) [] := by
  induction k with
  | zero => exact empty_str
  | succ k ih =>
    refine str_app (ih (by rw [Nat.succ_mul] at hs; omega)) h ?_
    have := rep_size s (k + 1)
    rw [rep] at this
    omega
theorem cp_app (P Q : List Nat) : cp (P ++ Q) = cp P ++ cp Q := by simp [cp, clsOf]
theorem cp_rep (P : List Nat) (k : Nat) : cp (repL P k) = repL (cp P) k := by
  induction k with
  | zero => rfl
  | succ k ih => rw [repL, repL, cp_app, ih]

theorem emoji_one : ∀ a < 41, (cls ([14] ++ repL [4, 5, 14] a)).length = 1 := by decide +kernel
theorem flags_half : ∀ a < 41, (cls (repL [13] a)).length = (a + 1) / 2 := by decide +kernel
theorem marks_one : ∀ a < 41, (cls ([0] ++ repL [4] a)).length = 1 := by decide +kernel
theorem hangul_one : ∀ b < 40, ∀ a < 41, (cls (repL [8] b ++ [11] ++ repL [9] b ++ repL [10] a)).length = 1 := by decide +kernel
theorem cp_e : cp [127997, 8205, 128640] = [4, 5, 14] := by decide +kernel
theorem cp_w : cp [128105] = [14] := by decide +kernel
theorem cp_f : cp [127465] = [13] := by decide +kernel
theorem cp_l : cp [4352] = [8] := by decide +kernel
theorem cp_s : cp [44032] = [11] := by decide +kernel
theorem cp_v : cp [4449] = [9] := by decide +kernel
theorem cp_t : cp [4520] = [10] := by decide +kernel
theorem cp_x : cp [120] = [0] := by decide +kernel
theorem cp_m : cp [769] = [4] := by decide +kernel

def bE : ByteArray := ⟨#[240, 159, 143, 189, 226, 128, 141, 240, 159, 154, 128]⟩
def bW : ByteArray := ⟨#[240, 159, 145, 169]⟩
def bF : ByteArray := ⟨#[240, 159, 135, 169]⟩
def bL : ByteArray := ⟨#[225, 132, 128]⟩
def bS : ByteArray := ⟨#[234, 176, 128]⟩
def bV : ByteArray := ⟨#[225, 133, 161]⟩
def bT : ByteArray := ⟨#[225, 134, 168]⟩
def bM : ByteArray := ⟨#[204, 129]⟩
def bX : ByteArray := ⟨#[120]⟩
theorem sE : Str bE [127997, 8205, 128640] [] := ⟨pts_of _ (by decide), by decide, rfl, by decide⟩
theorem sW : Str bW [128105] [] := ⟨pts_of _ (by decide), by decide, rfl, by decide⟩
theorem sF : Str bF [127465] [] := ⟨pts_of _ (by decide), by decide, rfl, by decide⟩
theorem sL : Str bL [4352] [] := ⟨pts_of _ (by decide), by decide, rfl, by decide⟩
theorem sS : Str bS [44032] [] := ⟨pts_of _ (by decide), by decide, rfl, by decide⟩
theorem sV : Str bV [4449] [] := ⟨pts_of _ (by decide), by decide, rfl, by decide⟩
theorem sT : Str bT [4520] [] := ⟨pts_of _ (by decide), by decide, rfl, by decide⟩
theorem sM : Str bM [769] [] := ⟨pts_of _ (by decide), by decide, rfl, by decide⟩
theorem sX : Str bX [120] [] := ⟨pts_of _ (by decide), by decide, rfl, by decide⟩

def SameStr (s : ByteArray) (w : World) (e : Ending) (w' : World) : Prop := e = .returned (.string s) ∧ w = w'
set_option maxRecDepth 100000 in
set_option maxHeartbeats 2000000 in
theorem repeat_any (s : ByteArray) (hs : s.size ≤ 11) (n : Nat) (z : Int) (hz : z = n) (hn : n ≤ 41) (w : World) : Calls Tryd.prog 30 #[.string s, .int .i64 z] w (SameStr (rep s n) w) := by
  subst hz
  go_enter Tryd.func30, Tryd.ntmps30
  go_wp2
  go_loop [5, 6] (fun o i => ∃ (k : Nat), k ≤ n ∧ i = .int .i64 (k : Nat) ∧ o = .string (rep s k)) (fun _ i => n - (intOf i).toNat)
  case atStart => exact ⟨0, Nat.zero_le _, rfl, rfl⟩
  case round =>
    obtain ⟨k, hk, rfl, rfl⟩ := hrel
    by_cases hlt : k < n
    · have h1 := rep_size s k
      have h2 : k * s.size ≤ 41 * 11 := Nat.mul_le_mul (by omega) hs
      have h3 : (rep s k).size ≤ 451 := by omega
      have h4 : rep s (k + 1) = rep s k ++ s := rfl
      have H4 := Go.Lib.hid h4
      clear h1 h2 h4
      generalize rep s k = r at h3 H4
      go_wp2
      go_round
      case rel => exact ⟨k + 1, by omega, by go_num, by rw [H4.out]⟩
      case measure => simp [intOf]; omega
    · obtain rfl : k = n := by omega
      go_wp2
      go_ret
      exact ⟨rfl, rfl⟩
end Go.Proofs.YtigbmhddkcgjfaaDoor
