/- Layer 6: the law of numbers (8). -/
import Derived.Test.YtknbglcmjggkjaaK6
import Derived.Deep.RegionHeld3
namespace Go.Proofs.Ytknbglcmjggkjaa
open Go.RowKit Go.Shelf Go.Lib Co

theorem str_app {s t : ByteArray} {P Q : List Nat} (h : Cp.Str s P []) (k : Cp.Str t Q []) (hs : s.size + t.size ≤ 1000000) : Cp.Str (s ++ t) (P ++ Q) [] := by
  refine ⟨?_, ?_, rfl, by rw [ByteArray.size_append]; exact hs⟩
  · have h1 := h.eq
    have h2 := k.eq
    rw [List.append_nil] at h1 h2 ⊢
    rw [U.bytes_append, ← h1, ← h2]
    simp
  · intro p hp
    rcases List.mem_append.1 hp with hp | hp
    · exact h.pts p hp
    · exact k.pts p hp
theorem enc_low {p : Nat} (h : p < 128) : U.enc p = [UInt8.ofNat p] := by
  unfold U.enc U.encN
  rw [if_pos h]; rfl
theorem bytes_low {D : List Nat} (h : ∀ x ∈ D, x < 128) : U.bytes D = d8 D := by
  unfold U.bytes d8
  induction D with
  | nil => rfl
  | cons c r ih => rw [List.flatMap_cons, enc_low (h c (by simp)), ih (fun x hx => h x (by simp [hx]))]; rfl
theorem str_low {D : List Nat} (h : ∀ x ∈ D, x < 128) (hl : D.length ≤ 1000) : Cp.Str (bs (d8 D)) D [] :=
  ⟨by rw [bs_data, List.append_nil, bytes_low h], fun p hp => by have := h p hp; exact ⟨by omega, .inl (by omega)⟩, rfl, by rw [bs_size]; unfold d8; rw [List.length_map]; omega⟩
theorem last_dig {s : ByteArray} {P : List Nat} (h : Cp.Str s P []) {m : Nat} (hm : s.size = m + 1) (hb : ¬ (48 ≤ (s[m]'(by omega)).toNat ∧ (s[m]'(by omega)).toNat ≤ 57)) : ∀ x, P.getLast? = some x → dig x = false := by
  intro x hx
  cases hd : dig x with
  | false => rfl
  | true =>
    exfalso
    have hd' : 48 ≤ x ∧ x ≤ 57 := by simpa [dig] using hd
    obtain ⟨P', rfl⟩ : ∃ P', P = P' ++ [x] := by
      have := List.getLast?_eq_some_iff.1 hx
      obtain ⟨ys, hy⟩ := this
      exact ⟨ys, hy⟩
    have h1 := h.eq
    rw [List.append_nil, U.bytes_append, show U.bytes [x] = [UInt8.ofNat x] by unfold U.bytes; rw [List.flatMap_cons, enc_low (by omega)]; rfl] at h1
    have hlen : (U.bytes P').length = m := by
      have := congrArg List.length h1
      rw [List.length_append] at this
      simp at this
      omega
    have hg : s[m]'(by omega) = UInt8.ofNat x := by
      have e : s[m]'(by omega) = s.data.toList[m]'(by simp; omega) := rfl
      rw [e]
      simp only [h1]
      rw [List.getElem_append_right (by omega)]
      simp [hlen]
    rw [hg, UInt8.toNat_ofNat', Nat.mod_eq_of_lt (by omega)] at hb
    exact hb hd'
set_option maxRecDepth 100000 in
set_option maxHeartbeats 8000000 in
theorem numbers_known {x : Sx} {h : ByteArray} (ca : ∀ w, Calls Try.prog 14 #[.string h] w fun e w' => e = .returned (.string x.s) ∧ w' = w) (a b : Int) (hq : a < 0 ∨ b < 0 ∨ x.bad ≠ []) (w : World) :
    Calls Try.prog 8 #[.int .i64 a, .int .i64 b, .string h] w (TrueW w) := by
  by_cases hbad : x.bad = []
  · have hstr := Str.of x.str x.small
    rw [hbad] at hstr
    have cP := fun w' => points_ok hstr w'
    unfold PtsOk at cP
    have hq' : a < 0 ∨ b < 0 := by rcases hq with h | h | h <;> first | exact .inl h | exact .inr h | exact absurd hbad h
    clear hq
    by_cases ha : a < 0
    · go_enter Try.func8, Try.ntmps8
      go_wp2_with (first
        | (go_at_call 14; (with_reducible refine (ca _).mono ?_); rintro e w ⟨rfl, rfl⟩)
        | (go_at_call 26; (with_reducible refine (cP _).mono ?_); rintro e w1 ⟨v1, v2, rfl, _, _, k1⟩)
        | (go_at_call 16; (with_reducible refine (known_any w1).mono ?_); rintro e w2 ⟨rfl, k2⟩))
      refine (known_any w2).mono ?_
      rintro e w3 ⟨rfl, k3⟩
      have HB := Go.Lib.hid ((k1.trans (k2.mono k1.size)).trans (k3.mono (Nat.le_trans k1.size k2.size)))
      go_wp2
      go_ret
      exact ⟨rfl, HB.out⟩
    · have hb : b < 0 := by rcases hq' with h | h <;> first | exact absurd h ha | exact h
      go_enter Try.func8, Try.ntmps8
      go_wp2_with (first
        | (go_at_call 14; (with_reducible refine (ca _).mono ?_); rintro e w ⟨rfl, rfl⟩)
        | (go_at_call 26; (with_reducible refine (cP _).mono ?_); rintro e w1 ⟨v1, v2, rfl, _, _, k1⟩)
        | (go_at_call 16; (with_reducible refine (known_any w1).mono ?_); rintro e w2 ⟨rfl, k2⟩))
      refine (known_any w2).mono ?_
      rintro e w3 ⟨rfl, k3⟩
      have HB := Go.Lib.hid ((k1.trans (k2.mono k1.size)).trans (k3.mono (Nat.le_trans k1.size k2.size)))
      go_wp2
      go_ret
      exact ⟨rfl, HB.out⟩
  · have hstr := Str.of x.str x.small
    have cP := fun w' => points_bad hstr hbad w'
    unfold PtsBad at cP
    clear hq
    rcases (show a < 0 ∨ (¬ a < 0 ∧ b < 0) ∨ (¬ a < 0 ∧ ¬ b < 0) by omega) with ha | ⟨ha, hb⟩ | ⟨ha, hb⟩
    all_goals
      go_enter Try.func8, Try.ntmps8
      go_wp2_with (first
        | (go_at_call 14; (with_reducible refine (ca _).mono ?_); rintro e w ⟨rfl, rfl⟩)
        | (go_at_call 26; (with_reducible refine (cP _).mono ?_); rintro e w1 ⟨rfl, k1⟩)
        | (go_at_call 16; (with_reducible refine (known_any w1).mono ?_); rintro e w2 ⟨rfl, k2⟩))
      refine (known_any w2).mono ?_
      rintro e w3 ⟨rfl, k3⟩
      have HB := Go.Lib.hid ((k1.trans (k2.mono k1.size)).trans (k3.mono (Nat.le_trans k1.size k2.size)))
      go_wp2
      go_ret
      exact ⟨rfl, HB.out⟩
end Go.Proofs.Ytknbglcmjggkjaa
