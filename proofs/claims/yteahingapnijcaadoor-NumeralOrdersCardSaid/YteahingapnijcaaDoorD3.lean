/- Layer 9: the law Orders. -/
import Derived.Test.YteahingapnijcaaDoorD1
namespace Go.Proofs.YteahingapnijcaaDoor
open Go.RowKit Go.Lib Go.Shelf Nu9

theorem bless_lexlt : ∀ l m : List UInt8, Op.bytesLess l m = lexlt l m := by
  intro l
  induction l with
  | nil => intro m; cases m <;> rfl
  | cons a l ih =>
    intro m
    cases m with
    | nil => rfl
    | cons b m =>
      simp only [Op.bytesLess, lexlt]
      rw [ih m]
      by_cases h1 : a < b
      · simp [h1]
      · by_cases h2 : b < a
        · have : a ≠ b := fun e => by subst e; exact h1 h2
          simp [h1, h2, this]
        · have : a = b := by
            apply UInt8.toNat_inj.1
            rw [UInt8.lt_iff_toNat_lt] at h1 h2
            omega
          subst this
          simp [h1]
theorem lexlt_up : ∀ l m : List UInt8, ltrs l → ltrs m → lexlt (l.map up) (m.map up) = lexlt l m := by
  intro l
  induction l with
  | nil => intro m _ _; cases m <;> rfl
  | cons a l ih =>
    intro m hl hm
    cases m with
    | nil => rfl
    | cons b m =>
      have ha := hl a (by simp)
      have hb := hm b (by simp)
      have ua := up_yes ha.1 ha.2
      have ub := up_yes hb.1 hb.2
      simp only [List.map_cons, lexlt]
      rw [ih m (fun c hc => hl c (by simp [hc])) (fun c hc => hm c (by simp [hc]))]
      have e1 : (up a < up b) = (a < b) := by rw [UInt8.lt_iff_toNat_lt, UInt8.lt_iff_toNat_lt]; apply propext; omega
      have e2 : (up b < up a) = (b < a) := by rw [UInt8.lt_iff_toNat_lt, UInt8.lt_iff_toNat_lt]; apply propext; omega
      simp only [e1, e2]
/-- The comparison in the law's words. -/
def lessB (S T : List UInt8) : Bool := decide (S.length < T.length) || (decide (S.length = T.length) && Op.bytesLess S T)
theorem lessB_eq (S T : List UInt8) : lessB S T = less S T := by unfold lessB less; rw [bless_lexlt]
theorem fmt_less (f a b : Int) (hf : f = 1 ∨ f = 2 ∨ f = 3) (ha : fmtE f a = 0) (hb : fmtE f b = 0) : lessB (fmtS f a) (fmtS f b) = decide (a < b) := by
  rw [lessB_eq]
  obtain ⟨A, rfl, _, _, h3⟩ := isNum_open (⟨by omega, ha, rfl⟩ : isNum f (fmtS f a) a)
  obtain ⟨B, rfl, _, _, h6⟩ := isNum_open (⟨by omega, hb, rfl⟩ : isNum f (fmtS f b) b)
  rw [← h3, ← h6]
  have e : decide ((A : Int) < (B : Int)) = decide (A < B) := by simp
  rw [e]
  rcases hf with rfl | rfl | rfl
  · exact less_dec A B
  · exact less_ltr A B
  · show less ((ltr A).map up) ((ltr B).map up) = _
    rw [← less_ltr A B]
    unfold less
    rw [List.length_map, List.length_map, lexlt_up _ _ (ltr_ltrs A) (ltr_ltrs B)]
theorem fmt_short (f n : Int) (hf : f = 1 ∨ f = 2 ∨ f = 3) (h : fmtE f n = 0) : (fmtS f n).length ≤ 40 := (fmt_len f n (by omega) h).2.1
def three : Array Value := #[.int .i64 1, .int .i64 2, .int .i64 3]
theorem three_at (j : Nat) (h : j < 3) : three[j]? = some (.int .i64 ((j + 1 : Nat) : Int)) := by
  match j, h with
  | 0, _ => rfl
  | 1, _ => rfl
  | 2, _ => rfl
  | n + 3, h => omega
set_option maxRecDepth 100000 in
set_option maxHeartbeats 8000000 in
theorem law_orders (a b : Int) (w : World) (hW : LaidW w) : Calls Tryd.prog 8 #[.int .i64 a, .int .i64 b] w (TrueB w) := by
  go_enter Tryd.func8, Tryd.ntmps8
  go_wp2_with fail
  refine (known_any _ hW).mono ?_
  rintro e w1 ⟨rfl, hb1⟩
  have hW1 := hW.below hb1
  obtain ⟨W0, hW0⟩ : ∃ W0, W0 = w1.alloc (.cells three 3) := ⟨_, rfl⟩
  have HC : Hid (∀ j, j < 3 → W0.cell? ⟨w1.heap.size, j, none⟩ = some (.int .i64 ((j : Int) + 1))) := Lib.hid fun j h => by
    rw [hW0, show (j : Int) + 1 = ((j + 1 : Nat) : Int) by omega, ← three_at j h]; exact World.cell?_alloc_mark w1 three 3 (0, 0) j
  have hB0 : Below w.heap.size w W0 := by rw [hW0]; exact hb1.alloc hb1.size _
  have hWW : LaidW W0 := by rw [hW0]; exact hW1.below ((Below.refl _ _).alloc (Nat.le_refl _) _)
  have hlt0 : w1.heap.size < W0.heap.size := by rw [hW0]; simp
  unfold three at hW0
  have H0 := Lib.hid hW0
  clear hW0 hb1 hW1
  go_wp2
  rw [← H0.out]
  clear H0
  go_loopw [6, 7, 8, 9, 10, 11, 16] (fun _ _ _ _ _ _ i wr => ∃ j : Nat, j ≤ 3 ∧ i = .int .i64 (j : Nat) ∧ Below W0.heap.size W0 wr) (fun _ _ _ _ _ _ i _ => (3 - intOf i).toNat)
  case atStart => exact ⟨0, by omega, rfl, Below.refl _ _⟩
  case round =>
    obtain ⟨j, hj, rfl, hbw⟩ := hrel
    have hsz := hbw.size
    by_cases hlt : j < 3
    · have hc := (hbw.cell (p := ⟨w1.heap.size, j, none⟩) hlt0).trans (HC.out j hlt)
      have hWr := hWW.below hbw
      have hjb : decide ((j : Int) < 3) = true := decide_eq_true (by omega)
      have cA := fun w' (h : LaidW w') => format_any ((j : Int) + 1) a w' h
      have cB := fun w' (h : LaidW w') => format_any ((j : Int) + 1) b w' h
      unfold FmtR at cA cB
      have HL := Lib.hid (fmt_less ((j : Int) + 1) a b (by omega))
      have HS := Lib.hid (fmt_short ((j : Int) + 1) a (by omega))
      have HT := Lib.hid (fmt_short ((j : Int) + 1) b (by omega))
      generalize fmtS ((j : Int) + 1) a = S at cA HL HS
      generalize fmtE ((j : Int) + 1) a = E at cA HL HS
      generalize fmtS ((j : Int) + 1) b = T at cB HL HT
      generalize fmtE ((j : Int) + 1) b = F at cB HL HT
      by_cases hE : E = 0 ∧ F = 0
      · obtain ⟨rfl, rfl⟩ := hE
        have HX := Lib.hid (HL.out rfl rfl)
        have hs := HS.out rfl
        have ht := HT.out rfl
        rw [← bs_size] at hs ht
        have key : ((bs S).size < (bs T).size ∧ a < b) ∨ (((bs T).size < (bs S).size ∧ decide ((bs S).size < (bs T).size) = false) ∧ b ≤ a) ∨ ((bs S).size = (bs T).size ∧ Op.bytesLess (bs S).toList (bs T).toList = true ∧ a < b) ∨ ((bs S).size = (bs T).size ∧ Op.bytesLess (bs S).toList (bs T).toList = false ∧ b ≤ a) := by
          have := HX.out
          unfold lessB at this
          rw [bs_size, bs_size, bs_toList, bs_toList]
          rcases Nat.lt_trichotomy S.length T.length with h | h | h
          · left
            simp [h] at this
            exact ⟨h, this⟩
          · cases hbl : Op.bytesLess S T
            · right; right; right
              simp [h, hbl] at this
              exact ⟨h, rfl, this⟩
            · right; right; left
              simp [h, hbl] at this
              exact ⟨h, rfl, this⟩
          · right; left
            have h1 : ¬ S.length < T.length := by omega
            have h2 : ¬ S.length = T.length := by omega
            simp [h1, h2] at this
            exact ⟨⟨h, decide_eq_false h1⟩, this⟩
        clear HL HX HS HT
        rcases key with ⟨k1, k2⟩ | ⟨⟨k1, k4⟩, k2⟩ | ⟨k1, k3, k2⟩ | ⟨k1, k3, k2⟩
        all_goals
          go_wp2_with fail
          refine (cA _ hWr).mono ?_
          rintro e w2 ⟨rfl, hb2⟩
          have hW2 := hWr.below hb2
          go_wp2_with (go_at_call 14; (with_reducible refine (cB _ hW2).mono ?_); rintro e w3 ⟨rfl, hb3⟩)
          have HB := Lib.hid (hbw.trans ((chain hb2 hb3).mono hsz))
          go_roundw
          case rel => exact ⟨j + 1, by omega, by go_num, HB.out⟩
          case measure => simp [intOf]; omega
      · clear HL HS HT
        by_cases hE0 : E = 0
        · subst hE0
          have qF : (F != 0) = true := by simp; exact fun h => hE ⟨rfl, h⟩
          clear hE
          go_wp2_with fail
          refine (cA _ hWr).mono ?_
          rintro e w2 ⟨rfl, hb2⟩
          have hW2 := hWr.below hb2
          go_wp2_with (go_at_call 14; (with_reducible refine (cB _ hW2).mono ?_); rintro e w3 ⟨rfl, hb3⟩)
          have HB := Lib.hid (hbw.trans ((chain hb2 hb3).mono hsz))
          go_roundw
          case rel => exact ⟨j + 1, by omega, by go_num, HB.out⟩
          case measure => simp [intOf]; omega
        · have qE : (E != 0) = true := by simpa using hE0
          clear hE hE0
          go_wp2_with fail
          refine (cA _ hWr).mono ?_
          rintro e w2 ⟨rfl, hb2⟩
          have hW2 := hWr.below hb2
          go_wp2_with (go_at_call 14; (with_reducible refine (cB _ hW2).mono ?_); rintro e w3 ⟨rfl, hb3⟩)
          have HB := Lib.hid (hbw.trans ((chain hb2 hb3).mono hsz))
          go_roundw
          case rel => exact ⟨j + 1, by omega, by go_num, HB.out⟩
          case measure => simp [intOf]; omega
    · go_wp2
      go_ret
      exact ⟨rfl, hB0.trans (hbw.mono hB0.size)⟩
end Go.Proofs.YteahingapnijcaaDoor
