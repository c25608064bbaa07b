/- Layer 4: the law Snapshots. -/
import Derived.Test.YtonplacldckbgaaKa
namespace Go.Proofs.Ytonplacldckbgaa
open Go.RowKit Go.Shelf Go.Lib Pt

theorem ext_min50 (s : List UInt8) : (bs s).extract 0 (min (s.length : Int) 50).toNat = bs (s.take 50) := by
  rw [show (min (s.length : Int) 50).toNat = min 50 s.length by omega, ext_take, ← List.take_take, List.take_length]
theorem equal_same {b g : Nat} {t s : Tr} (hE : t.bytes = s.bytes) (w : World) (h : TAt w b t) (k : TAt w g s) (hf : Fine t) (hs : Fine s) : Calls Try.prog 30 #[.pointer (some ⟨b, 0, none⟩), .pointer (some ⟨g, 0, none⟩)] w fun e w' => e = .returned (.bool true) ∧ Below w.heap.size w w' :=
  (equal_any w h k hf hs).mono (fun e w' q => ⟨by rw [q.1, decide_eq_true hE], q.2⟩)
theorem equal_beq {b g : Nat} {t s : Tr} (w : World) (h : TAt w b t) (k : TAt w g s) (hf : Fine t) (hs : Fine s) : Calls Try.prog 30 #[.pointer (some ⟨b, 0, none⟩), .pointer (some ⟨g, 0, none⟩)] w fun e w' => e = .returned (.bool ((bs t.bytes).toList == (bs s.bytes).toList)) ∧ Below w.heap.size w w' :=
  (equal_any w h k hf hs).mono (fun e w' q => ⟨by rw [q.1, bs_toList, bs_toList]; by_cases h9 : t.bytes = s.bytes <;> simp [h9], q.2⟩)
set_option maxRecDepth 100000 in
set_option maxHeartbeats 16000000 in
theorem law_snapshots (s : ByteArray) (hs : s.size ≤ maxLen) (A : Option Addr) (n c : Nat) (ops : List Op4) (w : World) (h : OpsIn w A n c ops) (A2 : Option Addr) (n2 c2 : Nat) (ops2 : List Op4) (h2 : OpsIn w A2 n2 c2 ops2) : Calls Try.prog 8 #[.string s, .slice A n c, .slice A2 n2 c2] w (BoolB true w) := by
  have H2 := Go.Lib.hid h2
  have hn2 : n2 ≤ maxLen := h2.hm
  unfold maxLen at hn2
  clear h2
  obtain ⟨l, rfl, hl⟩ := str_in s hs
  have H := Go.Lib.hid h
  clear h hs
  go_enter Try.func8, Try.ntmps8
  go_wp2_with fail
  (with_reducible refine (known_any _).mono ?_)
  rintro e w1 ⟨rfl, k1⟩
  go_wp2_with fail
  (with_reducible refine (cutS_any l w1 hl).mono ?_)
  rintro e w1 ⟨rfl, rfl⟩
  go_wp2_with fail
  (with_reducible refine (run_in l H.out k1).mono ?_)
  intro e w3 h3
  obtain ⟨g, T, ed, rfl, t3, ok, pc, he, hl3, hg, k3⟩ := h3
  have HT := Go.Lib.hid t3
  have HB : Hid (Below w.heap.size w w3) := Go.Lib.hid (chain k1 k3)
  have OK := Go.Lib.hid ok
  have hf : Fine T := fine_ok ok (by omega)
  have hz := bs_size T.bytes
  have hgw : w.heap.size ≤ g := Nat.le_trans k1.size hg
  clear k1 k3 t3 H hg ok
  go_wp2_with fail
  (with_reducible refine (snap_any w3 HT.out).mono ?_)
  rintro e w4 ⟨g2, rfl, hg2, t4, k4⟩
  have hgg : g2 ≠ g := by obtain ⟨_, _, _, _, h9, _⟩ := HT.out; omega
  have HT4 := Go.Lib.hid (HT.out.below k4)
  have HS4 := Go.Lib.hid t4
  have HB4 : Hid (Below w.heap.size w w4) := Go.Lib.hid (chain HB.out k4)
  have hgw2 : w.heap.size ≤ g2 := by have := HB.out.size; omega
  clear k4 t4 HT HB
  go_wp2_with fail
  (with_reducible refine (equal_same rfl w4 HS4.out HT4.out hf hf).mono ?_)
  rintro e w5 ⟨rfl, k5⟩
  have HT5 := Go.Lib.hid (HT4.out.below k5)
  have HS5 := Go.Lib.hid (HS4.out.below k5)
  have HB5 : Hid (Below w.heap.size w w5) := Go.Lib.hid (chain HB4.out k5)
  clear k5 HT4 HS4 HB4
  go_wp2_with fail
  (with_reducible refine (equal_same rfl w5 HT5.out HS5.out hf hf).mono ?_)
  rintro e w6 ⟨rfl, k6⟩
  have HP6 : Hid (TAt w6 g T ∧ TAt w6 g2 T ∧ Below w.heap.size w w6) := Go.Lib.hid ⟨HT5.out.below k6, HS5.out.below k6, chain HB5.out k6⟩
  clear k6 HT5 HS5 HB5
  go_wp2_with fail
  go_loopw [12, 13] (fun nv iv wr => ∃ (k : Nat) (S : Tr), k ≤ n2 ∧ k ≤ 20 ∧ iv = .int .i64 k ∧ nv = .string (bs S.bytes) ∧ S.bytes.length ≤ 12300 + 50 * k ∧ S.pcs ≤ 121 + 2 * k ∧ Hid S.ok ∧ Hid (TAt wr g T ∧ TAt wr g2 S ∧ Below w.heap.size w wr)) (fun _ iv _ => 20 - (RowKit.intOf iv).toNat)
  case atStart => exact ⟨0, T, Nat.zero_le _, by omega, rfl, rfl, by omega, by omega, OK, HP6⟩
  case round =>
    clear HP6
    obtain ⟨k, S, hk, hk20, rfl, rfl, hSl, hSp, HO, HP⟩ := hrel
    have hzS := bs_size S.bytes
    have hfS : Fine S := fine_ok HO.out (by omega)
    by_cases hlt : k < n2
    · by_cases hlt2 : k < 20
      · have hkl : k < ops2.length := by rw [H2.out.hn]; exact hlt
        rcases H2.out.at_ with hA0 | ⟨gA, oA, rfl, hgA, hcl⟩
        · rw [hA0] at hkl; exact absurd hkl (Nat.not_lt_zero _)
        obtain ⟨e0, e1, e2, e3⟩ := hcl k hkl
        obtain ⟨hB1, hB2, hB3, hB4⟩ := H2.out.bd k hkl
        have hbw := HP.out.2.2
        have d1 := (hbw.cell (p := ⟨gA, oA + k * 4 + 1, none⟩) hgA).trans e1
        have d3 := (hbw.cell (p := ⟨gA, oA + k * 4 + 3, none⟩) hgA).trans e3
        clear hcl e0 e1 e2 e3 hgA hbw hB1 hB3
        generalize ops2[k] = y at d1 d3 hB2 hB4
        obtain ⟨yk, yf, yt, yx⟩ := y
        dsimp only at d1 d3 hB2 hB4
        unfold maxLen at hB4
        have q1 : (0 : Int) ≤ (k : Int) := by omega
        have q2 : (k : Int) < (n2 : Int) := by omega
        have hzx := bs_size yx
        have hex := ext_min50 yx
        have hxl : (yx.take 50).length ≤ 50 := by rw [List.length_take]; omega
        obtain ⟨fx, hfx⟩ : ∃ fx, nearI yf S.bytes.length = fx := ⟨_, rfl⟩
        have cF : ∀ w', Calls Try.prog 16 #[.int .i64 yf, .int .i64 (S.bytes.length : Nat)] w' (fun e w'' => e = .returned (.int .i64 fx) ∧ w'' = w') := fun w' => by rw [← hfx]; exact near_any _ _ w' hB2 (by omega)
        have If : I64 fx := by rw [← hfx]; exact i64_near _ _ (by omega)
        clear hfx hB2
        have d1' : wr.cell? ⟨gA, oA + (k * 4 + 1), none⟩ = some (.int .i64 yf) := by rw [← Nat.add_assoc]; exact d1
        have d3' : wr.cell? ⟨gA, oA + (k * 4 + 3), none⟩ = some (.string (bs yx)) := by rw [← Nat.add_assoc]; exact d3
        go_wp2_with fail
        (with_reducible refine (cF _).mono ?_)
        rintro e wr ⟨rfl, rfl⟩
        go_wp2_with fail
        have HP2 : Hid (TAt wr.drew g T ∧ TAt wr.drew g2 S ∧ Below w.heap.size w wr.drew) := Go.Lib.hid ⟨HP.out.1.drew, HP.out.2.1.drew, HP.out.2.2.drew⟩
        go_region
        clear d1 d3 d1' d3' hex hzx HP cF
        generalize wr.drew = W2 at HP2 ⊢
        generalize yx.take 50 = x at hxl ⊢
        clear hB4
        obtain ⟨S', cd, hT', hcd, hEB, ok', pc', len', cd3⟩ := ed_facts fx fx x HO.out
        have cE := fun w' (h' : TAt w' g2 S) => insert_any fx x w' h' (by omega) (by omega) (by omega)
        unfold Edit at cE
        rw [← hT', ← hcd] at cE
        have cR : ∀ w', Calls Try.prog 31 #[.string (bs S.bytes), .int .i64 fx, .int .i64 fx, .string (bs x)] w' (fun e w'' => e = .returned (.tuple #[.string (bs S'.bytes), .int .i64 cd]) ∧ Below w'.heap.size w' w'') := fun w' => by rw [← hEB, hcd]; exact ref_any S.bytes fx fx x w' (by omega) (by omega) If If
        have OK' := Go.Lib.hid ok'
        have hl2 : S'.bytes.length ≤ 12300 + 50 * (k + 1) := by omega
        have hp2 : S'.pcs ≤ 121 + 2 * (k + 1) := by have : (if cd = 0 then 2 else 0) ≤ 2 := by split <;> omega
                                                    omega
        clear hT' hcd hEB ok' len' pc'
        go_wp2_with fail
        (with_reducible refine (cR _).mono ?_)
        rintro e w4 ⟨rfl, k4⟩
        have HP4 : Hid (TAt w4 g T ∧ TAt w4 g2 S ∧ Below w.heap.size w w4) := Go.Lib.hid ⟨HP2.out.1.below k4, HP2.out.2.1.below k4, chain HP2.out.2.2 k4⟩
        clear cR k4 HP2
        go_wp2_with fail
        (with_reducible refine (cE w4 HP4.out.2.1).mono ?_)
        rintro e w5 ⟨rfl, t5, k5⟩
        have HP5 : Hid (TAt w5 g T ∧ TAt w5 g2 S' ∧ Below w.heap.size w w5) := Go.Lib.hid ⟨TAt.but k5 (by obtain ⟨_, _, h9, _⟩ := HP4.out.2.1; exact h9) (fun e => hgg e.symm) HP4.out.1, t5, HP4.out.2.2.trans (k5.below hgw2 HP4.out.2.2.size)⟩
        clear cE t5 k5 HP4
        go_wp2
        go_roundw
        case rel => exact ⟨k + 1, S', by omega, by omega, by go_num, rfl, hl2, hp2, OK', HP5⟩
        case measure => simp [RowKit.intOf]; omega
      · obtain rfl : k = 20 := by omega
        have cA := str_any wr HP.out.1 hf
        unfold TextR at cA
        go_wp2_with fail
        (with_reducible refine cA.mono ?_)
        rintro e w5 ⟨rfl, k5⟩
        have HP5 : Hid (TAt w5 g T ∧ TAt w5 g2 S ∧ Below w.heap.size w w5) := Go.Lib.hid ⟨HP.out.1.below k5, HP.out.2.1.below k5, chain HP.out.2.2 k5⟩
        clear cA k5 HP
        have cB := str_any w5 HP5.out.2.1 hfS
        unfold TextR at cB
        go_wp2_with fail
        (with_reducible refine cB.mono ?_)
        rintro e w6 ⟨rfl, k6⟩
        have HP6 : Hid (TAt w6 g T ∧ TAt w6 g2 S ∧ Below w.heap.size w w6) := Go.Lib.hid ⟨HP5.out.1.below k6, HP5.out.2.1.below k6, chain HP5.out.2.2 k6⟩
        clear cB k6 HP5
        go_wp2_with fail
        (with_reducible refine (equal_beq w6 HP6.out.1 HP6.out.2.1 hf hfS).mono ?_)
        rintro e w7 ⟨rfl, k7⟩
        have HB7 : Below w.heap.size w w7 := chain HP6.out.2.2 k7
        clear k7 HP6
        obtain ⟨q, hq⟩ : ∃ q, ((bs T.bytes).toList == (bs S.bytes).toList) = q := ⟨_, rfl⟩
        rw [hq]
        go_wp2
        go_ret
        exact ⟨rfl, HB7⟩
    · obtain rfl : k = n2 := by omega
      have cA := str_any wr HP.out.1 hf
      unfold TextR at cA
      go_wp2_with fail
      (with_reducible refine cA.mono ?_)
      rintro e w5 ⟨rfl, k5⟩
      have HP5 : Hid (TAt w5 g T ∧ TAt w5 g2 S ∧ Below w.heap.size w w5) := Go.Lib.hid ⟨HP.out.1.below k5, HP.out.2.1.below k5, chain HP.out.2.2 k5⟩
      clear cA k5 HP
      have cB := str_any w5 HP5.out.2.1 hfS
      unfold TextR at cB
      go_wp2_with fail
      (with_reducible refine cB.mono ?_)
      rintro e w6 ⟨rfl, k6⟩
      have HP6 : Hid (TAt w6 g T ∧ TAt w6 g2 S ∧ Below w.heap.size w w6) := Go.Lib.hid ⟨HP5.out.1.below k6, HP5.out.2.1.below k6, chain HP5.out.2.2 k6⟩
      clear cB k6 HP5
      go_wp2_with fail
      (with_reducible refine (equal_beq w6 HP6.out.1 HP6.out.2.1 hf hfS).mono ?_)
      rintro e w7 ⟨rfl, k7⟩
      have HB7 : Below w.heap.size w w7 := chain HP6.out.2.2 k7
      clear k7 HP6
      obtain ⟨q, hq⟩ : ∃ q, ((bs T.bytes).toList == (bs S.bytes).toList) = q := ⟨_, rfl⟩
      rw [hq]
      go_wp2
      go_ret
      exact ⟨rfl, HB7⟩
end Go.Proofs.Ytonplacldckbgaa
