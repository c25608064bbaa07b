/- Layer 4: the law Limits. -/
import Derived.Test.YtonplacldckbgaaKa
import Derived.Laws.IdiomStrings
import Derived.Deep.OwnRows
namespace Go.Proofs.Ytonplacldckbgaa
open Go.RowKit Go.Shelf Go.Lib Pt

theorem info5 : (Try.prog.info? 5).map (fun i => (i.zero, i.size, i.bytes)) = some (some (.int .u8 0), 1, 1) := by kernel_rfl
/-- A row of bytes of which the first ones are x. -/
def RowX (W : World) (gb n k : Nat) : Prop := W.rowIs gb 5 n (fun j => if j < k then Value.int .u8 120 else Value.int .u8 0)
theorem RowX.set {W : World} {gb n k : Nat} (h : RowX W gb n k) : RowX (W.setCell ⟨gb, k, none⟩ (.int .u8 120)) gb n (k + 1) := by
  refine World.rowIs.congr (World.rowIs.set h k _) (fun i _ => ?_)
  by_cases h1 : i = k
  · subst h1; simp
  · by_cases h2 : i < k
    · simp [h1, h2]; omega
    · rw [if_neg h1, if_neg h2, if_neg (by omega)]
theorem RowX.str {W : World} {gb n m c : Nat} (h : RowX W gb n n) (hm : m ≤ n) : (convert 43 9 (.slice (some ⟨gb, 0, none⟩) m c)).run Try.prog W = .ok (.string (bs (List.replicate m 120))) W := by
  have := run_convert_bytes_back (P := Try.prog) W 43 9 5 ⟨gb, 0, none⟩ c (List.replicate m 120) Try.underlying43 Try.underlying5 Try.underlying9 (fun j hj => by
    have hj' : j < m := by simpa using hj
    rw [show ((⟨gb, 0, none⟩ : Addr).add j) = ⟨gb, j, none⟩ by unfold Addr.add; split <;> simp_all]
    rw [World.rowIs.cell h (i := j) (by omega), if_pos (by omega)]
    simp)
  rw [List.length_replicate] at this
  exact this
set_option maxRecDepth 100000 in
set_option maxHeartbeats 16000000 in
theorem law_limits (mo : Int) (hmo : (Lit.int .u8 mo).wf = true) (x : Int) (hx : (Lit.int .i64 x).wf = true) (w : World) : Calls Try.prog 11 #[.int .u8 mo, .int .i64 x] w (BoolB true w) := by
  obtain ⟨m, rfl, hm⟩ := wf_u8 hmo
  have hx := wf_i64 hx
  obtain ⟨n, hn⟩ : ∃ n, 65408 + m = n := ⟨_, rfl⟩
  have F1 : (65408 : Int) + (m : Int) = (n : Int) := by omega
  have hn1 : 65408 ≤ n := by omega
  have hn2 : n ≤ 65663 := by omega
  clear hmo hn
  go_enter Try.func11, Try.ntmps11
  go_wp2_with fail
  (with_reducible refine (known_any _).mono ?_)
  rintro e w1 ⟨rfl, k1⟩
  have hM : (Instr.makeSlice 43 (.int .i64 (n : Nat)) (.int .i64 (n : Nat))).run Try.prog w1 = .ok (.slice (some ⟨w1.heap.size, 0, none⟩) n n) (w1.alloc (.cells (madeCells #[.int .u8 0] n) 5)) :=
    run_make_row' 43 5 (.int .u8 0) 1 Try.underlying43 info5 rfl .i64 .i64 n (by omega) (by omega) w1
  have HR : Hid (RowX (w1.alloc (.cells (madeCells #[.int .u8 0] n) 5)) w1.heap.size n 0 ∧ Below w.heap.size w (w1.alloc (.cells (madeCells #[.int .u8 0] n) 5))) := Go.Lib.hid ⟨(World.rowIs_made w1 (.int .u8 0) n 5).congr (fun i _ => by simp), k1.alloc k1.size _⟩
  have hgb := k1.size
  clear k1
  go_wp2_with fail
  go_loopw [7] (fun iv wr => ∃ k : Nat, k ≤ n ∧ iv = .int .i64 k ∧ Hid (RowX wr w1.heap.size n k ∧ Below w.heap.size w wr)) (fun iv _ => n - (RowKit.intOf iv).toNat)
  case atStart => exact ⟨0, Nat.zero_le _, rfl, HR⟩
  case round =>
    clear HR hM F1
    obtain ⟨k, hk, rfl, HR⟩ := hrel
    generalize w1.heap.size = gb at *
    by_cases hlt : k < n
    · have d0 := World.rowIs.cell HR.out.1 (i := k) hlt
      rw [if_neg (Nat.lt_irrefl k)] at d0
      have f0 := World.rowIs.frozen HR.out.1 k
      have q1 : (0 : Int) ≤ (k : Int) := by omega
      have q2 : (k : Int) < (n : Int) := by omega
      have HR2 : Hid (RowX (wr.setCell ⟨gb, k, none⟩ (.int .u8 120)) gb n (k + 1) ∧ Below w.heap.size w (wr.setCell ⟨gb, k, none⟩ (.int .u8 120))) := Go.Lib.hid ⟨HR.out.1.set, HR.out.2.setCell hgb _⟩
      go_wp2
      go_roundw
      case rel => exact ⟨k + 1, by omega, by go_num, HR2⟩
      case measure => simp [RowKit.intOf]; omega
    · obtain rfl : k = n := by omega
      have cC := HR.out.1.str (m := k) (c := k) (Nat.le_refl _)
      have hll : (List.replicate k (120 : UInt8)).length = k := List.length_replicate
      by_cases hbig : 65536 < k
      · have c1 := new_long (List.replicate k 120) wr (by omega) (by omega)
        have hb2 : (65536 : Int) < (k : Int) := by omega
        have HB := Go.Lib.hid HR.out.2
        clear HR hll
        generalize List.replicate k (120 : UInt8) = L at *
        go_wp2_with fail
        (with_reducible refine c1.mono ?_)
        rintro e wr ⟨rfl, rfl⟩
        go_wp2
        go_ret
        exact ⟨rfl, HB.out⟩
      · have hb2 : ¬ (65536 : Int) < (k : Int) := by omega
        obtain ⟨r, hr⟩ : ∃ r, 65536 - k = r := ⟨_, rfl⟩
        have F2 : (65536 : Int) - (k : Int) = (r : Int) := by omega
        have hr1 : r ≤ 128 := by omega
        have hrk : r + k = 65536 := by omega
        obtain ⟨n1, n2, n3⟩ := newT_spec (List.replicate k 120)
        have c1 := new_any (List.replicate k 120) wr (by omega)
        obtain ⟨T0, hT0⟩ : ∃ T, T = newT (List.replicate k 120) := ⟨_, rfl⟩
        rw [← hT0] at c1 n1 n2 n3
        have hl0 : T0.bytes.length = k := by rw [n1, hll]
        clear hT0 n1 hll
        have c2 := fun w' (h' : RowX w' gb k k) => h'.str (m := r) (c := k) (by omega)
        have hl1 : (List.replicate r (120 : UInt8)).length = r := List.length_replicate
        generalize List.replicate k (120 : UInt8) = L at *
        generalize List.replicate r (120 : UInt8) = R at *
        go_wp2_with fail
        (with_reducible refine c1.mono ?_)
        rintro e w3 ⟨b, rfl, hb, t3, k3⟩
        have HB3 : Hid (Below w.heap.size w w3) := Go.Lib.hid (chain HR.out.2 k3)
        have HT3 := Go.Lib.hid t3
        have hbw : w.heap.size ≤ b := Nat.le_trans HR.out.2.size hb
        have HR3 : Hid (RowX w3 gb k k) := Go.Lib.hid (World.rowIs.of_block HR.out.1 (k3.block gb (World.rowIs.lt HR.out.1)))
        clear c1 t3 k3 HR cC
        go_wp2_with fail
        (with_reducible refine (len_any w3 HT3.out).mono ?_)
        rw [hl0]
        rintro e w4 ⟨rfl, k4⟩
        have HB4 : Hid (Below w.heap.size w w4) := Go.Lib.hid (chain HB3.out k4)
        have HT4 := Go.Lib.hid (HT3.out.below k4)
        have HR4 : Hid (RowX w4 gb k k) := Go.Lib.hid (World.rowIs.of_block HR3.out (k4.block gb (World.rowIs.lt HR3.out)))
        clear k4 HB3 HT3 HR3
        obtain ⟨fx, hfx⟩ : ∃ fx, nearI x k = fx := ⟨_, rfl⟩
        have cF := near_any x k w4 hx (by omega)
        rw [hfx] at cF
        have If : -2 ≤ fx ∧ fx ≤ (k : Int) + 2 := by rw [← hfx]; exact ⟨nearI_lo _ _, nearI_hi _ _⟩
        obtain ⟨If1, If2⟩ := If
        clear hfx hx
        go_wp2_with fail
        (with_reducible refine cF.mono ?_)
        rintro e w4 ⟨rfl, rfl⟩
        have cC2 := c2 w4 HR4.out
        clear c2 cF HR4
        have e1 : bs R ++ { data := #[121] } = bs (R ++ [121]) := bs_append R [121]
        have ins : ∀ cd : Int, codR fx fx T0.bytes.length (R ++ [121]).length = cd → cd ≠ 0 → Calls Try.prog 23 #[.pointer (some ⟨b, 0, none⟩), .int .i64 fx, .string (bs R ++ { data := #[121] })] w4 (fun e w' => e = .returned (.int .i64 cd) ∧ TAt w' b T0 ∧ But b w4 w') := fun cd h1 h2 => by
          have := insert_any fx (R ++ [121]) w4 HT4.out (by omega) (by omega) (by rw [List.length_append]; simp; omega)
          unfold Edit at this
          rw [h1, show edT T0 fx fx (R ++ [121]) = T0 by unfold edT; rw [if_pos (.inl (by rw [h1]; exact h2))]] at this
          rw [e1]
          exact this
        have hl2 : (R ++ [(121 : UInt8)]).length = r + 1 := by rw [List.length_append, hl1]; rfl
        have m1 := bs_size R
        have m2 : ({ data := #[121] } : ByteArray).size = 1 := rfl
        have hr2 : R.length ≤ 128 := by omega
        have INS := Go.Lib.hid ins
        clear ins e1
        have hor : fx < 0 ∨ (¬ fx < 0 ∧ (k : Int) < fx) ∨ (¬ fx < 0 ∧ ¬ (k : Int) < fx) := by omega
        rcases hor with h1 | ⟨h1, h2⟩ | ⟨h1, h2⟩
        · have cI := INS.out 2 (by unfold codR; rw [if_pos (by omega)]) (by decide)
          clear INS hl2
          go_wp2_with fail
          (with_reducible refine cI.mono ?_)
          rintro e w5 ⟨rfl, t5, k5⟩
          have HB5 : Hid (Below w.heap.size w w5) := Go.Lib.hid (HB4.out.trans (k5.below hbw HB4.out.size))
          have HT5 := Go.Lib.hid t5
          clear cI t5 k5 HB4 HT4 cC2
          go_wp2_with fail
          (with_reducible refine (len_any w5 HT5.out).mono ?_)
          rw [hl0]
          rintro e w6 ⟨rfl, k6⟩
          have HB6 : Below w.heap.size w w6 := chain HB5.out k6
          clear k6 HB5 HT5
          go_wp2
          go_ret
          exact ⟨rfl, HB6⟩
        · have cI := INS.out 2 (by unfold codR; rw [if_pos (by omega)]) (by decide)
          clear INS hl2
          go_wp2_with fail
          (with_reducible refine cI.mono ?_)
          rintro e w5 ⟨rfl, t5, k5⟩
          have HB5 : Hid (Below w.heap.size w w5) := Go.Lib.hid (HB4.out.trans (k5.below hbw HB4.out.size))
          have HT5 := Go.Lib.hid t5
          clear cI t5 k5 HB4 HT4 cC2
          go_wp2_with fail
          (with_reducible refine (len_any w5 HT5.out).mono ?_)
          rw [hl0]
          rintro e w6 ⟨rfl, k6⟩
          have HB6 : Below w.heap.size w w6 := chain HB5.out k6
          clear k6 HB5 HT5
          go_wp2
          go_ret
          exact ⟨rfl, HB6⟩
        · have cI := INS.out 10 (by unfold codR; rw [if_neg (by omega), if_pos (by omega)]) (by decide)
          obtain ⟨f, rfl⟩ : ∃ f : Nat, fx = (f : Int) := ⟨fx.toNat, by omega⟩
          obtain ⟨T1, cd, hT1, hcd, hEB, ok1, pc1, len1, _⟩ := ed_facts (f : Int) (f : Int) R n2
          have hcd0 : codR (f : Int) (f : Int) T0.bytes.length R.length = 0 := by unfold codR; rw [if_neg (by omega), if_neg (by omega)]
          rw [hcd0] at hcd
          subst hcd
          have hl3 : T1.bytes.length = 65536 := by rw [← hEB]; unfold edB; rw [hcd0, if_pos rfl, List.length_append, List.length_append, List.length_take, List.length_drop]; omega
          have cJ := fun w' (h' : TAt w' b T0) => insert_any (f : Int) R w' h' (by omega) (by omega) (by omega)
          unfold Edit at cJ
          rw [hcd0, ← hT1] at cJ
          have cZ : ∀ w', TAt w' b T1 → Calls Try.prog 23 #[.pointer (some ⟨b, 0, none⟩), .int .i64 0, .string { data := #[122] }] w' (fun e w'' => e = .returned (.int .i64 10) ∧ TAt w'' b T1 ∧ But b w' w'') := fun w' h' => by
            have := insert_any 0 [122] w' h' (by omega) (by simp at pc1; omega) (by decide)
            unfold Edit at this
            have h9 : codR 0 0 T1.bytes.length [(122 : UInt8)].length = 10 := by unfold codR; rw [if_neg (by omega), if_pos (by rw [hl3]; decide)]
            rw [h9, show edT T1 0 0 [122] = T1 by unfold edT; rw [if_pos (.inl (by rw [h9]; decide))]] at this
            exact this
          obtain ⟨T2, cd2, hT2, hcd2, hEB2, ok2, pc2, len2, _⟩ := ed_facts 0 1 [122] ok1
          have hcd20 : codR 0 1 T1.bytes.length [(122 : UInt8)].length = 0 := by unfold codR; rw [if_neg (by omega), if_neg (by rw [hl3]; decide)]
          rw [hcd20] at hcd2
          subst hcd2
          have hl4 : T2.bytes.length = 65536 := by
            rw [← hEB2]
            unfold edB
            rw [hcd20, if_pos rfl, List.length_append, List.length_append, List.length_take, List.length_drop, hl3]
            rfl
          have cY : ∀ w', TAt w' b T1 → Calls Try.prog 32 #[.pointer (some ⟨b, 0, none⟩), .int .i64 0, .int .i64 1, .string { data := #[122] }] w' (fun e w'' => e = .returned (.int .i64 0) ∧ TAt w'' b T2 ∧ But b w' w'') := fun w' h' => by
            have := rep_any 0 1 [122] w' h' (by omega) (by simp at pc1; omega) (by decide)
            unfold Edit at this
            rw [hcd20, ← hT2] at this
            exact this
          have CJ := Go.Lib.hid cJ
          have CZ := Go.Lib.hid cZ
          have CY := Go.Lib.hid cY
          clear INS hl2 hT1 hEB ok1 pc1 len1 hcd0 hT2 hEB2 ok2 pc2 len2 hcd20 cJ cZ cY n2
          go_wp2_with fail
          (with_reducible refine cI.mono ?_)
          rintro e w5 ⟨rfl, t5, k5⟩
          have HB5 : Hid (Below w.heap.size w w5) := Go.Lib.hid (HB4.out.trans (k5.below hbw HB4.out.size))
          have HT5 := Go.Lib.hid t5
          clear cI t5 k5 HB4 HT4 cC2
          go_wp2_with fail
          (with_reducible refine (len_any w5 HT5.out).mono ?_)
          rw [hl0]
          rintro e w6 ⟨rfl, k6⟩
          have HB6 : Hid (Below w.heap.size w w6) := Go.Lib.hid (chain HB5.out k6)
          have HT6 := Go.Lib.hid (HT5.out.below k6)
          clear k6 HB5 HT5
          go_wp2_with fail
          (with_reducible refine (CJ.out w6 HT6.out).mono ?_)
          rintro e w7 ⟨rfl, t7, k7⟩
          have HB7 : Hid (Below w.heap.size w w7) := Go.Lib.hid (HB6.out.trans (k7.below hbw HB6.out.size))
          have HT7 := Go.Lib.hid t7
          clear t7 k7 HB6 HT6 CJ
          go_wp2_with fail
          (with_reducible refine (len_any w7 HT7.out).mono ?_)
          rw [hl3]
          rintro e w8 ⟨rfl, k8⟩
          have HB8 : Hid (Below w.heap.size w w8) := Go.Lib.hid (chain HB7.out k8)
          have HT8 := Go.Lib.hid (HT7.out.below k8)
          clear k8 HB7 HT7
          go_wp2_with fail
          (with_reducible refine (CZ.out w8 HT8.out).mono ?_)
          rintro e w9 ⟨rfl, t9, k9⟩
          have HB9 : Hid (Below w.heap.size w w9) := Go.Lib.hid (HB8.out.trans (k9.below hbw HB8.out.size))
          have HT9 := Go.Lib.hid t9
          clear t9 k9 HB8 HT8 CZ
          go_wp2_with fail
          (with_reducible refine (CY.out w9 HT9.out).mono ?_)
          rintro e wa ⟨rfl, ta, ka⟩
          have HBa : Hid (Below w.heap.size w wa) := Go.Lib.hid (HB9.out.trans (ka.below hbw HB9.out.size))
          have HTa := Go.Lib.hid ta
          clear ta ka HB9 HT9 CY
          go_wp2_with fail
          (with_reducible refine (len_any wa HTa.out).mono ?_)
          rw [hl4]
          rintro e wb ⟨rfl, kb⟩
          have HBb : Below w.heap.size w wb := chain HBa.out kb
          go_wp2
          go_ret
          exact ⟨rfl, HBb⟩
end Go.Proofs.Ytonplacldckbgaa
