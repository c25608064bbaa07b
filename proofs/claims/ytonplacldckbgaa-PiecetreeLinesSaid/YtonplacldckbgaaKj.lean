/- Layer 4: the law Lines. -/
import Derived.Test.YtonplacldckbgaaMU
namespace Go.Proofs.Ytonplacldckbgaa
open Go.RowKit Go.Shelf Go.Lib Pt

theorem own_openN {W : World} {base n : Nat} {v : Value} {C : List Nat} (h : W.ownsRow base 3 1 v n (natsV C)) : ∃ A c, v = .slice A n c ∧ n ≤ maxLen ∧ (n = 0 ∨ ∃ g, A = some ⟨g, 0, none⟩ ∧ g < W.heap.size ∧ ∀ k (hk : k < C.length), W.cell? ⟨g, k, none⟩ = some (.int .i64 (C[k] : Nat))) := by
  have hl := h.lt
  have hc := fun g => World.ownsRow.cells h (g := g)
  rcases h.2 with ⟨rfl, h0⟩ | ⟨g, cap, cur, rfl, _, _, h3, h4, _, _⟩
  · exact ⟨none, 0, by rw [h0], by rw [h0]; exact Nat.zero_le _, .inl h0⟩
  · refine ⟨some ⟨g, 0, none⟩, cap, rfl, Nat.le_trans h3 h4, .inr ⟨g, rfl, (hl g rfl).2, fun k hk => ?_⟩⟩
    have := hc g rfl k (.int .i64 (C[k] : Nat)) (by simp [natsV, hk])
    rw [show ((⟨g, 0, none⟩ : Addr).add k) = ⟨g, k, none⟩ by unfold Addr.add; split <;> simp_all] at this
    exact this
theorem posL_mono (b : List UInt8) {j k : Nat} (hjk : j < k) (hk : k < (posL b 0).length) : (posL b 0)[j] < (posL b 0)[k] := by
  obtain ⟨_, _, h1⟩ := posL_get b j (by omega)
  obtain ⟨_, _, h2⟩ := posL_get b k hk
  refine Nat.lt_of_not_le fun hle => ?_
  have h3 : lf (b.take (posL b 0)[k]) ≤ lf (b.take (posL b 0)[j]) := by
    unfold lf
    exact List.Sublist.count_le _ (List.take_sublist_take_left hle)
  omega
theorem getD_get {l : List Nat} {k : Nat} (h : k < l.length) : l.getD k 0 = l[k] := by rw [List.getD_eq_getElem?_getD, List.getElem?_eq_getElem h]; rfl
/-- What the lines so far are together. -/
def accL (b : List UInt8) (i : Nat) : List UInt8 := if i = 0 then [] else b.take (toL b (i - 1))
theorem toL_le (b : List UInt8) {i : Nat} (hi : i ≤ lf b) : toL b i ≤ b.length := by
  unfold toL
  split
  · exact Nat.le_refl _
  · have h : i < (posL b 0).length := by rw [posL_len]; omega
    rw [getD_get h]
    exact Nat.le_of_lt (posL_get b i h).1
theorem frL_le (b : List UInt8) {i : Nat} (hi : i ≤ lf b) : frL b i ≤ toL b i := by
  unfold frL
  split
  · exact Nat.zero_le _
  · rename_i h0
    have h : i - 1 < (posL b 0).length := by rw [posL_len]; omega
    rw [getD_get h]
    unfold toL
    split
    · exact (posL_get b (i - 1) h).1
    · have h2 : i < (posL b 0).length := by rw [posL_len]; omega
      rw [getD_get h2]
      exact posL_mono b (by omega) h2
theorem st_get (b : List UInt8) {i : Nat} (hi : i < (0 :: (posL b 0).map (· + 1)).length) : (0 :: (posL b 0).map (· + 1))[i] = frL b i := by
  cases i with
  | zero => rfl
  | succ i =>
    have h : i < (posL b 0).length := by simpa using hi
    unfold frL
    rw [if_neg (by omega), show i + 1 - 1 = i by omega, getD_get h]
    simp
theorem acc_zero (b : List UInt8) : [] ++ sl b (frL b 0 : Nat) (toL b 0 : Nat) = accL b 1 := by
  unfold accL frL sl
  simp
theorem acc_next (b : List UInt8) {i : Nat} (h0 : i ≠ 0) (hi : i ≤ lf b) : accL b i ++ [10] ++ sl b (frL b i : Nat) (toL b i : Nat) = accL b (i + 1) := by
  have h : i - 1 < (posL b 0).length := by rw [posL_len]; omega
  obtain ⟨h1, h2, _⟩ := posL_get b (i - 1) h
  have hf : frL b i = (posL b 0)[i - 1] + 1 := by unfold frL; rw [if_neg h0, getD_get h]
  have hp : toL b (i - 1) = (posL b 0)[i - 1] := by unfold toL; rw [if_neg (by omega), getD_get h]
  have hle := frL_le b hi
  unfold accL sl
  rw [if_neg h0, if_neg (by omega), hp, show i + 1 - 1 = i by omega]
  rw [hf] at hle
  rw [hf]
  generalize (posL b 0)[i - 1] = p at h1 h2 hle
  generalize toL b i = q at hle
  rw [show ((p + 1 : Nat) : Int).toNat = p + 1 by omega, show (q : Int).toNat = q by omega]
  have e1 : b.take (p + 1) = b.take p ++ [10] := by
    rw [List.take_add, h2]
    rfl
  rw [← e1]
  have := List.take_append_drop (p + 1) (b.take q)
  rwa [List.take_take, show min (p + 1) q = p + 1 by omega] at this
theorem acc_all (b : List UInt8) : accL b (lf b + 1) = b := by
  unfold accL
  rw [if_neg (by omega), show lf b + 1 - 1 = lf b by omega]
  unfold toL
  rw [if_pos rfl, List.take_length]
theorem ext_slN (b : List UInt8) (f t : Nat) : (bs b).extract f t = bs (sl b (f : Int) (t : Int)) := by
  apply ByteArray.ext
  simp only [bs, ByteArray.data_extract, List.extract_toArray]
  congr 1
  simp [sl, List.drop_take]
theorem lf_take_next {b : List UInt8} {k : Nat} (hk : k < b.length) : lf (b.take (k + 1)) = lf (b.take k) + (if b[k] = 10 then 1 else 0) := by
  rw [List.take_succ_eq_append_getElem hk, lf_append]
  congr 1
  unfold lf
  split
  · rename_i h; rw [h]; rfl
  · rename_i h; rw [List.count_cons_of_ne (by simpa using h)]; rfl
set_option maxRecDepth 100000 in
set_option maxHeartbeats 64000000 in
theorem law_lines (s : ByteArray) (hs : s.size ≤ maxLen) (A : Option Addr) (n c : Nat) (ops : List Op4) (w : World) (h : OpsIn w A n c ops) (n1 : Int) (hq : (Lit.int .i64 n1).wf = true) : Calls Try.prog 7 #[.string s, .slice A n c, .int .i64 n1] w (BoolB true w) := by
  have hn1 := wf_i64 hq
  clear hq
  obtain ⟨l, rfl, hl⟩ := str_in s hs
  have H := Go.Lib.hid h
  clear h hs
  go_enter Try.func7, Try.ntmps7
  go_wp2_with fail
  (with_reducible refine (known_any _).mono ?_)
  rintro e w1 ⟨rfl, k1⟩
  go_wp2_with fail
  (with_reducible refine (cutS_any l w1 hl).mono ?_)
  rintro e w1 ⟨rfl, rfl⟩
  go_wp2_with fail
  (with_reducible refine (run_in l H.out k1).mono ?_)
  intro e w3 h3
  obtain ⟨g, T, ed, rfl, t3, ok, pc, he, hl3, hg, k3⟩ := h3
  have HT := Go.Lib.hid t3
  have HB : Hid (Below w.heap.size w w3) := Go.Lib.hid (chain k1 k3)
  have OK := Go.Lib.hid ok
  have hf : Fine T := fine_ok ok (by omega)
  have hz := bs_size T.bytes
  have hgw : w.heap.size ≤ g := Nat.le_trans k1.size hg
  clear k1 k3 t3 H hg ok
  have cR := rlines_any T.bytes w3 (by omega)
  unfold NatsR at cR
  have hlfl : lf T.bytes ≤ T.bytes.length := List.count_le_length
  have hstl : (0 :: (posL T.bytes 0).map (· + 1)).length = lf T.bytes + 1 := by rw [List.length_cons, List.length_map, posL_len]
  have hsg := fun (i : Nat) (hi : i < (0 :: (posL T.bytes 0).map (· + 1)).length) => st_get T.bytes hi
  generalize (0 :: (posL T.bytes 0).map (· + 1)) = ST at cR hstl hsg
  have HSG := Go.Lib.hid hsg
  clear hsg
  go_wp2_with fail
  (with_reducible refine cR.mono ?_)
  rintro e w4 ⟨v, rfl, hrow, k4⟩
  obtain ⟨A4, c4, rfl, hm4, hcl⟩ := own_openN hrow
  unfold maxLen at hm4
  obtain ⟨gA, hgA4, hgA, hcl2⟩ := hcl.resolve_left (by omega)
  subst hgA4
  have HCL : Hid (∀ k (hk : k < ST.length), w4.cell? ⟨gA, k, none⟩ = some (.int .i64 (ST[k] : Nat))) := Go.Lib.hid hcl2
  have HT4 := Go.Lib.hid (HT.out.below k4)
  have HB4 : Hid (Below w.heap.size w w4) := Go.Lib.hid (chain HB.out k4)
  clear cR k4 HT HB hrow hcl hcl2
  go_wp2_with fail
  (with_reducible refine (lines_any w4 HT4.out hf).mono ?_)
  intro e w5 h5
  unfold NumR at h5
  obtain ⟨rfl, k5⟩ := h5
  have HP5 : Hid (TAt w5 g T ∧ Below w.heap.size w w5 ∧ Below w4.heap.size w4 w5) := Go.Lib.hid ⟨HT4.out.below k5, chain HB4.out k5, k5⟩
  clear k5 HT4 HB4
  have hi1 : (ST.length : Int) = (lf T.bytes : Int) + 1 := by omega
  go_wp2_with fail
  go_loopw [12, 13] (fun sv iv wr => ∃ i : Nat, i ≤ lf T.bytes + 1 ∧ iv = .int .i64 i ∧ sv = .string (bs (accL T.bytes i)) ∧ Hid (TAt wr g T ∧ Below w.heap.size w wr ∧ Below w4.heap.size w4 wr)) (fun _ iv _ => lf T.bytes + 1 - (RowKit.intOf iv).toNat)
  case atStart => exact ⟨0, Nat.zero_le _, rfl, rfl, HP5⟩
  case round =>
    clear HP5
    obtain ⟨i, hi, rfl, rfl, HP⟩ := hrel
    by_cases hlt : i < lf T.bytes + 1
    · have hil : i ≤ lf T.bytes := by omega
      have hk := HCL.out i (by omega)
      rw [HSG.out i (by omega)] at hk
      have c9 := line_ok i wr HP.out.1 hf hil
      have r1 := frL_le T.bytes hil
      have r2 := toL_le T.bytes hil
      have hext := ext_slN T.bytes (frL T.bytes i) (toL T.bytes i)
      have hz1 := acc_zero T.bytes
      have hz2 := fun h0 : i ≠ 0 => acc_next T.bytes h0 hil
      have hal1 : (accL T.bytes i).length ≤ 12300 := by unfold accL; split; · simp
                                                        · rw [List.length_take]; omega
      have hsl2 : (sl T.bytes (frL T.bytes i : Nat) (toL T.bytes i : Nat)).length ≤ 12300 := Nat.le_trans (sl_len _ _ _) hl3
      have HZ1 := Go.Lib.hid hz1
      have HZ2 := Go.Lib.hid hz2
      clear hz1 hz2
      by_cases h0 : i = 0
      · subst h0
        have c9 : Calls Try.prog 27 #[.pointer (some ⟨g, 0, none⟩), .int .i64 0] wr _ := c9
        generalize frL T.bytes 0 = fr at *
        generalize toL T.bytes 0 = to at *
        have m1 := bs_size (sl T.bytes (fr : Int) (to : Int))
        have m0 := bs_size (accL T.bytes 0)
        have x1 : bs (accL T.bytes 0) ++ bs (sl T.bytes (fr : Int) (to : Int)) = bs (accL T.bytes 0 ++ sl T.bytes (fr : Int) (to : Int)) := bs_append _ _
        have hk2 : ∀ wq, Below w4.heap.size w4 wq → wq.cell? ⟨gA, 0, none⟩ = some (.int .i64 (fr : Nat)) := fun wq hq => (hq.cell (p := ⟨gA, 0, none⟩) hgA).trans hk
        go_wp2_with fail
        (with_reducible refine c9.mono ?_)
        rintro e w9 ⟨rfl, k9⟩
        have HP9 : Hid (TAt w9 g T ∧ Below w.heap.size w w9 ∧ Below w4.heap.size w4 w9) := Go.Lib.hid ⟨HP.out.1.below k9, chain HP.out.2.1 k9, chain HP.out.2.2 k9⟩
        have hk9 := hk2 w9 HP9.out.2.2
        clear c9 k9 HP hk hk2
        go_wp2
        go_roundw
        case rel => exact ⟨1, by omega, by go_num, by rw [← HZ1.out]; rfl, HP9⟩
        case measure => simp [RowKit.intOf]
      · have HZ3 := Go.Lib.hid (HZ2.out h0)
        have hi0 : (0 : Int) < (i : Int) := by omega
        generalize frL T.bytes i = fr at *
        generalize toL T.bytes i = to at *
        generalize accL T.bytes i = ac at *
        have m1 := bs_size (sl T.bytes (fr : Int) (to : Int))
        have m0 := bs_size ac
        have m2 : ({ data := #[10] } : ByteArray).size = 1 := rfl
        have x0 : bs ac ++ { data := #[10] } = bs (ac ++ [10]) := bs_append ac [10]
        have m3 := bs_size (ac ++ [10])
        have m4 : (ac ++ [10]).length ≤ 12301 := by rw [List.length_append]; simp; omega
        have x1 : bs (ac ++ [10]) ++ bs (sl T.bytes (fr : Int) (to : Int)) = bs (ac ++ [10] ++ sl T.bytes (fr : Int) (to : Int)) := bs_append _ _
        have q1 : (0 : Int) ≤ (i : Int) := by omega
        have q2 : (i : Int) < (lf T.bytes : Int) + 1 := by omega
        have q3 : i < ST.length := by omega
        have hk2 : ∀ wq, Below w4.heap.size w4 wq → wq.cell? ⟨gA, i, none⟩ = some (.int .i64 (fr : Nat)) := fun wq hq => (hq.cell (p := ⟨gA, i, none⟩) hgA).trans hk
        clear h0
        go_wp2_with fail
        (with_reducible refine c9.mono ?_)
        rintro e w9 ⟨rfl, k9⟩
        have HP9 : Hid (TAt w9 g T ∧ Below w.heap.size w w9 ∧ Below w4.heap.size w4 w9) := Go.Lib.hid ⟨HP.out.1.below k9, chain HP.out.2.1 k9, chain HP.out.2.2 k9⟩
        have hk9 := hk2 w9 HP9.out.2.2
        clear c9 k9 HP hk hk2
        go_wp2
        go_roundw
        case rel => exact ⟨i + 1, by omega, by go_num, by rw [← HZ3.out, List.append_assoc]; rfl, HP9⟩
        case measure => simp [RowKit.intOf]; omega
    · obtain rfl : i = lf T.bytes + 1 := by omega
      have hac := acc_all T.bytes
      rw [hac]
      clear hac HCL HSG
      have hor1 : n1 < 0 ∨ (¬ n1 < 0 ∧ (lf T.bytes : Int) + 1 ≤ n1) ∨ (¬ n1 < 0 ∧ ¬ (lf T.bytes : Int) + 1 ≤ n1) := by omega
      rcases hor1 with h1 | ⟨h1, h2⟩ | ⟨h1, h2⟩
      · have c9 := line_bad n1 wr HP.out.1 hf (.inl h1)
        go_wp2_with fail
        (with_reducible refine c9.mono ?_)
        rintro e w9 ⟨rfl, k9⟩
        have HT9 := Go.Lib.hid (HP.out.1.below k9)
        have HB9 : Hid (Below w.heap.size w w9) := Go.Lib.hid (chain HP.out.2.1 k9)
        clear c9 k9 HP
        obtain ⟨ax, hax⟩ : ∃ ax, nearI n1 T.bytes.length = ax := ⟨_, rfl⟩
        have cF := near_any n1 T.bytes.length w9 hn1 (by omega)
        rw [hax] at cF
        have I1 : -2 ≤ ax := by rw [← hax]; exact nearI_lo _ _
        have I2 : ax ≤ (T.bytes.length : Int) + 2 := by rw [← hax]; exact nearI_hi _ _
        clear hax
        go_wp2_with fail
        (with_reducible refine cF.mono ?_)
        rintro e w9 ⟨rfl, rfl⟩
        clear cF
        have cL := lineAt_any ax w9 HT9.out hf
        unfold LineAtR at cL
        have hor : (ax < 0) ∨ (¬ ax < 0 ∧ (T.bytes.length : Int) < ax) ∨ (¬ ax < 0 ∧ ¬ (T.bytes.length : Int) < ax) := by omega
        rcases hor with a1 | ⟨a1, a2⟩ | ⟨a1, a2⟩
        · have hck : chk ax ax T.bytes.length = 2 := by unfold chk; rw [if_pos (by omega)]
          rw [hck, if_neg (by decide)] at cL
          clear hck
          go_wp2_with fail
          (with_reducible refine cL.mono ?_)
          rintro e wz ⟨rfl, kz⟩
          have HZ : Below w.heap.size w wz := chain HB9.out kz
          clear cL kz
          go_wp2
          go_ret
          exact ⟨rfl, HZ⟩
        · have hck : chk ax ax T.bytes.length = 2 := by unfold chk; rw [if_pos (by omega)]
          rw [hck, if_neg (by decide)] at cL
          clear hck
          go_wp2_with fail
          (with_reducible refine cL.mono ?_)
          rintro e wz ⟨rfl, kz⟩
          have HZ : Below w.heap.size w wz := chain HB9.out kz
          clear cL kz
          go_wp2
          go_ret
          exact ⟨rfl, HZ⟩
        · have hck : chk ax ax T.bytes.length = 0 := by unfold chk; rw [if_neg (by omega)]
          rw [hck, if_pos rfl] at cL
          obtain ⟨x, rfl⟩ : ∃ x : Nat, ax = (x : Int) := ⟨ax.toNat, by omega⟩
          rw [show (x : Int).toNat = x by omega] at cL
          clear hck
          go_wp2_with fail
          (with_reducible refine cL.mono ?_)
          rintro e wz ⟨rfl, kz⟩
          have HZ : Hid (Below w.heap.size w wz) := Go.Lib.hid (chain HB9.out kz)
          clear cL kz
          go_wp2_with fail
          go_loop [23, 24] (fun cv iv => ∃ j : Nat, j ≤ x ∧ iv = .int .i64 j ∧ cv = .int .i64 (lf (T.bytes.take j) : Nat)) (fun _ iv => x - (RowKit.intOf iv).toNat)
          case atStart => exact ⟨0, Nat.zero_le _, rfl, by simp [lf]⟩
          case round =>
            obtain ⟨j, hj, rfl, rfl⟩ := hrel
            by_cases hlt2 : j < x
            · have hjl : j < T.bytes.length := by omega
              have q1 : (0 : Int) ≤ (j : Int) := by omega
              have q2 : (j : Int) < (T.bytes.length : Int) := by omega
              have q3 : (j : Int) < (x : Int) := by omega
              have hby : (bs T.bytes)[j]'(by rw [show (bs T.bytes).size = T.bytes.length from bs_size T.bytes]; exact hjl) = T.bytes[j] := rfl
              have hnx := lf_take_next hjl
              have hcb : lf (T.bytes.take j) ≤ 12300 := by have : lf (T.bytes.take j) ≤ (T.bytes.take j).length := List.count_le_length
                                                           rw [List.length_take] at this
                                                           omega
              by_cases h10 : T.bytes[j] = 10
              · have hT10 : ((T.bytes[j].toNat : Nat) : Int) = 10 := by rw [h10]; rfl
                rw [if_pos h10] at hnx
                have HX := Go.Lib.hid hnx
                clear hnx h10
                go_wp2
                go_round
                case rel => exact ⟨j + 1, by omega, by go_num, by rw [HX.out]; go_num⟩
                case measure => simp [RowKit.intOf]; omega
              · have hT10 : ¬ ((T.bytes[j].toNat : Nat) : Int) = 10 := by
                  intro e
                  apply h10
                  apply UInt8.toNat_inj.1
                  show T.bytes[j].toNat = 10
                  omega
                rw [if_neg h10, Nat.add_zero] at hnx
                have HX := Go.Lib.hid hnx
                clear hnx h10
                go_wp2
                go_round
                case rel => exact ⟨j + 1, by omega, by go_num, by rw [HX.out]; rfl⟩
                case measure => simp [RowKit.intOf]; omega
            · obtain rfl : j = x := by omega
              go_wp2
              go_ret
              exact ⟨by simp, HZ.out⟩
      · have c9 := line_bad n1 wr HP.out.1 hf (.inr ⟨h1, by omega⟩)
        go_wp2_with fail
        (with_reducible refine c9.mono ?_)
        rintro e w9 ⟨rfl, k9⟩
        have HT9 := Go.Lib.hid (HP.out.1.below k9)
        have HB9 : Hid (Below w.heap.size w w9) := Go.Lib.hid (chain HP.out.2.1 k9)
        clear c9 k9 HP
        obtain ⟨ax, hax⟩ : ∃ ax, nearI n1 T.bytes.length = ax := ⟨_, rfl⟩
        have cF := near_any n1 T.bytes.length w9 hn1 (by omega)
        rw [hax] at cF
        have I1 : -2 ≤ ax := by rw [← hax]; exact nearI_lo _ _
        have I2 : ax ≤ (T.bytes.length : Int) + 2 := by rw [← hax]; exact nearI_hi _ _
        clear hax
        go_wp2_with fail
        (with_reducible refine cF.mono ?_)
        rintro e w9 ⟨rfl, rfl⟩
        clear cF
        have cL := lineAt_any ax w9 HT9.out hf
        unfold LineAtR at cL
        have hor : (ax < 0) ∨ (¬ ax < 0 ∧ (T.bytes.length : Int) < ax) ∨ (¬ ax < 0 ∧ ¬ (T.bytes.length : Int) < ax) := by omega
        rcases hor with a1 | ⟨a1, a2⟩ | ⟨a1, a2⟩
        · have hck : chk ax ax T.bytes.length = 2 := by unfold chk; rw [if_pos (by omega)]
          rw [hck, if_neg (by decide)] at cL
          clear hck
          go_wp2_with fail
          (with_reducible refine cL.mono ?_)
          rintro e wz ⟨rfl, kz⟩
          have HZ : Below w.heap.size w wz := chain HB9.out kz
          clear cL kz
          go_wp2
          go_ret
          exact ⟨rfl, HZ⟩
        · have hck : chk ax ax T.bytes.length = 2 := by unfold chk; rw [if_pos (by omega)]
          rw [hck, if_neg (by decide)] at cL
          clear hck
          go_wp2_with fail
          (with_reducible refine cL.mono ?_)
          rintro e wz ⟨rfl, kz⟩
          have HZ : Below w.heap.size w wz := chain HB9.out kz
          clear cL kz
          go_wp2
          go_ret
          exact ⟨rfl, HZ⟩
        · have hck : chk ax ax T.bytes.length = 0 := by unfold chk; rw [if_neg (by omega)]
          rw [hck, if_pos rfl] at cL
          obtain ⟨x, rfl⟩ : ∃ x : Nat, ax = (x : Int) := ⟨ax.toNat, by omega⟩
          rw [show (x : Int).toNat = x by omega] at cL
          clear hck
          go_wp2_with fail
          (with_reducible refine cL.mono ?_)
          rintro e wz ⟨rfl, kz⟩
          have HZ : Hid (Below w.heap.size w wz) := Go.Lib.hid (chain HB9.out kz)
          clear cL kz
          go_wp2_with fail
          go_loop [23, 24] (fun cv iv => ∃ j : Nat, j ≤ x ∧ iv = .int .i64 j ∧ cv = .int .i64 (lf (T.bytes.take j) : Nat)) (fun _ iv => x - (RowKit.intOf iv).toNat)
          case atStart => exact ⟨0, Nat.zero_le _, rfl, by simp [lf]⟩
          case round =>
            obtain ⟨j, hj, rfl, rfl⟩ := hrel
            by_cases hlt2 : j < x
            · have hjl : j < T.bytes.length := by omega
              have q1 : (0 : Int) ≤ (j : Int) := by omega
              have q2 : (j : Int) < (T.bytes.length : Int) := by omega
              have q3 : (j : Int) < (x : Int) := by omega
              have hby : (bs T.bytes)[j]'(by rw [show (bs T.bytes).size = T.bytes.length from bs_size T.bytes]; exact hjl) = T.bytes[j] := rfl
              have hnx := lf_take_next hjl
              have hcb : lf (T.bytes.take j) ≤ 12300 := by have : lf (T.bytes.take j) ≤ (T.bytes.take j).length := List.count_le_length
                                                           rw [List.length_take] at this
                                                           omega
              by_cases h10 : T.bytes[j] = 10
              · have hT10 : ((T.bytes[j].toNat : Nat) : Int) = 10 := by rw [h10]; rfl
                rw [if_pos h10] at hnx
                have HX := Go.Lib.hid hnx
                clear hnx h10
                go_wp2
                go_round
                case rel => exact ⟨j + 1, by omega, by go_num, by rw [HX.out]; go_num⟩
                case measure => simp [RowKit.intOf]; omega
              · have hT10 : ¬ ((T.bytes[j].toNat : Nat) : Int) = 10 := by
                  intro e
                  apply h10
                  apply UInt8.toNat_inj.1
                  show T.bytes[j].toNat = 10
                  omega
                rw [if_neg h10, Nat.add_zero] at hnx
                have HX := Go.Lib.hid hnx
                clear hnx h10
                go_wp2
                go_round
                case rel => exact ⟨j + 1, by omega, by go_num, by rw [HX.out]; rfl⟩
                case measure => simp [RowKit.intOf]; omega
            · obtain rfl : j = x := by omega
              go_wp2
              go_ret
              exact ⟨by simp, HZ.out⟩
      · obtain ⟨nn, hnn⟩ : ∃ nn : Nat, n1 = (nn : Int) := ⟨n1.toNat, by omega⟩
        have c9 := line_ok nn wr HP.out.1 hf (by omega)
        rw [← hnn] at c9
        clear hnn
        go_wp2_with fail
        (with_reducible refine c9.mono ?_)
        rintro e w9 ⟨rfl, k9⟩
        have HT9 := Go.Lib.hid (HP.out.1.below k9)
        have HB9 : Hid (Below w.heap.size w w9) := Go.Lib.hid (chain HP.out.2.1 k9)
        clear c9 k9 HP
        obtain ⟨ax, hax⟩ : ∃ ax, nearI n1 T.bytes.length = ax := ⟨_, rfl⟩
        have cF := near_any n1 T.bytes.length w9 hn1 (by omega)
        rw [hax] at cF
        have I1 : -2 ≤ ax := by rw [← hax]; exact nearI_lo _ _
        have I2 : ax ≤ (T.bytes.length : Int) + 2 := by rw [← hax]; exact nearI_hi _ _
        clear hax
        go_wp2_with fail
        (with_reducible refine cF.mono ?_)
        rintro e w9 ⟨rfl, rfl⟩
        clear cF
        have cL := lineAt_any ax w9 HT9.out hf
        unfold LineAtR at cL
        have hor : (ax < 0) ∨ (¬ ax < 0 ∧ (T.bytes.length : Int) < ax) ∨ (¬ ax < 0 ∧ ¬ (T.bytes.length : Int) < ax) := by omega
        rcases hor with a1 | ⟨a1, a2⟩ | ⟨a1, a2⟩
        · have hck : chk ax ax T.bytes.length = 2 := by unfold chk; rw [if_pos (by omega)]
          rw [hck, if_neg (by decide)] at cL
          clear hck
          go_wp2_with fail
          (with_reducible refine cL.mono ?_)
          rintro e wz ⟨rfl, kz⟩
          have HZ : Below w.heap.size w wz := chain HB9.out kz
          clear cL kz
          go_wp2
          go_ret
          exact ⟨rfl, HZ⟩
        · have hck : chk ax ax T.bytes.length = 2 := by unfold chk; rw [if_pos (by omega)]
          rw [hck, if_neg (by decide)] at cL
          clear hck
          go_wp2_with fail
          (with_reducible refine cL.mono ?_)
          rintro e wz ⟨rfl, kz⟩
          have HZ : Below w.heap.size w wz := chain HB9.out kz
          clear cL kz
          go_wp2
          go_ret
          exact ⟨rfl, HZ⟩
        · have hck : chk ax ax T.bytes.length = 0 := by unfold chk; rw [if_neg (by omega)]
          rw [hck, if_pos rfl] at cL
          obtain ⟨x, rfl⟩ : ∃ x : Nat, ax = (x : Int) := ⟨ax.toNat, by omega⟩
          rw [show (x : Int).toNat = x by omega] at cL
          clear hck
          go_wp2_with fail
          (with_reducible refine cL.mono ?_)
          rintro e wz ⟨rfl, kz⟩
          have HZ : Hid (Below w.heap.size w wz) := Go.Lib.hid (chain HB9.out kz)
          clear cL kz
          go_wp2_with fail
          go_loop [23, 24] (fun cv iv => ∃ j : Nat, j ≤ x ∧ iv = .int .i64 j ∧ cv = .int .i64 (lf (T.bytes.take j) : Nat)) (fun _ iv => x - (RowKit.intOf iv).toNat)
          case atStart => exact ⟨0, Nat.zero_le _, rfl, by simp [lf]⟩
          case round =>
            obtain ⟨j, hj, rfl, rfl⟩ := hrel
            by_cases hlt2 : j < x
            · have hjl : j < T.bytes.length := by omega
              have q1 : (0 : Int) ≤ (j : Int) := by omega
              have q2 : (j : Int) < (T.bytes.length : Int) := by omega
              have q3 : (j : Int) < (x : Int) := by omega
              have hby : (bs T.bytes)[j]'(by rw [show (bs T.bytes).size = T.bytes.length from bs_size T.bytes]; exact hjl) = T.bytes[j] := rfl
              have hnx := lf_take_next hjl
              have hcb : lf (T.bytes.take j) ≤ 12300 := by have : lf (T.bytes.take j) ≤ (T.bytes.take j).length := List.count_le_length
                                                           rw [List.length_take] at this
                                                           omega
              by_cases h10 : T.bytes[j] = 10
              · have hT10 : ((T.bytes[j].toNat : Nat) : Int) = 10 := by rw [h10]; rfl
                rw [if_pos h10] at hnx
                have HX := Go.Lib.hid hnx
                clear hnx h10
                go_wp2
                go_round
                case rel => exact ⟨j + 1, by omega, by go_num, by rw [HX.out]; go_num⟩
                case measure => simp [RowKit.intOf]; omega
              · have hT10 : ¬ ((T.bytes[j].toNat : Nat) : Int) = 10 := by
                  intro e
                  apply h10
                  apply UInt8.toNat_inj.1
                  show T.bytes[j].toNat = 10
                  omega
                rw [if_neg h10, Nat.add_zero] at hnx
                have HX := Go.Lib.hid hnx
                clear hnx h10
                go_wp2
                go_round
                case rel => exact ⟨j + 1, by omega, by go_num, by rw [HX.out]; rfl⟩
                case measure => simp [RowKit.intOf]; omega
            · obtain rfl : j = x := by omega
              go_wp2
              go_ret
              exact ⟨by simp, HZ.out⟩
end Go.Proofs.Ytonplacldckbgaa
