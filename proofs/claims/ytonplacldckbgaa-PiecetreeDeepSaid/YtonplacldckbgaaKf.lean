/- Layer 4: the law Deep. -/
import Derived.Test.YtonplacldckbgaaKe1
import Derived.Laws.IdiomStrings
import Derived.Maps.AppendAt
namespace Go.Proofs.Ytonplacldckbgaa
open Go.RowKit Go.Shelf Go.Lib Pt

set_option maxRecDepth 100000 in
set_option maxHeartbeats 16000000 in
theorem law_deep (n : Int) (hn : (Lit.int .u16 n).wf = true) (q0 : Int) (hq : (Lit.int .u8 q0).wf = true) (w : World) : Calls Try.prog 6 #[.int .u16 n, .int .u8 q0] w (BoolB true w) := by
  obtain ⟨m, rfl, hm⟩ := wf_u16 hn
  obtain ⟨q, rfl, hq⟩ := wf_u8 hq
  clear hn
  obtain ⟨k, hk⟩ : ∃ k, m % 400 = k := ⟨_, rfl⟩
  have hk400 : k < 400 := by omega
  have FM : (m : Int) % 400 = (k : Int) := by omega
  obtain ⟨n1, n2, n3⟩ := newT_spec []
  obtain ⟨T0, hT0⟩ : ∃ T, T = newT [] := ⟨_, rfl⟩
  go_enter Try.func6, Try.ntmps6
  go_wp2_with fail
  (with_reducible refine (known_any _).mono ?_)
  rintro e w1 ⟨rfl, k1⟩
  have c1 : Calls Try.prog 22 #[.string { data := #[] }] w1 _ := new_any [] w1 (by decide)
  rw [← hT0] at c1 n1 n2 n3
  go_wp2_with fail
  (with_reducible refine c1.mono ?_)
  rintro e w2 ⟨g, rfl, hg, t2, k2⟩
  have hg : w.heap.size ≤ g := Nat.le_trans k1.size hg
  have HP2 : Hid (TAt w2 g T0 ∧ Below w.heap.size w w2) := Go.Lib.hid ⟨t2, chain k1 k2⟩
  have OK0 := Go.Lib.hid n2
  have hb0 : bs [] = bs T0.bytes := by rw [n1]
  have hl0 : T0.bytes.length = 0 := by rw [n1]; rfl
  clear c1 t2 k1 k2 n1 n2 hT0
  go_wp2_with fail
  go_loopw [8, 9] (fun wv iv wr => ∃ (j : Nat) (S : Tr), j ≤ k ∧ iv = .int .i64 j ∧ wv = .string (bs S.bytes) ∧ S.bytes.length = j ∧ S.pcs ≤ 1 + 2 * j ∧ Hid S.ok ∧ Hid (TAt wr g S ∧ Below w.heap.size w wr)) (fun _ iv _ => 400 - (RowKit.intOf iv).toNat)
  case atStart => exact ⟨0, T0, Nat.zero_le _, rfl, by rw [← hb0]; rfl, hl0, by omega, OK0, HP2⟩
  case round =>
    clear HP2 OK0 hb0 hl0 n3 FM
    obtain ⟨j, S, hj, rfl, rfl, hSl, hSp, HO, HP⟩ := hrel
    have hz := bs_size S.bytes
    by_cases hlt : j < k
    · have hqq : q % 3 = 0 ∨ q % 3 = 1 ∨ q % 3 = 2 := by omega
      obtain ⟨d, hd⟩ : ∃ d, j % 26 = d := ⟨_, rfl⟩
      have hd26 : d < 26 := by omega
      have F1 : (j : Int) % 26 = (d : Int) := by omega
      obtain ⟨c8, hc8⟩ : ∃ c8 : UInt8, c8.toNat = 97 + d := ⟨UInt8.ofNat (97 + d), by simp; omega⟩
      have F2 : (97 : Int) + (d : Int) = (c8.toNat : Int) := by omega
      have hc9 : c8.toNat < 256 := by omega
      have cC : (convert 43 9 (.slice (some ⟨wr.heap.size, 0, none⟩) 1 1)).run Try.prog (wr.alloc (.cells #[.int .u8 (c8.toNat : Nat)] 5)) = .ok (.string (bs [c8])) (wr.alloc (.cells #[.int .u8 (c8.toNat : Nat)] 5)) := by
        refine run_convert_bytes_back _ 43 9 5 ⟨wr.heap.size, 0, none⟩ 1 [c8] Try.underlying43 Try.underlying5 Try.underlying9 ?_
        intro i hi
        obtain rfl : i = 0 := by simpa using hi
        exact (cell_one_new wr (.int .u8 (c8.toNat : Nat)) 5) 0 _ rfl
      clear hd hc8
      rcases hqq with hqq | hqq | hqq
      · have FK : (q : Int) % 3 = 0 := by omega
        obtain ⟨T', cd, hT', hcd, hEB, ok', pc', len', _⟩ := ed_facts 0 0 [c8] HO.out
        have hcd0 : codR 0 0 S.bytes.length [c8].length = 0 := by unfold codR; rw [if_neg (by omega), if_neg (by simp; omega)]
        have cE := insert_any 0 [c8] (wr.alloc (.cells #[.int .u8 (c8.toNat : Nat)] 5)) (HP.out.1.below ((Below.refl _ wr).alloc (Nat.le_refl _) _)) (by omega) (by omega) (by simp)
        unfold Edit at cE
        rw [hcd0, ← hT'] at cE
        rw [hcd0] at hcd
        subst hcd
        have hTb : T'.bytes = [c8] ++ S.bytes := by rw [← hEB]; unfold edB; rw [hcd0]; rfl
        have hTl : T'.bytes.length = j + 1 := by rw [hTb, List.length_append, hSl]; first | (simp; done) | (simp; omega) | omega
        have pc2 : T'.pcs ≤ 1 + 2 * (j + 1) := by simp at pc'; omega
        have HTB := Go.Lib.hid hTb
        have OK' := Go.Lib.hid ok'
        have g1 : 0 ≤ S.bytes.length := by omega
        have x1 : (bs S.bytes).extract 0 0 = bs [] := ext_take S.bytes 0
        have x2 : (bs S.bytes).extract 0 S.bytes.length = bs S.bytes := ext_drop S.bytes 0
        have x3 : bs [] ++ bs [c8] = bs [c8] := bs_append [] _
        have x4 : bs [c8] ++ bs S.bytes = bs ([c8] ++ S.bytes) := bs_append _ _
        have m8 := bs_size []
        have m7 := bs_size [c8]
        have hSlb : S.bytes.length ≤ 400 := by omega
        clear hT' hEB ok' pc' len' hcd0 hTb hSl
        go_wp2_with fail
        (with_reducible refine cE.mono ?_)
        rintro e w5 ⟨rfl, t5, k5⟩
        have HP5 : Hid (TAt w5.drew g T' ∧ Below w.heap.size w w5.drew) := Go.Lib.hid ⟨t5.drew, (((HP.out.2.alloc HP.out.2.size _).trans (k5.below hg (by rw [World.size_alloc]; have := HP.out.2.size; omega))).drew)⟩
        clear cE t5 k5
        go_wp2_with fail
        go_region
        all_goals
          go_wp2
          go_roundw
          case rel => exact ⟨j + 1, T', by omega, by go_num, by rw [HTB.out]; rfl, hTl, pc2, OK', HP5⟩
          case measure => simp [RowKit.intOf]; omega
      · have FK : (q : Int) % 3 = 1 := by omega
        obtain ⟨T', cd, hT', hcd, hEB, ok', pc', len', _⟩ := ed_facts (j : Int) (j : Int) [c8] HO.out
        have hcd0 : codR (j : Int) (j : Int) S.bytes.length [c8].length = 0 := by unfold codR; rw [if_neg (by omega), if_neg (by simp; omega)]
        have cE := insert_any (j : Int) [c8] (wr.alloc (.cells #[.int .u8 (c8.toNat : Nat)] 5)) (HP.out.1.below ((Below.refl _ wr).alloc (Nat.le_refl _) _)) (by omega) (by omega) (by simp)
        unfold Edit at cE
        rw [hcd0, ← hT'] at cE
        rw [hcd0] at hcd
        subst hcd
        have hTb : T'.bytes = S.bytes.take j ++ [c8] ++ S.bytes.drop j := by rw [← hEB]; unfold edB; rw [hcd0]; rfl
        have hTl : T'.bytes.length = j + 1 := by rw [hTb, List.length_append, List.length_append, List.length_take, List.length_drop, hSl]; first | (simp; done) | (simp; omega) | omega
        have pc2 : T'.pcs ≤ 1 + 2 * (j + 1) := by simp at pc'; omega
        have HTB := Go.Lib.hid hTb
        have OK' := Go.Lib.hid ok'
        have g1 : j ≤ S.bytes.length := by omega
        have m1 := bs_size (S.bytes.take j)
        have m2 := bs_size (S.bytes.drop j)
        have m3 := bs_size (S.bytes.take j ++ [c8])
        have m4 : (S.bytes.take j).length ≤ 65536 := by rw [List.length_take]; omega
        have m5 : (S.bytes.drop j).length ≤ 65536 := by rw [List.length_drop]; omega
        have m6 : (S.bytes.take j ++ [c8]).length ≤ 131072 := by rw [List.length_append]; simp; omega
        have x1 := ext_take S.bytes j
        have x2 := ext_drop S.bytes j
        have x3 : bs (S.bytes.take j) ++ bs [c8] = bs (S.bytes.take j ++ [c8]) := bs_append _ _
        have x4 : bs (S.bytes.take j ++ [c8]) ++ bs (S.bytes.drop j) = bs (S.bytes.take j ++ [c8] ++ S.bytes.drop j) := bs_append _ _
        have m7 := bs_size [c8]
        have hSlb : S.bytes.length ≤ 400 := by omega
        clear hT' hEB ok' pc' len' hcd0 hTb hSl
        go_wp2_with fail
        (with_reducible refine cE.mono ?_)
        rintro e w5 ⟨rfl, t5, k5⟩
        have HP5 : Hid (TAt w5.drew g T' ∧ Below w.heap.size w w5.drew) := Go.Lib.hid ⟨t5.drew, (((HP.out.2.alloc HP.out.2.size _).trans (k5.below hg (by rw [World.size_alloc]; have := HP.out.2.size; omega))).drew)⟩
        clear cE t5 k5
        go_wp2_with fail
        go_region
        all_goals
          go_wp2
          go_roundw
          case rel => exact ⟨j + 1, T', by omega, by go_num, by rw [HTB.out, List.append_assoc]; rfl, hTl, pc2, OK', HP5⟩
          case measure => simp [RowKit.intOf]; omega
      · have FK : (q : Int) % 3 = 2 := by omega
        obtain ⟨a, ha⟩ : ∃ a : Nat, a = j / 2 := ⟨_, rfl⟩
        have ha2 : a ≤ j := by omega
        have HF3 : Hid ((j : Int) / 2 = (a : Int)) := Go.Lib.hid (by omega)
        obtain ⟨T', cd, hT', hcd, hEB, ok', pc', len', _⟩ := ed_facts (a : Int) (a : Int) [c8] HO.out
        have hcd0 : codR (a : Int) (a : Int) S.bytes.length [c8].length = 0 := by unfold codR; rw [if_neg (by omega), if_neg (by simp; omega)]
        have cE := insert_any (a : Int) [c8] (wr.alloc (.cells #[.int .u8 (c8.toNat : Nat)] 5)) (HP.out.1.below ((Below.refl _ wr).alloc (Nat.le_refl _) _)) (by omega) (by omega) (by simp)
        unfold Edit at cE
        rw [hcd0, ← hT'] at cE
        rw [hcd0] at hcd
        subst hcd
        have hTb : T'.bytes = S.bytes.take a ++ [c8] ++ S.bytes.drop a := by rw [← hEB]; unfold edB; rw [hcd0]; rfl
        have hTl : T'.bytes.length = j + 1 := by rw [hTb, List.length_append, List.length_append, List.length_take, List.length_drop, hSl]; first | (simp; done) | (simp; omega) | omega
        have pc2 : T'.pcs ≤ 1 + 2 * (j + 1) := by simp at pc'; omega
        have HTB := Go.Lib.hid hTb
        have OK' := Go.Lib.hid ok'
        have g1 : a ≤ S.bytes.length := by omega
        have m1 := bs_size (S.bytes.take a)
        have m2 := bs_size (S.bytes.drop a)
        have m3 := bs_size (S.bytes.take a ++ [c8])
        have m4 : (S.bytes.take a).length ≤ 65536 := by rw [List.length_take]; omega
        have m5 : (S.bytes.drop a).length ≤ 65536 := by rw [List.length_drop]; omega
        have m6 : (S.bytes.take a ++ [c8]).length ≤ 131072 := by rw [List.length_append]; simp; omega
        have x1 := ext_take S.bytes a
        have x2 := ext_drop S.bytes a
        have x3 : bs (S.bytes.take a) ++ bs [c8] = bs (S.bytes.take a ++ [c8]) := bs_append _ _
        have x4 : bs (S.bytes.take a ++ [c8]) ++ bs (S.bytes.drop a) = bs (S.bytes.take a ++ [c8] ++ S.bytes.drop a) := bs_append _ _
        have m7 := bs_size [c8]
        have hSlb : S.bytes.length ≤ 400 := by omega
        clear hT' hEB ok' pc' len' hcd0 hTb hSl
        go_wp2_with fail
        rw [HF3.out]
        (with_reducible refine cE.mono ?_)
        rintro e w5 ⟨rfl, t5, k5⟩
        have HP5 : Hid (TAt w5.drew g T' ∧ Below w.heap.size w w5.drew) := Go.Lib.hid ⟨t5.drew, (((HP.out.2.alloc HP.out.2.size _).trans (k5.below hg (by rw [World.size_alloc]; have := HP.out.2.size; omega))).drew)⟩
        clear cE t5 k5
        go_wp2_with fail
        go_region
        all_goals
          go_wp2
          go_roundw
          case rel => exact ⟨j + 1, T', by omega, by go_num, by rw [HTB.out, ← ha, x1, x2, x3, x4], hTl, pc2, OK', HP5⟩
          case measure => simp [RowKit.intOf]; omega
    · obtain rfl : j = k := by omega
      have hf : Fine S := fine_ok HO.out (by omega)
      have hbi := dep_bits HO.out
      have hbl := bits_le S.pcs
      have hdp := Tr.dep_le S
      go_wp2_with fail
      (with_reducible refine (str_any wr HP.out.1 hf).mono ?_)
      intro e w3 h3
      unfold TextR at h3
      obtain ⟨rfl, k3⟩ := h3
      go_wp2_with fail
      (with_reducible refine (pieces_any w3 (HP.out.1.below k3)).mono ?_)
      rintro e w4 ⟨rfl, k4⟩
      have HP4 : Hid (TAt w4 g S ∧ Below w.heap.size w w4) := Go.Lib.hid ⟨(HP.out.1.below k3).below k4, chain HP.out.2 (chain k3 k4)⟩
      clear k3 k4 HP
      have i2 : (S.pcs : Int) ≤ 2 * (j : Int) + 1 := by omega
      have i4 : (S.dep : Int) ≤ 2 * (bitsN S.pcs : Int) := by omega
      have i5 : (bitsN S.pcs : Int) ≤ 200000 := by omega
      have i6 : (S.pcs : Int) ≤ 200000 := by omega
      have i7 : (S.dep : Int) ≤ 200000 := by omega
      go_wp2_with fail
      (with_reducible refine (depth_any w4 HP4.out.1).mono ?_)
      rintro e w5 ⟨rfl, k5⟩
      have HP5 : Hid (TAt w5 g S ∧ Below w.heap.size w w5) := Go.Lib.hid ⟨HP4.out.1.below k5, chain HP4.out.2 k5⟩
      clear k5 HP4
      go_wp2_with fail
      (with_reducible refine (pieces_any w5 HP5.out.1).mono ?_)
      rintro e w6 ⟨rfl, k6⟩
      have HB6 : Below w.heap.size w w6 := chain HP5.out.2 k6
      clear k6 HP5
      go_wp2_with fail
      (with_reducible refine (bits_any S.pcs w6 (by omega)).mono ?_)
      rintro e w6 ⟨rfl, rfl⟩
      go_wp2
      go_ret
      exact ⟨by simp, HB6⟩
end Go.Proofs.Ytonplacldckbgaa
