/- Layer 4: the law Slices. -/
import Derived.Test.YtonplacldckbgaaMO
namespace Go.Proofs.Ytonplacldckbgaa
open Go.RowKit Go.Shelf Go.Lib Pt

theorem own_open {W : World} {base n : Nat} {v : Value} {C : List (List UInt8)} (h : W.ownsRow base 9 1 v n (strV C)) (_hn : C.length = n) : ∃ A c, v = .slice A n c ∧ n ≤ maxLen ∧ (n = 0 ∨ ∃ g, A = some ⟨g, 0, none⟩ ∧ g < W.heap.size ∧ ∀ k (hk : k < C.length), W.cell? ⟨g, k, none⟩ = some (.string (bs C[k]))) := by
  have hl := h.lt
  have hc := fun g => World.ownsRow.cells h (g := g)
  rcases h.2 with ⟨rfl, h0⟩ | ⟨g, cap, cur, rfl, _, _, h3, h4, _, _⟩
  · exact ⟨none, 0, by rw [h0], by rw [h0]; exact Nat.zero_le _, .inl h0⟩
  · refine ⟨some ⟨g, 0, none⟩, cap, rfl, Nat.le_trans h3 h4, .inr ⟨g, rfl, (hl g rfl).2, fun k hk => ?_⟩⟩
    have := hc g rfl k (.string (bs C[k])) (by simp [strV, hk])
    rw [show ((⟨g, 0, none⟩ : Addr).add k) = ⟨g, k, none⟩ by unfold Addr.add; split <;> simp_all] at this
    exact this
theorem ext_sl (b : List UInt8) (f t : Nat) : (bs b).extract f t = bs (sl b (f : Int) (t : Int)) := by
  apply ByteArray.ext
  simp only [bs, ByteArray.data_extract, List.extract_toArray]
  congr 1
  simp [sl, List.drop_take]
set_option maxRecDepth 100000 in
set_option maxHeartbeats 16000000 in
theorem law_slices (s : ByteArray) (hs : s.size ≤ maxLen) (A : Option Addr) (n c : Nat) (ops : List Op4) (w : World) (h : OpsIn w A n c ops) (x y : Int) (hq : I64 x ∧ I64 y) : Calls Try.prog 4 #[.string s, .slice A n c, .agg #[.int .i64 x, .int .i64 y]] w (BoolB true w) := by
  obtain ⟨l, rfl, hl⟩ := str_in s hs
  obtain ⟨hq2, hq3⟩ := hq
  have H := Go.Lib.hid h
  have hb0 : Below w.heap.size w (w.alloc (.cells #[.int .i64 x, .int .i64 y] 29)) := (Below.refl _ w).alloc (Nat.le_refl _) _
  have oop := ObjAt.new w #[.int .i64 x, .int .i64 y] 29
  clear h hs
  go_enter Try.func4, Try.ntmps4
  go_wp2_with fail
  (with_reducible refine (known_any _).mono ?_)
  rintro e w1 ⟨rfl, k1⟩
  have hk1 : Below w.heap.size w w1 := hb0.trans (k1.mono (by rw [World.size_alloc]; omega))
  have oop1 := ObjAt.below oop k1
  clear oop hb0 k1
  go_wp2_with fail
  (with_reducible refine (cutS_any l w1 hl).mono ?_)
  rintro e w1 ⟨rfl, rfl⟩
  go_wp2_with fail
  (with_reducible refine (run_in l H.out hk1).mono ?_)
  intro e w3 h3
  obtain ⟨g, T, ed, rfl, t3, ok, pc, he, hl3, hg, k3⟩ := h3
  have oop3 := ObjAt.below oop1 k3
  have HB3 : Hid (Below w.heap.size w w3) := Go.Lib.hid (chain hk1 k3)
  have HT3 := Go.Lib.hid t3
  have hf : Fine T := fine_ok ok (by omega)
  have hz := bs_size T.bytes
  clear oop1 hk1 k3 H ok hg t3
  have z0 := oop3.get (k := 0) (v := .int .i64 x) rfl
  have z1 := oop3.get (k := 1) (v := .int .i64 y) rfl
  obtain ⟨fx, hfx⟩ : ∃ fx, nearI x T.bytes.length = fx := ⟨_, rfl⟩
  obtain ⟨tx, htx⟩ : ∃ tx, nearI y T.bytes.length = tx := ⟨_, rfl⟩
  have cF : ∀ w', Calls Try.prog 16 #[.int .i64 x, .int .i64 (T.bytes.length : Nat)] w' (fun e w'' => e = .returned (.int .i64 fx) ∧ w'' = w') := fun w' => by rw [← hfx]; exact near_any _ _ w' hq2 (by omega)
  have cT : ∀ w', Calls Try.prog 16 #[.int .i64 y, .int .i64 (T.bytes.length : Nat)] w' (fun e w'' => e = .returned (.int .i64 tx) ∧ w'' = w') := fun w' => by rw [← htx]; exact near_any _ _ w' hq3 (by omega)
  clear hfx htx hq2 hq3 oop3
  go_wp2_with fail
  go_region_held3 (fun w' => w'.cell? ⟨w.heap.size, 0, none⟩ = some (.int .i64 x) ∧ w'.cell? ⟨w.heap.size, 1, none⟩ = some (.int .i64 y)) (first | go_keep | exact ⟨z0, z1⟩)
    (first
      | (go_at_call 16; with_reducible refine (cF _).mono ?_; rintro e w3 ⟨rfl, rfl⟩)
      | (go_at_call 16; with_reducible refine (cT _).mono ?_; rintro e w4 ⟨rfl, rfl⟩))
  rename_i hHeld
  have HB5 : Hid (Below w.heap.size w w3.drew) := Go.Lib.hid HB3.out.drew
  have HT5 : Hid (TAt w3.drew g T) := Go.Lib.hid HT3.out.drew
  clear hHeld HB3 HT3 z0 z1 cF cT
  generalize w3.drew = W5 at HB5 HT5 ⊢
  have cS := slice_any fx tx W5 HT5.out hf
  unfold SliceR at cS
  by_cases hc : chk fx tx T.bytes.length = 0
  · rw [if_pos hc, hc] at cS
    have hb : 0 ≤ fx ∧ fx ≤ tx ∧ tx ≤ (T.bytes.length : Nat) := by unfold chk at hc; split at hc <;> omega
    obtain ⟨f, rfl⟩ : ∃ f : Nat, fx = (f : Int) := ⟨fx.toNat, by omega⟩
    obtain ⟨t, rfl⟩ : ∃ t : Nat, tx = (t : Int) := ⟨tx.toNat, by omega⟩
    obtain ⟨hb0, hb1, hb2⟩ := hb
    have cK := fun w' (h' : TAt w' g T) => callsIn_wide.1 (chunks_in (f : Int) (t : Int) w' h' hf hb0 hb1 hb2 (by omega))
    unfold StrsR at cK
    have hflat := chunksT_flat T (f : Int) (t : Int)
    have hne := chunksT_ne T (f : Int) (t : Int)
    have hle := chunksT_len T (f : Int) (t : Int)
    have hsl := sl_len T.bytes (f : Int) (t : Int)
    have hext := ext_sl T.bytes f t
    generalize chunksT T (f : Int) (t : Int) = C at *
    rw [← hflat] at cS hext hsl
    have hp := hf.pcs
    have hzf := bs_size C.flatten
    have HNE := Go.Lib.hid hne
    clear hc hflat hne
    go_wp2_with fail
    (with_reducible refine cS.mono ?_)
    rintro e w6 ⟨rfl, k6⟩
    have HB6 : Hid (Below w.heap.size w w6) := Go.Lib.hid (chain HB5.out k6)
    have HT6 := Go.Lib.hid (HT5.out.below k6)
    clear cS k6 HB5 HT5
    go_wp2_with fail
    (with_reducible refine (cK w6 HT6.out).mono ?_)
    rintro e w7 ⟨v, rfl, hrow, k7⟩
    obtain ⟨A7, c7, rfl, hm7, hcl⟩ := own_open hrow rfl
    unfold maxLen at hm7
    have HB7 : Hid (Below w.heap.size w w7) := Go.Lib.hid (chain HB6.out k7)
    have HT7 := Go.Lib.hid (HT6.out.below k7)
    have HCL := Go.Lib.hid hcl
    clear cK k7 HB6 HT6 hrow hcl
    go_wp2_with fail
    go_loop [17, 18] (fun sv iv => ∃ k : Nat, k ≤ C.length ∧ iv = .int .i64 k ∧ sv = .string (bs (C.take k).flatten)) (fun _ iv => C.length - (RowKit.intOf iv).toNat)
    case atStart => exact ⟨0, Nat.zero_le _, rfl, rfl⟩
    case round =>
      obtain ⟨k, hk, rfl, rfl⟩ := hrel
      by_cases hlt : k < C.length
      · rcases HCL.out with h0 | ⟨gA, rfl, hgA, hcl⟩
        · omega
        have d0 := hcl k hlt
        have hne := HNE.out C[k] (List.getElem_mem hlt)
        have q1 : (0 : Int) ≤ (k : Int) := by omega
        have q2 : (k : Int) < (C.length : Int) := by omega
        have hpre : (C.take k).flatten ++ C[k] = (C.take (k + 1)).flatten := by rw [List.take_succ_eq_append_getElem hlt, List.flatten_append, List.flatten_cons, List.flatten_nil, List.append_nil]
        have hlen : ((C.take (k + 1)).flatten).length ≤ C.flatten.length := flat_pre (List.take_prefix _ _)
        have hlen2 : ((C.take k).flatten).length + C[k].length ≤ 12300 := by rw [← hpre, List.length_append] at hlen; omega
        have HPRE := Go.Lib.hid hpre
        clear hcl hpre hlen HNE
        generalize C[k] = X at d0 hne hlen2 HPRE
        have hE : (bs X).toList.isEmpty = false := by
          rw [bs_toList]
          cases X with
          | nil => exact absurd rfl hne
          | cons a b => rfl
        have m1 := bs_size X
        have m2 := bs_size (C.take k).flatten
        have m3 : bs (C.take k).flatten ++ bs X = bs ((C.take k).flatten ++ X) := bs_append _ _
        clear hne
        go_wp2
        go_round
        case rel => exact ⟨k + 1, by omega, by go_num, by rw [HPRE.out]⟩
        case measure => simp [RowKit.intOf]; omega
      · obtain rfl : k = C.length := by omega
        rw [List.take_length]
        have g1 : f ≤ T.bytes.length := by omega
        have g2 : t ≤ T.bytes.length := by omega
        have g3 : f ≤ t := by omega
        have i1 : (C.length : Int) ≤ (T.pcs : Int) := by omega
        have i2 : (T.pcs : Int) ≤ 200000 := by omega
        go_wp2_with fail
        (with_reducible refine (pieces_any w7 HT7.out).mono ?_)
        rintro e w8 ⟨rfl, k8⟩
        have HB8 : Below w.heap.size w w8 := chain HB7.out k8
        clear k8 HB7 HT7
        go_wp2
        go_ret
        exact ⟨by simp, HB8⟩
  · have hc2 : chk fx tx T.bytes.length = 2 := by unfold chk at hc ⊢; split at hc <;> simp_all
    rw [if_neg hc, hc2] at cS
    have hor : fx < 0 ∨ (¬ fx < 0 ∧ tx < fx) ∨ (¬ fx < 0 ∧ ¬ tx < fx ∧ ((T.bytes.length : Nat) : Int) < tx) := by unfold chk at hc2; split at hc2 <;> omega
    have cK := fun w' (h' : TAt w' g T) => chunks_bad fx tx w' h' hc2
    clear hc hc2
    go_wp2_with fail
    (with_reducible refine cS.mono ?_)
    rintro e w6 ⟨rfl, k6⟩
    have HB6 : Hid (Below w.heap.size w w6) := Go.Lib.hid (chain HB5.out k6)
    have HT6 := Go.Lib.hid (HT5.out.below k6)
    clear cS k6 HB5 HT5
    go_wp2_with fail
    (with_reducible refine (cK w6 HT6.out).mono ?_)
    rintro e w7 ⟨rfl, k7⟩
    have HB7 : Below w.heap.size w w7 := chain HB6.out k7
    clear cK k7 HB6 HT6
    have hE0 : (bs []).toList.isEmpty = true := by rw [bs_toList]; rfl
    rcases hor with h1 | ⟨h1, h2⟩ | ⟨h1, h2, h3⟩
    · go_wp2
      go_ret
      exact ⟨rfl, HB7⟩
    · go_wp2
      go_ret
      exact ⟨rfl, HB7⟩
    · go_wp2
      go_ret
      exact ⟨rfl, HB7⟩
end Go.Proofs.Ytonplacldckbgaa
