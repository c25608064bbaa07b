/- Layer 4: String (24), Slice (17), Equal (30). -/
import Derived.Test.YtonplacldckbgaaMG
namespace Go.Proofs.Ytonplacldckbgaa
open Go.RowKit Go.Shelf Go.Lib Pt

theorem TAt.drew {w : World} {b : Nat} {t : Tr} (h : TAt w b t) : TAt w.drew b t := h.below (Below.refl _ w).drew
theorem text_all {t : Tr} {A : Option Addr} (w : World) (hf : Fine t) (h : NAt w t A) : Calls Try.prog 36 #[.pointer A, .int .i64 0, .int .i64 (t.bytes.length : Nat)] w (TextR t.bytes w) := by
  have := text_any 0 t.bytes.length w hf h (Nat.zero_le _) (Nat.le_refl _)
  rw [show sl t.bytes ((0 : Nat) : Int) (t.bytes.length : Nat) = t.bytes from sl_all _ _ (Nat.le_refl _)] at this
  exact this
set_option maxRecDepth 100000 in
set_option maxHeartbeats 4000000 in
theorem str_nil (w : World) : Calls Try.prog 24 #[.pointer none] w fun e w' => e = .returned (.string ⟨#[]⟩) ∧ w' = w := by
  go_enter Try.func24, Try.ntmps24
  go_wp2
  go_ret
  exact ⟨rfl, rfl⟩
set_option maxRecDepth 100000 in
set_option maxHeartbeats 4000000 in
theorem str_any {b : Nat} {t : Tr} (w : World) (h : TAt w b t) (hf : Fine t) : Calls Try.prog 24 #[.pointer (some ⟨b, 0, none⟩)] w (TextR t.bytes w) := by
  obtain ⟨A, c0, c1, c2, hb, hA⟩ := id h
  have b1 := hf.size
  have hA0 : NAt w.drew t A := NAt.below (Below.refl _ w).drew hA
  go_enter Try.func24, Try.ntmps24
  go_wp2_with fail
  go_region_held3 (fun w' => w'.cell? ⟨b, 0, none⟩ = some (.pointer A))
    (first
      | go_keep
      | exact (k2.cell (p := ⟨b, 0, none⟩) (Nat.lt_of_lt_of_le hb k1.size)).trans ((k1.cell (p := ⟨b, 0, none⟩) hb).trans c0)
      | exact (k1.cell (p := ⟨b, 0, none⟩) hb).trans c0)
    (first
      | (go_at_call 33; with_reducible refine (len_any (t := t) _ h.drew).mono ?_; rintro e w1 ⟨rfl, k1⟩)
      | (go_at_call 36; with_reducible refine (text_all (t := t) (A := A) _ hf (NAt.below k1 hA0)).mono ?_; intro e w2 h2; unfold TextR at h2; obtain ⟨rfl, k2⟩ := h2))
  all_goals
    go_wp2
    go_ret
    exact ⟨rfl, chain (show Below w.heap.size w w1 from ⟨k1.os, k1.tape, k1.output, k1.size, k1.block⟩) k2⟩
/-- What Slice answers. -/
def SliceR (b : List UInt8) (x y : Int) (w : World) (e : Ending) (w' : World) : Prop := e = .returned (.tuple #[.string (bs (if chk x y b.length = 0 then sl b x y else [])), .int .i64 (chk x y b.length)]) ∧ Below w.heap.size w w'
set_option maxRecDepth 100000 in
set_option maxHeartbeats 4000000 in
theorem slice_nil (x y : Int) (w : World) : Calls Try.prog 17 #[.pointer none, .int .i64 x, .int .i64 y] w fun e w' => e = .returned (.tuple #[.string ⟨#[]⟩, .int .i64 1]) ∧ w' = w := by
  go_enter Try.func17, Try.ntmps17
  go_wp2_with (go_at_call 35; refine (check_nil x y _).mono ?_; rintro e w1 ⟨rfl, rfl⟩)
  refine bodyPost_ret (results_tmp2 rfl _ _ _) rfl ?_
  exact ⟨rfl, rfl⟩
set_option maxRecDepth 100000 in
set_option maxHeartbeats 4000000 in
theorem slice_any {b : Nat} {t : Tr} (x y : Int) (w : World) (h : TAt w b t) (hf : Fine t) : Calls Try.prog 17 #[.pointer (some ⟨b, 0, none⟩), .int .i64 x, .int .i64 y] w (SliceR t.bytes x y w) := by
  have hC := check_any x y w h
  unfold SliceR
  by_cases hc : chk x y t.bytes.length = 0
  · rw [if_pos hc, hc]
    rw [hc] at hC
    have h0 : 0 ≤ x ∧ x ≤ y ∧ y ≤ (t.bytes.length : Nat) := by unfold chk at hc; split at hc <;> omega
    obtain ⟨f, rfl⟩ : ∃ f : Nat, x = (f : Int) := ⟨x.toNat, by omega⟩
    obtain ⟨g, rfl⟩ : ∃ g : Nat, y = (g : Int) := ⟨y.toNat, by omega⟩
    obtain ⟨A, c0, c1, c2, hb, hA⟩ := h
    have HT := fun (w1 : World) (k : Below w.heap.size w w1) => text_any f g w1 hf (NAt.below k hA) (by omega) (by omega)
    have HH := Go.Lib.hid HT
    clear HT hc
    go_enter Try.func17, Try.ntmps17
    go_wp2_with (go_at_call 35; refine hC.mono ?_; rintro e w1 ⟨rfl, k1⟩; have d0 := (k1.cell (p := ⟨b, 0, none⟩) hb).trans c0)
    refine (HH.out w1 k1).mono ?_
    intro e w2 h2
    unfold TextR at h2
    obtain ⟨rfl, k2⟩ := h2
    go_wp2
    refine bodyPost_ret (results_tmp2 rfl _ _ _) rfl ?_
    exact ⟨rfl, chain k1 k2⟩
  · have hc2 : chk x y t.bytes.length = 2 := by unfold chk at hc ⊢; split at hc <;> simp_all
    rw [if_neg hc, hc2]
    rw [hc2] at hC
    go_enter Try.func17, Try.ntmps17
    go_wp2_with (go_at_call 35; refine hC.mono ?_; rintro e w1 ⟨rfl, k1⟩)
    refine bodyPost_ret (results_tmp2 rfl _ _ _) rfl ?_
    exact ⟨rfl, k1⟩
@[local go_sem] theorem run_eql_ns (a : Addr) (w : World) : (binOp .eql 24 (.pointer none) (.pointer (some a))).run Try.prog w = .ok (.bool false) w := by
  have h : ∀ d : Nat, (Op.equalIn (d + 1) 24 (.pointer none) (.pointer (some a))).run Try.prog w = .ok false w := fun d => by
    simp [Op.equalIn, run_underlying Try.underlying24, go_sem]
  simp only [binOp]
  simp [Op.equal, Op.maxDepth, h 9999]
set_option maxRecDepth 100000 in
set_option maxHeartbeats 4000000 in
theorem equal_nn (w : World) : Calls Try.prog 30 #[.pointer none, .pointer none] w fun e w' => e = .returned (.bool true) ∧ w' = w := by
  go_enter Try.func30, Try.ntmps30
  go_wp2
  go_ret
  exact ⟨rfl, rfl⟩
set_option maxRecDepth 100000 in
set_option maxHeartbeats 4000000 in
theorem equal_ns (b : Nat) (w : World) : Calls Try.prog 30 #[.pointer none, .pointer (some ⟨b, 0, none⟩)] w fun e w' => e = .returned (.bool false) ∧ w' = w := by
  go_enter Try.func30, Try.ntmps30
  go_wp2
  refine bodyPost_ret (v := .bool false) ?_ rfl ⟨rfl, rfl⟩
  simp [results, Try.results30, go_sem]
set_option maxRecDepth 100000 in
set_option maxHeartbeats 4000000 in
theorem equal_sn (b : Nat) (w : World) : Calls Try.prog 30 #[.pointer (some ⟨b, 0, none⟩), .pointer none] w fun e w' => e = .returned (.bool false) ∧ w' = w := by
  go_enter Try.func30, Try.ntmps30
  go_wp2
  refine bodyPost_ret (v := .bool false) ?_ rfl ⟨rfl, rfl⟩
  simp [results, Try.results30, go_sem]
theorem bs_inj {a b : List UInt8} (h : bs a = bs b) : a = b := by
  have := congrArg (fun x => x.data.toList) h
  simpa [bs_list] using this
set_option maxRecDepth 100000 in
set_option maxHeartbeats 4000000 in
theorem equal_any {b g : Nat} {t s : Tr} (w : World) (h : TAt w b t) (k : TAt w g s) (hf : Fine t) (hs : Fine s) : Calls Try.prog 30 #[.pointer (some ⟨b, 0, none⟩), .pointer (some ⟨g, 0, none⟩)] w fun e w' => e = .returned (.bool (decide (t.bytes = s.bytes))) ∧ Below w.heap.size w w' := by
  have b1 := hf.size
  have b2 := hs.size
  by_cases hc : t.bytes.length = s.bytes.length
  · have hI : ((t.bytes.length : Nat) : Int) = (s.bytes.length : Nat) := by omega
    go_enter Try.func30, Try.ntmps30
    go_wp2_with fail
    refine (len_any w h).mono ?_
    rintro e w1 ⟨rfl, k1⟩
    go_wp2_with fail
    refine (len_any w1 (k.below k1)).mono ?_
    rintro e w2 ⟨rfl, k2⟩
    go_wp2_with fail
    refine (str_any w2 ((h.below k1).below k2) hf).mono ?_
    intro e w3 h3
    unfold TextR at h3
    obtain ⟨rfl, k3⟩ := h3
    go_wp2_with fail
    refine (str_any w3 (((k.below k1).below k2).below k3) hs).mono ?_
    intro e w4 h4
    unfold TextR at h4
    obtain ⟨rfl, k4⟩ := h4
    have hB : Below w.heap.size w w4 := chain (chain k1 k2) (chain k3 k4)
    have hE : ((bs t.bytes).toList == (bs s.bytes).toList) = decide (t.bytes = s.bytes) := by rw [bs_toList, bs_toList]; by_cases h9 : t.bytes = s.bytes <;> simp [h9]
    go_wp2
    go_ret
    exact ⟨by rw [← hE]; rfl, hB⟩
  · have hI : ¬ ((t.bytes.length : Nat) : Int) = (s.bytes.length : Nat) := by omega
    have hD : decide (t.bytes = s.bytes) = false := by
      rw [decide_eq_false_iff_not]
      intro e
      exact hc (by rw [e])
    go_enter Try.func30, Try.ntmps30
    go_wp2_with fail
    refine (len_any w h).mono ?_
    rintro e w1 ⟨rfl, k1⟩
    go_wp2_with fail
    refine (len_any w1 (k.below k1)).mono ?_
    rintro e w2 ⟨rfl, k2⟩
    go_wp2
    go_ret
    exact ⟨by rw [hD]; rfl, chain k1 k2⟩
end Go.Proofs.Ytonplacldckbgaa
