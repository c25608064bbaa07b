/- Layer 4: Replace (32), Insert (23), Delete (34). -/
import Derived.Test.YtonplacldckbgaaMA
namespace Go.Proofs.Ytonplacldckbgaa
open Go.RowKit Go.Lib Pt

theorem chk_ok {f g n : Nat} (h1 : f ≤ g) (h2 : g ≤ n) : chk (f : Int) (g : Int) n = 0 := by
  unfold chk
  rw [if_neg (by omega)]
set_option maxRecDepth 100000 in
set_option maxHeartbeats 8000000 in
theorem rep_span {b : Nat} {t : Tr} (f g : Nat) (s : List UInt8) (w : World) (h : TAt w b t) (h1 : f < g) (h2 : g ≤ t.bytes.length) (ht : t.bytes.length ≤ 65536) (hp : t.pcs ≤ 100000) (hs : s.length ≤ 65536) (hm : t.bytes.length - (g - f) + s.length ≤ 65536) :
    Calls Try.prog 32 #[.pointer (some ⟨b, 0, none⟩), .int .i64 (f : Nat), .int .i64 (g : Nat), .string (bs s)] w fun e w' => e = .returned (.int .i64 0) ∧ TAt w' b (repT t f (g - f) s) ∧ But b w w' := by
  have hz : (bs s).size = s.length := bs_size s
  have c1 := check_any (f : Int) (g : Int) w h
  rw [chk_ok (Nat.le_of_lt h1) h2] at c1
  have hn : ¬ f = g := by omega
  have i1 : ¬ (65536 : Int) < ((t.bytes.length : Nat) : Int) - ((g : Int) - (f : Int)) + (s.length : Nat) := by omega
  have hg : ((g - f : Nat) : Int) = (g : Int) - (f : Int) := by omega
  have u1 := splitT_bp t f
  have u2 := splitT_bp (splitT t f).2 (g - f)
  have ft : Fine t := ⟨by omega, by omega⟩
  have hl2 : (splitT t f).2.bytes.length ≤ 65536 := by rw [u1.2.1, List.length_drop]; omega
  have ft2 : Fine (splitT t f).2 := ⟨by omega, by have := u1.2.2; omega⟩
  have hl1 : (splitT t f).1.bytes.length ≤ 65536 := by rw [u1.1, List.length_take]; omega
  have hl3 : (splitT (splitT t f).2 (g - f)).2.bytes.length ≤ 65536 := by rw [u2.2.1, List.length_drop]; omega
  have fa : Fine (.node (splitT t f).1 s (splitT (splitT t f).2 (g - f)).2) := ⟨by simp only [Tr.bytes, List.length_append]; omega, by have := u1.2.2; have := u2.2.2; simp only [Tr.pcs]; omega⟩
  have e2 : (splitT t f).2.pcs + 1 ≤ 200000 := by have := u1.2.2; omega
  have c42 := fun w' (A : Option Addr) h' => split_any t f A w' ft (by omega) (by omega) h'
  have c43 := fun w' (A : Option Addr) h' => split_any (splitT t f).2 (g - f) A w' ft2 e2 (by omega) h'
  rw [hg] at c43
  have HR := Lib.hid (show repT t f (g - f) s = aroundT (splitT t f).1 s (splitT (splitT t f).2 (g - f)).2 from rfl)
  clear u1 u2 ft ft2 hl1 hl2 hl3 e2
  generalize (splitT (splitT t f).2 (g - f)).2 = S4 at *
  generalize (splitT (splitT t f).2 (g - f)).1 = S3 at *
  generalize (splitT t f).2 = S2 at *
  generalize (splitT t f).1 = S1 at *
  go_enter Try.func32, Try.ntmps32
  go_wp2_with fail
  refine c1.mono ?_
  rintro e w1 ⟨rfl, k1⟩
  have t1 := h.below k1
  go_wp2_with fail
  refine (len_any w1 t1).mono ?_
  rintro e w2 ⟨rfl, k2⟩
  have t2 := t1.below k2
  obtain ⟨A, a0, a1, a2, a3, a4⟩ := t2
  clear c1 h t1
  go_wp2_with fail
  refine (c42 w2 A a4).mono ?_
  intro e w3 h3
  unfold RetNN at h3
  obtain ⟨A1, A2, rfl, n1, n2, k3⟩ := h3
  go_wp2_with fail
  refine (c43 w3 A2 n2).mono ?_
  intro e w4 h4
  unfold RetNN at h4
  obtain ⟨A3, A4, rfl, n3, n4, k4⟩ := h4
  go_wp2_with fail
  refine (around_any w4 fa (NAt.below k4 n1) n4).mono ?_
  intro e w5 h5
  unfold RetN at h5
  obtain ⟨A5, rfl, n5, k5⟩ := h5
  have hk : Below w2.heap.size w2 w5 := (k3.trans (k4.mono k3.size)).trans (k5.mono (Nat.le_trans k3.size k4.size))
  have hk0 : Below w.heap.size w w5 := (k1.trans (k2.mono k1.size)).trans (hk.mono (Nat.le_trans k1.size k2.size))
  have b0 := (hk.cell (p := ⟨b, 0, none⟩) a3).trans a0
  have b1 := (hk.cell (p := ⟨b, 1, none⟩) a3).trans a1
  have b2 := (hk.frozen (p := ⟨b, 0, none⟩) a3).trans a2
  have b3 : b < w5.heap.size := Nat.lt_of_lt_of_le a3 hk.size
  clear c42 c43 a0 a1 a2 n1 n2 n3 n4
  go_wp2
  go_ret
  have hB5 : But b w5 (w5.setCell ⟨b, 0, none⟩ (.pointer A5)) := But.store (Below.refl _ w5) _
  refine ⟨rfl, ⟨A5, by simp [go_sem, b0], ?_, by rw [World.frozen?_setCell]; exact b2, by rw [World.size_setCell]; exact b3, by rw [HR.out]; exact NAt.but hB5 b1 n5⟩, But.store hk0 _⟩
  simp [go_sem, b1]
set_option maxRecDepth 100000 in
set_option maxHeartbeats 8000000 in
theorem rep_at {b : Nat} {t : Tr} (f : Nat) (s : List UInt8) (w : World) (h : TAt w b t) (h2 : f ≤ t.bytes.length) (hne : s ≠ []) (ht : t.bytes.length ≤ 65536) (hp : t.pcs ≤ 100000) (hs : s.length ≤ 65536) (hm : t.bytes.length - 0 + s.length ≤ 65536) :
    Calls Try.prog 32 #[.pointer (some ⟨b, 0, none⟩), .int .i64 (f : Nat), .int .i64 (f : Nat), .string (bs s)] w fun e w' => e = .returned (.int .i64 0) ∧ TAt w' b (repT t f 0 s) ∧ But b w w' := by
  have hz : (bs s).size = s.length := bs_size s
  have c1 := check_any (f : Int) (f : Int) w h
  rw [chk_ok (Nat.le_refl f) h2] at c1
  have hE := bs_ne hne
  have i1 : ¬ (65536 : Int) < ((t.bytes.length : Nat) : Int) + (s.length : Nat) := by omega
  have u1 := splitT_bp t f
  have u2 := splitT_bp (splitT t f).2 0
  have ft : Fine t := ⟨by omega, by omega⟩
  have hl2 : (splitT t f).2.bytes.length ≤ 65536 := by rw [u1.2.1, List.length_drop]; omega
  have ft2 : Fine (splitT t f).2 := ⟨by omega, by have := u1.2.2; omega⟩
  have hl1 : (splitT t f).1.bytes.length ≤ 65536 := by rw [u1.1, List.length_take]; omega
  have hl3 : (splitT (splitT t f).2 0).2.bytes.length ≤ 65536 := by rw [u2.2.1, List.length_drop]; omega
  have fa : Fine (.node (splitT t f).1 s (splitT (splitT t f).2 0).2) := ⟨by simp only [Tr.bytes, List.length_append]; omega, by have := u1.2.2; have := u2.2.2; simp only [Tr.pcs]; omega⟩
  have e2 : (splitT t f).2.pcs + 1 ≤ 200000 := by have := u1.2.2; omega
  have c42 := fun w' (A : Option Addr) h' => split_any t f A w' ft (by omega) (by omega) h'
  have c43 := fun w' (A : Option Addr) h' => split_any (splitT t f).2 0 A w' ft2 e2 (by omega) h'
  rw [show ((0 : Nat) : Int) = 0 from rfl] at c43
  have HR := Lib.hid (show repT t f 0 s = aroundT (splitT t f).1 s (splitT (splitT t f).2 0).2 from rfl)
  clear u1 u2 ft ft2 hl1 hl2 hl3 e2
  generalize (splitT (splitT t f).2 0).2 = S4 at *
  generalize (splitT (splitT t f).2 0).1 = S3 at *
  generalize (splitT t f).2 = S2 at *
  generalize (splitT t f).1 = S1 at *
  go_enter Try.func32, Try.ntmps32
  go_wp2_with fail
  refine c1.mono ?_
  rintro e w1 ⟨rfl, k1⟩
  have t1 := h.below k1
  go_wp2_with fail
  refine (len_any w1 t1).mono ?_
  rintro e w2 ⟨rfl, k2⟩
  have t2 := t1.below k2
  obtain ⟨A, a0, a1, a2, a3, a4⟩ := t2
  clear c1 h t1
  go_wp2_with fail
  refine (c42 w2 A a4).mono ?_
  intro e w3 h3
  unfold RetNN at h3
  obtain ⟨A1, A2, rfl, n1, n2, k3⟩ := h3
  go_wp2_with fail
  refine (c43 w3 A2 n2).mono ?_
  intro e w4 h4
  unfold RetNN at h4
  obtain ⟨A3, A4, rfl, n3, n4, k4⟩ := h4
  go_wp2_with fail
  refine (around_any w4 fa (NAt.below k4 n1) n4).mono ?_
  intro e w5 h5
  unfold RetN at h5
  obtain ⟨A5, rfl, n5, k5⟩ := h5
  have hk : Below w2.heap.size w2 w5 := (k3.trans (k4.mono k3.size)).trans (k5.mono (Nat.le_trans k3.size k4.size))
  have hk0 : Below w.heap.size w w5 := (k1.trans (k2.mono k1.size)).trans (hk.mono (Nat.le_trans k1.size k2.size))
  have b0 := (hk.cell (p := ⟨b, 0, none⟩) a3).trans a0
  have b1 := (hk.cell (p := ⟨b, 1, none⟩) a3).trans a1
  have b2 := (hk.frozen (p := ⟨b, 0, none⟩) a3).trans a2
  have b3 : b < w5.heap.size := Nat.lt_of_lt_of_le a3 hk.size
  clear c42 c43 a0 a1 a2 n1 n2 n3 n4
  go_wp2
  go_ret
  have hB5 : But b w5 (w5.setCell ⟨b, 0, none⟩ (.pointer A5)) := But.store (Below.refl _ w5) _
  refine ⟨rfl, ⟨A5, by simp [go_sem, b0], ?_, by rw [World.frozen?_setCell]; exact b2, by rw [World.size_setCell]; exact b3, by rw [HR.out]; exact NAt.but hB5 b1 n5⟩, But.store hk0 _⟩
  simp [go_sem, b1]
set_option maxRecDepth 100000 in
set_option maxHeartbeats 4000000 in
theorem rep_same {b : Nat} {t : Tr} (f : Nat) (w : World) (h : TAt w b t) (h2 : f ≤ t.bytes.length) (ht : t.bytes.length ≤ 65536) :
    Calls Try.prog 32 #[.pointer (some ⟨b, 0, none⟩), .int .i64 (f : Nat), .int .i64 (f : Nat), .string (bs [])] w fun e w' => e = .returned (.int .i64 0) ∧ Below w.heap.size w w' := by
  have hz : (bs []).size = 0 := bs_size []
  have hE : (bs []).toList.isEmpty = true := by rw [bs_toList]; rfl
  have c1 := check_any (f : Int) (f : Int) w h
  rw [chk_ok (Nat.le_refl f) h2] at c1
  have i1 : ¬ (65536 : Int) < ((t.bytes.length : Nat) : Int) := by omega
  go_enter Try.func32, Try.ntmps32
  go_wp2_with fail
  refine c1.mono ?_
  rintro e w1 ⟨rfl, k1⟩
  go_wp2_with fail
  refine (len_any w1 (h.below k1)).mono ?_
  rintro e w2 ⟨rfl, k2⟩
  go_wp2
  go_ret
  exact ⟨rfl, k1.trans (k2.mono k1.size)⟩
set_option maxRecDepth 100000 in
set_option maxHeartbeats 4000000 in
theorem rep_bad {b : Nat} {t : Tr} (x y : Int) (s : ByteArray) (w : World) (h : TAt w b t) (hc : chk x y t.bytes.length = 2) :
    Calls Try.prog 32 #[.pointer (some ⟨b, 0, none⟩), .int .i64 x, .int .i64 y, .string s] w fun e w' => e = .returned (.int .i64 2) ∧ Below w.heap.size w w' := by
  have c1 := check_any x y w h
  rw [hc] at c1
  go_enter Try.func32, Try.ntmps32
  go_wp2_with fail
  refine c1.mono ?_
  rintro e w1 ⟨rfl, k1⟩
  go_wp2
  go_ret
  exact ⟨rfl, k1⟩
set_option maxRecDepth 100000 in
set_option maxHeartbeats 4000000 in
theorem rep_long {b : Nat} {t : Tr} (f g : Nat) (s : List UInt8) (w : World) (h : TAt w b t) (h1 : f ≤ g) (h2 : g ≤ t.bytes.length) (ht : t.bytes.length ≤ 65536) (hs : s.length ≤ 1000000) (hm : 65536 < t.bytes.length - (g - f) + s.length) :
    Calls Try.prog 32 #[.pointer (some ⟨b, 0, none⟩), .int .i64 (f : Nat), .int .i64 (g : Nat), .string (bs s)] w fun e w' => e = .returned (.int .i64 10) ∧ Below w.heap.size w w' := by
  have hz : (bs s).size = s.length := bs_size s
  have c1 := check_any (f : Int) (g : Int) w h
  rw [chk_ok h1 h2] at c1
  have i1 : (65536 : Int) < ((t.bytes.length : Nat) : Int) - ((g : Int) - (f : Int)) + (s.length : Nat) := by omega
  go_enter Try.func32, Try.ntmps32
  go_wp2_with fail
  refine c1.mono ?_
  rintro e w1 ⟨rfl, k1⟩
  go_wp2_with fail
  refine (len_any w1 (h.below k1)).mono ?_
  rintro e w2 ⟨rfl, k2⟩
  go_wp2
  go_ret
  exact ⟨rfl, k1.trans (k2.mono k1.size)⟩
set_option maxRecDepth 100000 in
theorem rep_nil (x y : Int) (s : ByteArray) (w : World) : Calls Try.prog 32 #[.pointer none, .int .i64 x, .int .i64 y, .string s] w fun e w' => e = .returned (.int .i64 1) ∧ w' = w := by
  go_enter Try.func32, Try.ntmps32
  go_wp2_with fail
  refine (check_nil x y w).mono ?_
  rintro e w1 ⟨rfl, rfl⟩
  go_wp2
  go_ret
  exact ⟨rfl, rfl⟩
end Go.Proofs.Ytonplacldckbgaa
