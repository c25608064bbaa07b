/- Layer 22: cut (12), one (11). -/
import Derived.Test.YtmpklkhjipclmaaVD
import Derived.Test.YtmpklkhjipclmaaVB
namespace Go.Proofs.Ytmpklkhjipclmaa
open Go.RowKit Go.Lib
set_option linter.unusedVariables false

/-- The first bytes of a name. -/
def cutS (s : ByteArray) : ByteArray := s.extract 0 (min s.size 60)
def cutR (x : Rv) : Rv := ⟨x.id, cutS x.author, x.time⟩
def cutL (l : List Rv) : List Rv := (l.take 40).map cutR
theorem cutS_size (s : ByteArray) : (cutS s).size ≤ 60 := by unfold cutS; rw [ByteArray.size_extract]; omega
theorem cutL_len (l : List Rv) : (cutL l).length = min 40 l.length := by unfold cutL; rw [List.length_map, List.length_take]
theorem cutL_sz (l : List Rv) : ∀ x ∈ cutL l, x.author.size ≤ 60 := by
  intro x hx
  obtain ⟨y, _, rfl⟩ := List.mem_map.1 hx
  exact cutS_size y.author
theorem cutL_ok {l : List Rv} (h : RsOk l) : RsOk (cutL l) := by
  intro x hx
  obtain ⟨y, hy, rfl⟩ := List.mem_map.1 hx
  obtain ⟨h1, h2, _⟩ := h y (List.mem_of_mem_take hy)
  exact ⟨h1, h2, by have := cutS_size y.author; unfold maxLen; show (cutS y.author).size ≤ _; omega⟩
theorem szok {l : List Rv} (h : ∀ x ∈ l, x.author.size ≤ 60) : SzOk l := fun x hx => by have := h x hx; omega
theorem rv_news (W : World) (x : Rv) : ∀ j u, (rowR1 x)[j]? = some u → (W.alloc (.cells #[.int .i64 x.id, .string x.author, .int .i64 x.time] 23)).cell? ((⟨W.heap.size, 0, none⟩ : Addr).add j) = some u := by
  intro j u hj
  rw [Addr.add_lit, Nat.zero_add, World.cell?_alloc_new]
  simpa [rowR1] using hj
theorem cut_val (s : ByteArray) (hs : s.size ≤ maxLen) : min (s.size : Int) 60 = ((min s.size 60 : Nat) : Int) := by omega
set_option maxRecDepth 100000 in
set_option maxHeartbeats 4000000 in
theorem one_any (x : Rv) (hs : x.author.size ≤ maxLen) (w : World) : Calls Try.prog 11 #[rvV x] w fun e w' => e = .returned (rvV (cutR x)) ∧ Below w.heap.size w w' := by
  obtain ⟨a, s, t⟩ := x
  unfold cutR cutS rvV
  dsimp only at hs ⊢
  unfold maxLen at hs
  obtain ⟨n, hn⟩ : ∃ n, s.size = n := ⟨_, rfl⟩
  rw [hn] at hs
  have HN := Lib.hid hn
  by_cases h : n ≤ 60
  · skip
    have hm : min n 60 = n := by omega
    have hm2 : min (n : Int) 60 = (n : Int) := by omega
    have h1 : (n : Int) ≤ 9223372036854775807 := by omega
    have kb := (((Below.refl w.heap.size w).alloc (Nat.le_refl _) (.cells #[.int .i64 a, .string (s.extract 0 n), .int .i64 t] 23)).alloc (by simp) (.cells #[.int .i64 a, .string (s.extract 0 n), .int .i64 t] 23))
    have O := ObjAt.new (w.alloc (.cells #[.int .i64 a, .string (s.extract 0 n), .int .i64 t] 23)) #[.int .i64 a, .string (s.extract 0 n), .int .i64 t] 23
    rw [World.size_alloc] at O
    have q0 := O.b0
    have q1 := O.b1
    have q2 := O.b2
    have HB := Lib.hid kb
    rw [hn, hm]
    clear kb O
    go_enter Try.func11, Try.ntmps11
    go_wp2
    exact bodyPost_ret (v := .agg #[.int .i64 a, .string (s.extract 0 n), .int .i64 t]) (by simp [results, Try.results11, go_sem, q0, q1, q2]) rfl ⟨rfl, HB.out⟩
  · skip
    have hm : min n 60 = 60 := by omega
    have hm2 : min (n : Int) 60 = 60 := by omega
    have h40 : (60 : Int) ≤ (n : Int) := by omega
    have h41 : ¬ (n : Int) ≤ 60 := by omega
    have h42 : ¬ n ≤ 60 := by omega
    have h1 : (n : Int) ≤ 9223372036854775807 := by omega
    have kb := (((Below.refl w.heap.size w).alloc (Nat.le_refl _) (.cells #[.int .i64 a, .string (s.extract 0 60), .int .i64 t] 23)).alloc (by simp) (.cells #[.int .i64 a, .string (s.extract 0 60), .int .i64 t] 23))
    have O := ObjAt.new (w.alloc (.cells #[.int .i64 a, .string (s.extract 0 60), .int .i64 t] 23)) #[.int .i64 a, .string (s.extract 0 60), .int .i64 t] 23
    rw [World.size_alloc] at O
    have q0 := O.b0
    have q1 := O.b1
    have q2 := O.b2
    have HB := Lib.hid kb
    rw [hn, hm]
    clear kb O
    go_enter Try.func11, Try.ntmps11
    go_wp2
    exact bodyPost_ret (v := .agg #[.int .i64 a, .string (s.extract 0 60), .int .i64 t]) (by simp [results, Try.results11, go_sem, q0, q1, q2]) rfl ⟨rfl, HB.out⟩

def CutR_ (l : List Rv) (w : World) (e : Ending) (w' : World) : Prop := ∃ A cb, e = .returned (.slice A (cutL l).length cb) ∧ (cutL l).length ≤ cb ∧ cb ≤ maxLen ∧ RsAt w' A (cutL l) ∧ Below w.heap.size w w' ∧ w'.ownsRow w.heap.size 23 3 (.slice A (cutL l).length cb) (cutL l).length (rowR (cutL l))
theorem cutL_snoc (l : List Rv) (k : Nat) (h : k < l.length) (h40 : k < 40) : (l.take (k + 1)).map cutR = (l.take k).map cutR ++ [cutR l[k]] := by
  rw [List.take_succ_eq_append_getElem h, List.map_append]; rfl
set_option maxRecDepth 100000 in
set_option maxHeartbeats 8000000 in
theorem cut_any (l : List Rv) (n : Nat) (hn : l.length = n) (hok : RsOk l) (A : Option Addr) (c : Nat) (hc : n ≤ c ∧ c ≤ maxLen) (w : World) (hA : RsAt w A l) :
    Calls Try.prog 12 #[.slice A n c] w (CutR_ l w) := by
  obtain ⟨i0, hi, hz0, hz1, hz2⟩ := info_parts info23
  have hc1 := hc.1
  have hc2 := hc.2
  unfold maxLen at hc2
  have HN := Lib.hid hn
  have HA := Lib.hid hA
  have HOK := Lib.hid hok
  have hb0 := Lib.hid (Below.refl w.heap.size w)
  have R0 := Lib.hid (World.ownsRow_nil w w.heap.size 23 3)
  clear hn hA hok hc
  go_enter Try.func12, Try.ntmps12
  go_wp2_with fail
  go_loopw [3, 4] (fun s3 s4 wr => ∃ k : Nat, k ≤ n ∧ k ≤ 40 ∧ s4 = .int .i64 (k : Nat) ∧ Hid (Below w.heap.size w wr) ∧ ∃ B cb, s3 = .slice B k cb ∧ Hid (wr.ownsRow w.heap.size 23 3 (.slice B k cb) k (rowR ((l.take k).map cutR)))) (fun _ s4 _ => n - (intOf s4).toNat)
  case atStart => exact ⟨0, Nat.zero_le _, Nat.zero_le _, rfl, hb0, none, 0, rfl, R0⟩
  case round =>
    clear hb0 R0
    obtain ⟨k, hk, hk40, rfl, HB, B, cb, rfl, HR⟩ := hrel
    by_cases hlt : k < n
    case neg =>
      obtain rfl : k = n := by omega
      have HE := Lib.hid (show (l.take k).map cutR = cutL l by unfold cutL; rw [List.take_of_length_le (show l.length ≤ k by rw [HN.out]; exact Nat.le_refl _), List.take_of_length_le (by rw [HN.out]; exact hk40)])
      have HL := Lib.hid (show (cutL l).length = k by rw [cutL_len, HN.out]; omega)
      go_wp2
      go_ret
      obtain ⟨A', cb', e1, e2, e3, e4⟩ := row_rs HR.out (by rw [HE.out, HL.out])
      injection e1 with e5 e6 e7
      subst e5 e7
      exact ⟨B, cb, by rw [HL.out]; rfl, by rw [HL.out]; exact e2, e3, by rw [← HE.out]; exact e4, HB.out, by have := HR.out; rw [HE.out] at this; rw [HL.out]; exact this⟩
    by_cases hlt40 : k < 40
    case neg =>
      obtain rfl : k = 40 := by omega
      have HE := Lib.hid (show (l.take 40).map cutR = cutL l from rfl)
      have HL := Lib.hid (show (cutL l).length = 40 by rw [cutL_len, HN.out]; omega)
      have q1 : ((40 : Nat) : Int) < (n : Int) := by omega
      have q2 : (40 : Int) < (n : Int) := by omega
      go_wp2
      go_ret
      obtain ⟨A', cb', e1, e2, e3, e4⟩ := row_rs HR.out (by rw [HE.out, HL.out])
      injection e1 with e5 e6 e7
      subst e5 e7
      exact ⟨B, cb, by rw [HL.out]; rfl, by rw [HL.out]; exact e2, e3, by rw [← HE.out]; exact e4, HB.out, by have := HR.out; rw [HE.out] at this; rw [HL.out]; exact this⟩
    have hkl : k < l.length := by rw [HN.out]; exact hlt
    obtain ⟨g, o, rfl, hg, hcl⟩ := HA.out.pos (by omega)
    obtain ⟨c0, c1, c2⟩ := hcl k hkl
    have z0 := (HB.out.cell (p := ⟨g, o + k * 3, none⟩) hg).trans c0
    have z1 := (HB.out.cell (p := ⟨g, o + k * 3 + 1, none⟩) hg).trans c1
    have z2 := (HB.out.cell (p := ⟨g, o + k * 3 + 2, none⟩) hg).trans c2
    have f1 : (k : Int) < (n : Int) := by omega
    have f2 : (k : Int) < 40 := by omega
    have HS := Lib.hid (cutL_snoc l k hkl hlt40)
    obtain ⟨_, _, i3⟩ := HOK.out _ (List.getElem_mem hkl)
    have sB := HB.out.size
    clear hcl c0 c1 c2
    generalize l[k] = x at z0 z1 z2 HS i3
    obtain ⟨a, s, t⟩ := x
    unfold maxLen at i3
    dsimp only at z0 z1 z2 i3
    obtain ⟨q, hq⟩ : ∃ q, s.size = q := ⟨_, rfl⟩
    rw [hq] at i3
    obtain ⟨m, hm⟩ : ∃ m, min q 60 = m := ⟨_, rfl⟩
    have hcx : cutR ⟨a, s, t⟩ = ⟨a, s.extract 0 m, t⟩ := by unfold cutR cutS; dsimp only; rw [hq, hm]
    rw [hcx] at HS
    clear hcx
    have HQ := Lib.hid hq
    have hq1 : (q : Int) ≤ 9223372036854775807 := by omega
    have hmm : min (q : Int) 60 = (m : Int) := by omega
    have hmq : (m : Int) ≤ (q : Int) := by omega
    have hmq2 : m ≤ q := by omega
    have nw := rv_news (wr.alloc (.cells #[.int .i64 a, .string (s.extract 0 m), .int .i64 t] 23)) ⟨a, s.extract 0 m, t⟩
    rw [World.size_alloc] at nw
    have NW := Lib.hid nw
    have B1 := Lib.hid ((HB.out.alloc sB (.cells #[.int .i64 a, .string (s.extract 0 m), .int .i64 t] 23)).alloc (by simp; omega) (.cells #[.int .i64 a, .string (s.extract 0 m), .int .i64 t] 23))
    have s1 := B1.out.size
    have hrow := (HR.out.kept (World.grownBy_alloc wr (.cells #[.int .i64 a, .string (s.extract 0 m), .int .i64 t] 23) none) (by cases (Value.slice B k cb).ownBlock <;> simp)).kept (World.grownBy_alloc _ (.cells #[.int .i64 a, .string (s.extract 0 m), .int .i64 t] 23) none) (by cases (Value.slice B k cb).ownBlock <;> simp)
    have HROW := Lib.hid hrow
    have HBL := Lib.hid (fun j (e : some j = (Value.slice B k cb).ownBlock) => (hrow.lt j e.symm).1)
    clear nw hm hrow
    go_wp2_with (at_builtin; refine wpList_append_own _ rfl _ _ 24 rfl w.heap.size 23 i0 (.agg #[.int .i64 0, .string ByteArray.empty, .int .i64 0]) 3 32 Try.underlying24 hi hz0 hz1 hz2 rfl (by decide) _ _ _ rfl HROW.out ⟨wr.heap.size + 1, 0, none⟩ 1 1 (rowR1 ⟨a, s.extract 0 m, t⟩) rfl rfl NW.out (rowR1_one _) (by unfold maxLen; omega) (by omega) s1 ?_; intro v1 w1 hown1 hgrow1 _; obtain ⟨g1, cap1, rfl⟩ := ownsRow_succ hown1)
    have HO := Lib.hid (show w1.ownsRow w.heap.size 23 3 (.slice (some ⟨g1, 0, none⟩) (k + 1) cap1) (k + 1) (rowR ((l.take (k + 1)).map cutR)) by rw [HS.out, rowR_snoc]; exact hown1)
    have B2 := Lib.hid (B1.out.grown hgrow1 s1 (fun j e => HBL.out j e.symm))
    exact ⟨⟨k + 1, by omega, by omega, by go_num, B2, some ⟨g1, 0, none⟩, cap1, rfl, HO⟩, by simp [intOf]; omega⟩
end Go.Proofs.Ytmpklkhjipclmaa
