import Derived.Test.YtblabbeaaajlkaaI1
namespace Go.Proofs.Ytblabbeaaajlkaa
open Go.RowKit
open U

/-- A slice of numbers in memory, with its room. -/
def IntsCap (w : World) (v : Value) (P : List Nat) : Prop :=
  (P = [] ∧ v = .slice none 0 0) ∨ ∃ g cap, v = .slice (some ⟨g, 0, none⟩) P.length cap ∧ P.length ≤ cap ∧ cap ≤ 9223372036854775807 ∧ g < w.heap.size ∧ ∀ j (h : j < P.length), w.cell? ⟨g, j, none⟩ = some (.int .i64 ((P[j] : Nat) : Int))
theorem IntsCap.of {w : World} {base : Nat} {v : Value} {P : List Nat} (h : w.ownsRow base 3 1 v P.length (ints P)) : IntsCap w v P := by
  rcases IntsAt.of h with h1 | ⟨g, cap, hv, hg, hc⟩
  · exact .inl h1
  · refine .inr ⟨g, cap, hv, ?_, ?_, hg, hc⟩
    all_goals
      rcases h.2 with ⟨h1, _⟩ | ⟨g2, cap2, cur, h1, _, _, h2, h3, _⟩
      · rw [hv] at h1; cases h1
      · rw [hv] at h1; cases h1; unfold maxLen at h3; omega
theorem IntsCap.below {w w' : World} {v : Value} {P : List Nat} (h : IntsCap w v P) (hb : Below w.heap.size w w') : IntsCap w' v P := by
  rcases h with h | ⟨g, cap, hv, h1, h2, hg, hc⟩
  · exact .inl h
  · exact .inr ⟨g, cap, hv, h1, h2, Nat.lt_of_lt_of_le hg hb.size, fun j hj => (hb.cell (p := ⟨g, j, none⟩) hg).trans (hc j hj)⟩
/-- The numbers of a beginning, in the same row. -/
theorem prefix_at {w : World} {g cap : Nat} {P : List Nat} (hg : g < w.heap.size) (hc : ∀ j (h : j < P.length), w.cell? ⟨g, j, none⟩ = some (.int .i64 ((P[j] : Nat) : Int))) (i : Nat) (hi : i ≤ P.length) : SliceAt w (.slice (some ⟨g, 0, none⟩) i cap) (asInts (P.take i)) := by
  have e : (asInts (P.take i)).length = i := by rw [asInts_length, List.length_take]; omega
  refine .inr ⟨g, 0, cap, by rw [e], hg, fun j hj => ?_⟩
  rw [e] at hj
  rw [asInts_get, Nat.zero_add, hc j (by omega), List.getElem_take]
theorem pts_take {P : List Nat} (h : Pts P) (i : Nat) : Pts (P.take i) := fun p hp => h p (List.mem_of_mem_take hp)
theorem make_prefix {P : List Nat} (hP : Pts P) (hl : P.length ≤ 200000) (i : Nat) : ∃ X : ByteArray, X.size = off P i ∧ ∀ (w : World) (v : Value), SliceAt w v (asInts (P.take i)) → Calls Try.prog 24 #[v] w fun e w' => e = .returned (.string X) ∧ Below w.heap.size w w' := by
  refine ⟨⟨(U.bytes (P.take i)).toArray⟩, rfl, fun w v h => ?_⟩
  exact refMake_ok v (P.take i) (pts_take hP i) (by rw [List.length_take]; omega) w h

/-- What the reference's Points hands back. -/
def RefCapRet (P : List Nat) (w : World) (e : Ending) (w' : World) : Prop := ∃ v, e = .returned v ∧ IntsCap w' v P ∧ Below w.heap.size w w'
set_option maxRecDepth 100000 in
set_option maxHeartbeats 4000000 in
theorem refPoints_cap {s P bad} (h : Str s P bad) (w : World) :
    Calls Try.prog 23 #[.string s] w (RefCapRet P w) := by
  obtain ⟨i0, hi, hz0, hz1, hz2⟩ := info_parts intInfo
  have hsz := h.small
  have hsize := h.size
  have hend := off_end P
  have hll := (bytes_len P).1
  rw [← hend] at hsize hll
  have hP : P.length ≤ 1000000 := by omega
  clear hend hll
  have HZ := Lib.hid hsize
  clear hsize
  go_enter Try.func23, Try.ntmps23
  go_wp2
  go_loopw [3, 4] (fun v i wr => ∃ k : Nat, k ≤ P.length ∧ i = .int .i64 (off P k : Nat) ∧ wr.ownsRow w.heap.size 3 1 v k (ints (P.take k)) ∧ Below w.heap.size w wr) (fun _ i _ => s.size - (intOf i).toNat)
  case atStart => exact ⟨0, Nat.zero_le _, rfl, World.ownsRow_nil _ _ _ _, Below.refl _ _⟩
  case round =>
    obtain ⟨k, hk, rfl, hown, hbw⟩ := hrel
    have hw0 := hbw.size
    by_cases hlt : k < P.length
    · have h1 := h.lt k hlt
      have h2 := enc_pos P[k]
      have k2 : (((enc P[k]).length : Int) == 0) = false := by rw [beq_eq_false_iff_ne]; omega
      have HS := Lib.hid (off_succ P k hlt)
      have HT := Lib.hid (show P.take (k + 1) = P.take k ++ [P[k]] from List.take_succ_eq_append_getElem hlt)
      go_wp2_with fail
      refine (decode_ok h k hlt _).mono ?_
      rintro e w1 ⟨rfl, hb1⟩
      have hown1 : w1.ownsRow w.heap.size 3 1 _ k (ints (P.take k)) := ownsRow_below hown hb1
      have hw1 := hb1.size
      have hbw1 := chain hbw hb1
      go_wp2_with (at_builtin; refine wpList_append_own _ rfl _ _ 28 rfl w.heap.size 3 i0 (.int .i64 0) 1 8 Try.underlying28 hi hz0 hz1 hz2 rfl (by decide) _ _ _ rfl (hown1.alloc _) ⟨w1.heap.size, 0, none⟩ 1 1 [.int .i64 ((P[k] : Nat) : Int)] rfl rfl (cell_one_new _ _ _) (by intro u hu; simp at hu; subst hu; rfl) (by unfold maxLen; omega) (by omega) (by simp; omega) ?_; intro v2 w2 hown2 hgrow2 _)
      go_roundw
      case rel =>
        refine ⟨k + 1, by omega, by rw [HS.out]; go_num, ?_, (hbw1.alloc (by omega) _).grown hgrow2 (by simp; omega) (fun j e => (hown1.lt j e).1)⟩
        rw [HT.out, ints_snoc]; exact hown2
      case measure => simp [intOf]; omega
    · obtain rfl : k = P.length := by omega
      have hz := HZ.out
      rw [List.take_length] at hown
      have HI := Lib.hid (IntsCap.of hown)
      by_cases hb : bad = []
      · have k1 : ¬ ((off P P.length : Nat) : Int) < (s.size : Int) := by rw [hb, List.length_nil] at hz; omega
        clear hz hb hown
        go_wp2
        go_ret
        exact ⟨_, rfl, HI.out, hbw⟩
      · have h3 : 0 < bad.length := List.length_pos_iff.2 hb
        have k1 : ((off P P.length : Nat) : Int) < (s.size : Int) := by omega
        clear hz hb hown
        go_wp2_with (go_at_call 26; refine (decode_end h _).mono ?_; rintro e w1 ⟨rfl, hb1⟩)
        go_ret
        exact ⟨_, rfl, HI.out.below hb1, chain hbw hb1⟩
end Go.Proofs.Ytblabbeaaajlkaa
